import PyProof.Rows.All
import Wide.All
import OpenK.AllK
import Wide.FinOn
import KE.OsRunLaw
import KE.KMinKey
import KE.KExcIs
import HandS.ForMost
import HandS.Walk
import HandS.SortKw
import HandS.Exc
import HandS.ExcInit
import HandS.ExcField
import HandS.TryMany
import HandS.IsInst
import HandS.WordsExc
import HandS.StrMore
import HandS.CallSlots
import HandS.Codes
import HandS.Set
import HandS.Strs
import HandS.SetFor
import PyProof.WalksS
import HandS.Zip0
import HandS.List
import PyProof.ReprRoads
import HandS.OwnEq
import HandS.IterVal
import HandS.Gcd
import HandS.DictComp
import HandS.ClsMeth
import HandS.Defaults
import KE.KMathGC
import HandS.FStr
import HandS.Property
import HandS.Deep
import HandS.Style
import KE.SortKeyHeap
import KE.KLam
import PyProof.Rows.TupSub
import HandS.Lambda
import HandS.MakeKwOnly
import HandS.TryOnly
import PySem.Challenge.RW_seamfast_k05_roll_texts
set_option Elab.async false
set_option linter.all false
set_option maxRecDepth 100000
set_option maxHeartbeats 4000000
theorem Sea.split3 {a b c d : Type} {o : Option a} {A : a → b} {B : a → c} {C : a → d} {x : b} {y : c} {z : d} (h1 : o.map A = some x) (h2 : o.map B = some y) (h3 : o.map C = some z) : o.map (fun q => (A q, B q, C q)) = some (x, y, z) := by
  cases o with
  | none => cases h1
  | some v =>
    have e1 : A v = x := Option.some.inj h1
    have e2 : B v = y := Option.some.inj h2
    have e3 : C v = z := Option.some.inj h3
    show some (A v, B v, C v) = _
    rw [e1, e2, e3]
section
open PySem PySem.W PyProof.Rows HeadRun
theorem Sea.lw6 {t A B : Type} {o : Option t} (F : A → t → B) (G : A → B) {a b : A} (e : a = b) (h : o.map (F b) = some (G b)) : o.map (F a) = some (G a) := by
  subst e
  exact h
theorem Sea.join {t : Type} (o : Option t) (f : t → Shared) (V : Program) (L M W' NL : List Str) (X : Shared → Bool) (eW : looseW V L = W') (eN : (recsOf V).map (·.name) = NL)
    (h1 : o.map (fun x => seen NL (ownsOf V) [] { f x with gens := #[] }) = some (expectedOf V))
    (h3 : o.map (fun x => (f x).heap.keysOk W' NL ((litsOf V).map (·.1)) ((clssOf V W').map (·.name)) && (f x).heap.accountedOkI M && (f x).heap.isNs mainGlobals && (f x).heap.isNs builtinsNs && tablesOk V (f x).heap && X (f x) && (if true then (f x).gens.size == 0 else !leftWithCleanup (f x).gens)) = some true)
    (h4 : o.map (fun x => NL.all fun d => (f x).heap.tab0Ok d) = some true) (h4b : o.map (fun x => ((f x).heap.bmainOk && valsOk V (f x).heap) && (!importsNone V || (f x).heap.noSeerOk)) = some true)
    (h5 : o.map (fun x => pinSeenD V (drecsOf V) (f x)) = some (pinGoodD (drecsOf V))) (h6 : o.map (fun x => plainSeenE V W' (f x)) = some (plainGoodE V W'))
    (h8 : o.map (fun x => wideSeen V (f x)) = some (wideGood V)) (h7 : o.map (fun x => (plainSeenD V L (f x), clsSeenW V L (f x), (f x).heap.bltView)) = some (plainGoodD V L, clsGoodW V L, bltViewBooted)) :
    o.map (fun x => seenQ V L M X (f x)) = some (openGood V L) := by
  subst eW
  subst eN
  have e : (fun x => seenQ V L M X (f x)) = fun x => openSeen V L M X true (f x) := funext fun x => (seenQ_eq V L M X (f x)).symm
  rw [e]
  cases o with
  | none => cases h1
  | some v =>
    have e1 := Option.some.inj h1
    have e3 := Option.some.inj h3
    have e4 := Option.some.inj h4
    have e4b := Option.some.inj h4b
    have e5 := Option.some.inj h5
    have e6 := Option.some.inj h6
    have e8 := Option.some.inj h8
    have e7 := Option.some.inj h7
    have ea := congrArg Prod.fst e7
    have eb := congrArg (fun z => z.2.1) e7
    have ec := congrArg (fun z => z.2.2) e7
    dsimp only at ea eb ec
    have e4' : tabsOk V (f v) = true := by
      unfold tabsOk
      rw [Bool.and_eq_true] at e4b ⊢
      rw [Bool.and_eq_true] at e4b
      have e4c : ((recsOf V).all fun d => (f v).heap.tab0Ok d.name) = true := by
        have e5c : (((recsOf V).map (·.name)).all fun d => (f v).heap.tab0Ok d) = true := e4
        rw [List.all_map] at e5c
        exact e5c
      exact ⟨by rw [Bool.and_eq_true, Bool.and_eq_true]; exact ⟨⟨e4c, e4b.1.1⟩, e4b.1.2⟩, e4b.2⟩
    have e0 : openSeen V L M X true (f v) = openGood V L := Prod.ext e1 (Prod.ext ec (Prod.ext e3 (Prod.ext e4' (Prod.ext e5 (Prod.ext e6 (Prod.ext ea (Prod.ext e8 eb)))))))
    show some (openSeen V L M X true (f v)) = some (openGood V L)
    rw [e0]
theorem Sea.pr1 {t a b : Type} {o : Option t} {F : t → a} {G : t → b} {x : a} {y : b} (h : o.map (fun q => (F q, G q)) = some (x, y)) : o.map F = some x := by
  cases o with
  | none => cases h
  | some v => exact congrArg some (congrArg Prod.fst (Option.some.inj h))
theorem Sea.pr2 {t a b : Type} {o : Option t} {F : t → a} {G : t → b} {x : a} {y : b} (h : o.map (fun q => (F q, G q)) = some (x, y)) : o.map G = some y := by
  cases o with
  | none => cases h
  | some v => exact congrArg some (congrArg Prod.snd (Option.some.inj h))
theorem Sea.all2 {t : Type} (o : Option t) (f : t → Shared) (A B N : List Str) (e : A ++ B = N) (h1 : o.map (fun x => A.all fun d => (f x).heap.tab0Ok d) = some true) (h2 : o.map (fun x => B.all fun d => (f x).heap.tab0Ok d) = some true) : o.map (fun x => N.all fun d => (f x).heap.tab0Ok d) = some true := by
  subst e
  cases o with
  | none => cases h1
  | some v =>
    have e1 : (A.all fun d => (f v).heap.tab0Ok d) = true := Option.some.inj h1
    have e2 : (B.all fun d => (f v).heap.tab0Ok d) = true := Option.some.inj h2
    show some ((A ++ B).all fun d => (f v).heap.tab0Ok d) = some true
    rw [List.all_append, e1, e2]
    rfl
theorem Sea.seen3 {t : Type} (o : Option t) (f : t → Shared) (A B C N : List Str) (ow : List OwnSpec) (E : List (Option FnShape)) (k m : Nat) (e : A ++ B ++ C = N) (h1 : o.map (fun x => seen A ow [] { f x with gens := #[] }) = some (Seen.mk (E.take k) true [] true true true 0))
    (h2 : o.map (fun x => B.map ((f x).heap.shapeAt mainGlobals)) = some ((E.drop k).take m)) (h3 : o.map (fun x => C.map ((f x).heap.shapeAt mainGlobals)) = some ((E.drop k).drop m)) : o.map (fun x => seen N ow [] { f x with gens := #[] }) = some (Seen.mk E true [] true true true 0) := by
  subst e
  cases o with
  | none => cases h1
  | some v =>
    have e1 := Option.some.inj h1
    have e2 : B.map ((f v).heap.shapeAt mainGlobals) = (E.drop k).take m := Option.some.inj h2
    have e3 : C.map ((f v).heap.shapeAt mainGlobals) = (E.drop k).drop m := Option.some.inj h3
    have d1 : A.map ((f v).heap.shapeAt mainGlobals) = E.take k := congrArg Seen.defs e1
    have dd : (A ++ B ++ C).map ((f v).heap.shapeAt mainGlobals) = E := by
      rw [List.map_append, List.map_append, d1, e2, e3, List.append_assoc, List.take_append_drop, List.take_append_drop]
    have o1 : ow.all (fun o => ({ f v with gens := #[] } : Shared).heap.ownExcOk o.name o.chain o.bm o.newId && ({ f v with gens := #[] } : Shared).heap.quietOk o.name) = true := congrArg Seen.ownsOk e1
    have g1 : ({ f v with gens := #[] } : Shared).heap.isNs mainGlobals = true := congrArg Seen.globalsOk e1
    have g2 : ({ f v with gens := #[] } : Shared).heap.isNs builtinsNs = true := congrArg Seen.builtinsOk e1
    have g3 : (({ f v with gens := #[] } : Shared).heap.noLimitOk && ({ f v with gens := #[] } : Shared).heap.noDigitsOk) = true := congrArg Seen.noLimit e1
    show some (Seen.mk _ _ _ _ _ _ _) = some (Seen.mk _ _ _ _ _ _ _)
    exact congrArg some (by
      show Seen.mk ((A ++ B ++ C).map ((f v).heap.shapeAt mainGlobals)) _ _ _ _ _ _ = _
      rw [dd, o1, g1, g2, g3]
      rfl)
theorem Sea.wide3 {t : Type} (o : Option t) (f : t → Shared) (V : Program) (h1 : o.map (fun x => (wdefsOf V).map fun d => shapeAtK (f x).heap d.1.name) = some ((wdefsOf V).map fun d => some d.1.shape)) (h2 : o.map (fun x => (wdefsOf V).all fun d => (f x).heap.restOk (V.nameAt false d.1.name) d.1.name && dfltAt (f x).heap d) = some true)
    (h3 : o.map (fun x => (wlitsOf V).all (constAt (f x).heap)) = some true) : o.map (fun x => wideSeen V (f x)) = some (wideGood V) := by
  cases o with
  | none => cases h1
  | some v =>
    have e1 : ((wdefsOf V).map fun d => shapeAtK (f v).heap d.1.name) = (wdefsOf V).map fun d => some d.1.shape := Option.some.inj h1
    have e2 : ((wdefsOf V).all fun d => (f v).heap.restOk (V.nameAt false d.1.name) d.1.name && dfltAt (f v).heap d) = true := Option.some.inj h2
    have e3 : (wlitsOf V).all (constAt (f v).heap) = true := Option.some.inj h3
    have e0 : wideSeen V (f v) = wideGood V := Prod.ext e1 (by
      show (_ && _) = true
      rw [e2, e3]
      rfl)
    exact congrArg some e0
end
section
local macro_rules | `(tactic| kernel_rfl) => `(tactic| (exact False.elim (by assumption)))
open PySem PySem.W PyProof.Rows
set_option maxRecDepth 100000 in
set_option maxHeartbeats 0 in
theorem Sea.shape (no : False) : PySem.Challenge.rw_seamfast_k05_roll_texts.Holds := by
  w_on; o_law; k_headL; (case hw => w_witness2)
  exact no.elim
end
noncomputable section
open PySem PySem.W PyProof.Rows HeadRun
set_option maxRecDepth 100000
set_option maxHeartbeats 0
abbrev Sea.theTop : Program := PySem.Challenge.rw_seamfast_k05_roll_texts.row.prog
abbrev Sea.theRun (w : World) := wholeF (fun p => stepQ (denQ tabQ) p w) fenceQ 15836 Sea.theTop
abbrev Sea.theSeen (s : Shared) := seenQ Sea.shape.view_39 [Str.ofString "Reel", Str.ofString "Plan", Str.ofString "Roll"] (importedModules Sea.theTop.main.body) (fun s => xlAt Sea.shape.view_39 [] s && recOk PySem.Challenge.rw_seamfast_k05_roll_texts.row.records s) s
theorem Sea.lw : looseW Sea.shape.view_39 [Str.ofString "Reel", Str.ofString "Plan", Str.ofString "Roll"] = [Str.ofString "Reel", Str.ofString "Plan", Str.ofString "Roll", Str.ofString "gcd", Str.ofString "lcm"] := by kernel_rfl
abbrev Sea.nl : List Str := [Str.ofString "_wall", Str.ofString "is_integer", Str.ofString "is_within", Str.ofString "items_of", Str.ofString "parts_of", Str.ofString "is_name", Str.ofString "has_percent", Str.ofString "is_text", Str.ofString "cue_of", Str.ofString "judged_cues", Str.ofString "piece_of_form", Str.ofString "judged_pieces", Str.ofString "judged_arrows", Str.ofString "wrong_name", Str.ofString "judged_starts", Str.ofString "judged_ends", Str.ofString "led_to", Str.ofString "first_unreached", Str.ofString "strip_of_piece", Str.ofString "sends_of_piece", Str.ofString "joins", Str.ofString "piece_stretch", Str.ofString "behind_one_another", Str.ofString "repeated", Str.ofString "all_of", Str.ofString "part_of", Str.ofString "repeat_of", Str.ofString "judged_items", Str.ofString "judged_roll", Str.ofString "write_item", Str.ofString "write_roll", Str.ofString "run_end", Str.ofString "stands", Str.ofString "is_times", Str.ofString "read_item", Str.ofString "read_items", Str.ofString "read_roll", Str.ofString "_law_tape", Str.ofString "_law_pick", Str.ofString "_law_some", Str.ofString "_law_rarely", Str.ofString "_law_names", Str.ofString "_law_same", Str.ofString "_law_lists", Str.ofString "_law_some_names", Str.ofString "_law_plan", Str.ofString "_law_times", Str.ofString "_law_many", Str.ofString "_law_items", Str.ofString "_law_written", Str.ofString "_law_roll", Str.ofString "_law_read_back", Str.ofString "law"]
theorem Sea.nls : (recsOf Sea.shape.view_39).map (·.name) = Sea.nl := by kernel_rfl
abbrev Sea.nm1 : List Str := [Str.ofString "_wall", Str.ofString "is_integer", Str.ofString "is_within", Str.ofString "items_of", Str.ofString "parts_of", Str.ofString "is_name", Str.ofString "has_percent", Str.ofString "is_text", Str.ofString "cue_of", Str.ofString "judged_cues", Str.ofString "piece_of_form", Str.ofString "judged_pieces", Str.ofString "judged_arrows", Str.ofString "wrong_name", Str.ofString "judged_starts", Str.ofString "judged_ends", Str.ofString "led_to", Str.ofString "first_unreached", Str.ofString "strip_of_piece", Str.ofString "sends_of_piece", Str.ofString "joins", Str.ofString "piece_stretch", Str.ofString "behind_one_another", Str.ofString "repeated", Str.ofString "all_of", Str.ofString "part_of", Str.ofString "repeat_of", Str.ofString "judged_items", Str.ofString "judged_roll", Str.ofString "write_item", Str.ofString "write_roll", Str.ofString "run_end", Str.ofString "stands"]
abbrev Sea.nm2 : List Str := [Str.ofString "is_times", Str.ofString "read_item", Str.ofString "read_items", Str.ofString "read_roll", Str.ofString "_law_tape", Str.ofString "_law_pick", Str.ofString "_law_some", Str.ofString "_law_rarely", Str.ofString "_law_names", Str.ofString "_law_same", Str.ofString "_law_lists", Str.ofString "_law_some_names", Str.ofString "_law_plan", Str.ofString "_law_times", Str.ofString "_law_many", Str.ofString "_law_items", Str.ofString "_law_written", Str.ofString "_law_roll", Str.ofString "_law_read_back", Str.ofString "law"]
abbrev Sea.no1 : List Str := [Str.ofString "_wall", Str.ofString "is_integer", Str.ofString "is_within", Str.ofString "items_of", Str.ofString "parts_of", Str.ofString "is_name", Str.ofString "has_percent", Str.ofString "is_text", Str.ofString "cue_of", Str.ofString "judged_cues", Str.ofString "piece_of_form", Str.ofString "judged_pieces", Str.ofString "judged_arrows", Str.ofString "wrong_name", Str.ofString "judged_starts", Str.ofString "judged_ends", Str.ofString "led_to", Str.ofString "first_unreached", Str.ofString "strip_of_piece", Str.ofString "sends_of_piece", Str.ofString "joins", Str.ofString "piece_stretch"]
abbrev Sea.no2 : List Str := [Str.ofString "behind_one_another", Str.ofString "repeated", Str.ofString "all_of", Str.ofString "part_of", Str.ofString "repeat_of", Str.ofString "judged_items", Str.ofString "judged_roll", Str.ofString "write_item", Str.ofString "write_roll", Str.ofString "run_end", Str.ofString "stands", Str.ofString "is_times", Str.ofString "read_item", Str.ofString "read_items", Str.ofString "read_roll", Str.ofString "_law_tape", Str.ofString "_law_pick", Str.ofString "_law_some", Str.ofString "_law_rarely", Str.ofString "_law_names", Str.ofString "_law_same", Str.ofString "_law_lists"]
abbrev Sea.no3 : List Str := [Str.ofString "_law_some_names", Str.ofString "_law_plan", Str.ofString "_law_times", Str.ofString "_law_many", Str.ofString "_law_items", Str.ofString "_law_written", Str.ofString "_law_roll", Str.ofString "_law_read_back", Str.ofString "law"]
theorem Sea.z1 (w : World) : (Sea.theRun w).map (fun x => ((looksF Sea.theTop x.1.heap x.2.abs), (x.2.abs.heap.keysOk [Str.ofString "Reel", Str.ofString "Plan", Str.ofString "Roll", Str.ofString "gcd", Str.ofString "lcm"] Sea.nl ((litsOf Sea.shape.view_39).map (·.1)) ((clssOf Sea.shape.view_39 [Str.ofString "Reel", Str.ofString "Plan", Str.ofString "Roll", Str.ofString "gcd", Str.ofString "lcm"]).map (·.name)) && x.2.abs.heap.accountedOkI (importedModules Sea.theTop.main.body) && x.2.abs.heap.isNs mainGlobals && x.2.abs.heap.isNs builtinsNs && tablesOk Sea.shape.view_39 x.2.abs.heap && (xlAt Sea.shape.view_39 [] x.2.abs && recOk PySem.Challenge.rw_seamfast_k05_roll_texts.row.records x.2.abs) && (if true then x.2.abs.gens.size == 0 else !leftWithCleanup x.2.abs.gens)))) = some (true, true) := by kernel_rfl
theorem Sea.z2 (w : World) : (Sea.theRun w).map (fun x => (((x.2.abs.heap.bmainOk && valsOk Sea.shape.view_39 x.2.abs.heap) && (!importsNone Sea.shape.view_39 || x.2.abs.heap.noSeerOk)), (pinSeenD Sea.shape.view_39 (drecsOf Sea.shape.view_39) x.2.abs), (plainSeenE Sea.shape.view_39 [Str.ofString "Reel", Str.ofString "Plan", Str.ofString "Roll", Str.ofString "gcd", Str.ofString "lcm"] x.2.abs), ((plainSeenD Sea.shape.view_39 [Str.ofString "Reel", Str.ofString "Plan", Str.ofString "Roll"] x.2.abs, clsSeenW Sea.shape.view_39 [Str.ofString "Reel", Str.ofString "Plan", Str.ofString "Roll"] x.2.abs, x.2.abs.heap.bltView)), (List.map (getT x.2) [2, 3, 43, 45, 46, 48, 49, 50, 57, 58, 59, 60, 63, 70, 72, 73, 75, 76, 77, 78, 79, 82, 89, 91, 92, 94, 95, 96, 97, 98, 101, 108, 110, 111, 113, 114, 115, 116, 117, 120, 127, 129, 130, 132, 133, 134, 135, 136, 139, 146, 148, 149, 151, 152, 153, 154, 155, 158, 165, 167, 168, 170, 171, 172, 173, 174, 177, 184, 186, 187, 189, 190, 191, 192, 193, 196, 203, 205, 206, 208, 209, 210, 211, 212, 215, 222, 224, 225, 227, 228, 229, 230, 231, 234, 241, 243, 244, 246, 247, 248, 249, 250, 253, 260, 262, 263, 265, 266, 267, 268, 269, 272, 279, 281, 282, 284, 285, 286, 287, 288, 291, 293, 294, 296, 297, 298, 300, 301, 303, 304, 305, 307, 308, 310, 311, 312, 314, 315, 317, 318, 319, 322, 323, 324, 327, 328, 329, 332, 333, 334, 336, 337, 339, 340, 341, 343, 344, 346, 347, 355, 356, 357, 360, 361, 362, 364, 365, 367, 368, 369, 370, 372, 373, 375, 376, 377, 378, 380, 381, 383, 384, 385, 387, 388, 390, 391, 392, 394, 395, 397, 398, 399, 401, 402, 404, 405, 406, 407, 408, 409, 410, 413, 415, 416, 418, 419, 420, 422, 423, 425, 426, 427, 429, 430, 432, 433, 434, 436, 437, 439, 440, 441, 443, 444, 446, 447, 448, 450, 451, 453, 454, 455, 457, 458, 460, 461, 462, 465, 466, 467, 469, 470, 472, 473, 474, 476, 477, 479, 480, 488, 489, 492, 493, 494, 496, 497, 499, 500, 501, 502, 504, 505, 507, 508, 509, 510, 512, 513, 515, 516, 517, 519, 520, 522, 523, 524, 526, 527, 529, 530, 531, 533, 534, 536, 537, 538, 540, 541, 543, 544, 545, 547, 548, 550, 551, 552, 554, 555, 557, 558, 559, 561, 562, 564, 565, 566, 568, 569, 571, 572, 573, 575, 576, 578, 579, 580, 581, 582, 583, 584, 594, 596, 597, 599, 600, 601, 602, 603, 604, 605, 615, 617, 618, 620, 621, 622, 623, 624, 625, 626, 629, 631, 632, 634, 635, 636, 638, 639, 641, 642, 643, 645, 646, 648, 649, 650, 652, 653, 655, 656, 657, 659, 660, 662, 663, 664, 667, 668, 669, 671, 672, 674, 675, 676, 678, 679, 681, 682, 683, 685, 686, 688, 689, 697, 700, 701, 702, 704, 705, 707, 708, 709, 710, 712, 713, 715, 716, 717, 718, 720, 721, 723, 724, 725, 726, 728, 729, 731, 732, 733, 734, 736, 737, 739, 740, 741, 742, 744, 745, 747, 748, 749, 751, 752, 754, 755, 756, 758, 759, 761, 762, 763, 765, 766, 768, 769, 770, 772, 773, 775, 776, 777, 778, 779, 780, 781, 784, 786, 787, 789, 790, 791, 794, 795, 796, 798, 799, 801, 802, 803, 805, 806, 808, 809, 810, 812, 813, 815, 816, 817, 819, 820, 822, 823, 824, 826, 827, 829, 830, 831, 833, 834, 836, 837, 838, 841, 842, 843, 845, 846, 848, 849, 850, 852, 853, 855, 856, 857, 859, 860, 862, 863, 864, 866, 867, 869, 870, 871, 874, 875, 876, 879, 880, 881, 884, 885, 886, 889, 890, 891, 893, 894, 896, 897, 898, 900, 901, 903, 904, 905, 907, 908, 910, 911, 912, 914, 915, 917, 918, 919, 922, 923, 924, 926, 927, 929, 930, 931, 934, 935]))) = some (true, (pinGoodD (drecsOf Sea.shape.view_39)), (plainGoodE Sea.shape.view_39 [Str.ofString "Reel", Str.ofString "Plan", Str.ofString "Roll", Str.ofString "gcd", Str.ofString "lcm"]), (plainGoodD Sea.shape.view_39 [Str.ofString "Reel", Str.ofString "Plan", Str.ofString "Roll"], clsGoodW Sea.shape.view_39 [Str.ofString "Reel", Str.ofString "Plan", Str.ofString "Roll"], bltViewBooted), (List.map (fun x => some x.2) (Sea.shape.heap_39 w.params))) := by kernel_rfl
theorem Sea.z3 (w : World) : (Sea.theRun w).map (fun x => ((Sea.nm1.all fun d => x.2.abs.heap.tab0Ok d), ((wdefsOf Sea.shape.view_39).map fun d => shapeAtK x.2.abs.heap d.1.name))) = some (true, ((wdefsOf Sea.shape.view_39).map fun d => some d.1.shape)) := by kernel_rfl
theorem Sea.z4 (w : World) : (Sea.theRun w).map (fun x => Sea.nm2.all fun d => x.2.abs.heap.tab0Ok d) = some true := by kernel_rfl
theorem Sea.z5 (w : World) : (Sea.theRun w).map (fun x => ((seen Sea.no1 (ownsOf Sea.shape.view_39) [] { x.2.abs with gens := #[] }), ((wdefsOf Sea.shape.view_39).all fun d => x.2.abs.heap.restOk ((Sea.shape.view_39).nameAt false d.1.name) d.1.name && dfltAt x.2.abs.heap d))) = some ((Seen.mk (((recsOf Sea.shape.view_39).map fun (d : PySem.DefRec) => some d.shape).take 22) true [] true true true 0), true) := by kernel_rfl
theorem Sea.z6 (w : World) : (Sea.theRun w).map (fun x => Sea.no2.map (x.2.abs.heap.shapeAt mainGlobals)) = some ((((recsOf Sea.shape.view_39).map fun (d : PySem.DefRec) => some d.shape).drop 22).take 22) := by kernel_rfl
theorem Sea.z7 (w : World) : (Sea.theRun w).map (fun x => Sea.no3.map (x.2.abs.heap.shapeAt mainGlobals)) = some ((((recsOf Sea.shape.view_39).map fun (d : PySem.DefRec) => some d.shape).drop 22).drop 22) := by kernel_rfl
theorem Sea.z8 (w : World) : (Sea.theRun w).map (fun x => (wlitsOf Sea.shape.view_39).all (constAt x.2.abs.heap)) = some true := by kernel_rfl
theorem Sea.rA (w : World) : (Sea.theRun w).map (fun x => looksF Sea.theTop x.1.heap x.2.abs) = some true := Sea.pr1 (Sea.z1 w)
theorem Sea.rB3 (w : World) : (Sea.theRun w).map (fun x => x.2.abs.heap.keysOk [Str.ofString "Reel", Str.ofString "Plan", Str.ofString "Roll", Str.ofString "gcd", Str.ofString "lcm"] Sea.nl ((litsOf Sea.shape.view_39).map (·.1)) ((clssOf Sea.shape.view_39 [Str.ofString "Reel", Str.ofString "Plan", Str.ofString "Roll", Str.ofString "gcd", Str.ofString "lcm"]).map (·.name)) && x.2.abs.heap.accountedOkI (importedModules Sea.theTop.main.body) && x.2.abs.heap.isNs mainGlobals && x.2.abs.heap.isNs builtinsNs && tablesOk Sea.shape.view_39 x.2.abs.heap && (xlAt Sea.shape.view_39 [] x.2.abs && recOk PySem.Challenge.rw_seamfast_k05_roll_texts.row.records x.2.abs) && (if true then x.2.abs.gens.size == 0 else !leftWithCleanup x.2.abs.gens)) = some true := Sea.pr2 (Sea.z1 w)
theorem Sea.rB4b (w : World) : (Sea.theRun w).map (fun x => (x.2.abs.heap.bmainOk && valsOk Sea.shape.view_39 x.2.abs.heap) && (!importsNone Sea.shape.view_39 || x.2.abs.heap.noSeerOk)) = some true := Sea.pr1 (Sea.z2 w)
theorem Sea.rB5 (w : World) : (Sea.theRun w).map (fun x => pinSeenD Sea.shape.view_39 (drecsOf Sea.shape.view_39) x.2.abs) = some (pinGoodD (drecsOf Sea.shape.view_39)) := Sea.pr1 (Sea.pr2 (Sea.z2 w))
theorem Sea.rB6 (w : World) : (Sea.theRun w).map (fun x => plainSeenE Sea.shape.view_39 [Str.ofString "Reel", Str.ofString "Plan", Str.ofString "Roll", Str.ofString "gcd", Str.ofString "lcm"] x.2.abs) = some (plainGoodE Sea.shape.view_39 [Str.ofString "Reel", Str.ofString "Plan", Str.ofString "Roll", Str.ofString "gcd", Str.ofString "lcm"]) := Sea.pr1 (Sea.pr2 (Sea.pr2 (Sea.z2 w)))
theorem Sea.rB7 (w : World) : (Sea.theRun w).map (fun x => (plainSeenD Sea.shape.view_39 [Str.ofString "Reel", Str.ofString "Plan", Str.ofString "Roll"] x.2.abs, clsSeenW Sea.shape.view_39 [Str.ofString "Reel", Str.ofString "Plan", Str.ofString "Roll"] x.2.abs, x.2.abs.heap.bltView)) = some (plainGoodD Sea.shape.view_39 [Str.ofString "Reel", Str.ofString "Plan", Str.ofString "Roll"], clsGoodW Sea.shape.view_39 [Str.ofString "Reel", Str.ofString "Plan", Str.ofString "Roll"], bltViewBooted) := Sea.pr1 (Sea.pr2 (Sea.pr2 (Sea.pr2 (Sea.z2 w))))
theorem Sea.rC (w : World) : (Sea.theRun w).map (fun x => List.map (getT x.2) [2, 3, 43, 45, 46, 48, 49, 50, 57, 58, 59, 60, 63, 70, 72, 73, 75, 76, 77, 78, 79, 82, 89, 91, 92, 94, 95, 96, 97, 98, 101, 108, 110, 111, 113, 114, 115, 116, 117, 120, 127, 129, 130, 132, 133, 134, 135, 136, 139, 146, 148, 149, 151, 152, 153, 154, 155, 158, 165, 167, 168, 170, 171, 172, 173, 174, 177, 184, 186, 187, 189, 190, 191, 192, 193, 196, 203, 205, 206, 208, 209, 210, 211, 212, 215, 222, 224, 225, 227, 228, 229, 230, 231, 234, 241, 243, 244, 246, 247, 248, 249, 250, 253, 260, 262, 263, 265, 266, 267, 268, 269, 272, 279, 281, 282, 284, 285, 286, 287, 288, 291, 293, 294, 296, 297, 298, 300, 301, 303, 304, 305, 307, 308, 310, 311, 312, 314, 315, 317, 318, 319, 322, 323, 324, 327, 328, 329, 332, 333, 334, 336, 337, 339, 340, 341, 343, 344, 346, 347, 355, 356, 357, 360, 361, 362, 364, 365, 367, 368, 369, 370, 372, 373, 375, 376, 377, 378, 380, 381, 383, 384, 385, 387, 388, 390, 391, 392, 394, 395, 397, 398, 399, 401, 402, 404, 405, 406, 407, 408, 409, 410, 413, 415, 416, 418, 419, 420, 422, 423, 425, 426, 427, 429, 430, 432, 433, 434, 436, 437, 439, 440, 441, 443, 444, 446, 447, 448, 450, 451, 453, 454, 455, 457, 458, 460, 461, 462, 465, 466, 467, 469, 470, 472, 473, 474, 476, 477, 479, 480, 488, 489, 492, 493, 494, 496, 497, 499, 500, 501, 502, 504, 505, 507, 508, 509, 510, 512, 513, 515, 516, 517, 519, 520, 522, 523, 524, 526, 527, 529, 530, 531, 533, 534, 536, 537, 538, 540, 541, 543, 544, 545, 547, 548, 550, 551, 552, 554, 555, 557, 558, 559, 561, 562, 564, 565, 566, 568, 569, 571, 572, 573, 575, 576, 578, 579, 580, 581, 582, 583, 584, 594, 596, 597, 599, 600, 601, 602, 603, 604, 605, 615, 617, 618, 620, 621, 622, 623, 624, 625, 626, 629, 631, 632, 634, 635, 636, 638, 639, 641, 642, 643, 645, 646, 648, 649, 650, 652, 653, 655, 656, 657, 659, 660, 662, 663, 664, 667, 668, 669, 671, 672, 674, 675, 676, 678, 679, 681, 682, 683, 685, 686, 688, 689, 697, 700, 701, 702, 704, 705, 707, 708, 709, 710, 712, 713, 715, 716, 717, 718, 720, 721, 723, 724, 725, 726, 728, 729, 731, 732, 733, 734, 736, 737, 739, 740, 741, 742, 744, 745, 747, 748, 749, 751, 752, 754, 755, 756, 758, 759, 761, 762, 763, 765, 766, 768, 769, 770, 772, 773, 775, 776, 777, 778, 779, 780, 781, 784, 786, 787, 789, 790, 791, 794, 795, 796, 798, 799, 801, 802, 803, 805, 806, 808, 809, 810, 812, 813, 815, 816, 817, 819, 820, 822, 823, 824, 826, 827, 829, 830, 831, 833, 834, 836, 837, 838, 841, 842, 843, 845, 846, 848, 849, 850, 852, 853, 855, 856, 857, 859, 860, 862, 863, 864, 866, 867, 869, 870, 871, 874, 875, 876, 879, 880, 881, 884, 885, 886, 889, 890, 891, 893, 894, 896, 897, 898, 900, 901, 903, 904, 905, 907, 908, 910, 911, 912, 914, 915, 917, 918, 919, 922, 923, 924, 926, 927, 929, 930, 931, 934, 935]) = some (List.map (fun x => some x.2) (Sea.shape.heap_39 w.params)) := Sea.pr2 (Sea.pr2 (Sea.pr2 (Sea.pr2 (Sea.z2 w))))
theorem Sea.rB4_1 (w : World) : (Sea.theRun w).map (fun x => Sea.nm1.all fun d => x.2.abs.heap.tab0Ok d) = some true := Sea.pr1 (Sea.z3 w)
theorem Sea.rB8_1 (w : World) : (Sea.theRun w).map (fun x => (wdefsOf Sea.shape.view_39).map fun d => shapeAtK x.2.abs.heap d.1.name) = some ((wdefsOf Sea.shape.view_39).map fun d => some d.1.shape) := Sea.pr2 (Sea.z3 w)
theorem Sea.rB4_2 (w : World) : (Sea.theRun w).map (fun x => Sea.nm2.all fun d => x.2.abs.heap.tab0Ok d) = some true := Sea.z4 w
theorem Sea.rB1_1 (w : World) : (Sea.theRun w).map (fun x => seen Sea.no1 (ownsOf Sea.shape.view_39) [] { x.2.abs with gens := #[] }) = some (Seen.mk (((recsOf Sea.shape.view_39).map fun (d : PySem.DefRec) => some d.shape).take 22) true [] true true true 0) := Sea.pr1 (Sea.z5 w)
theorem Sea.rB8_2 (w : World) : (Sea.theRun w).map (fun x => (wdefsOf Sea.shape.view_39).all fun d => x.2.abs.heap.restOk ((Sea.shape.view_39).nameAt false d.1.name) d.1.name && dfltAt x.2.abs.heap d) = some true := Sea.pr2 (Sea.z5 w)
theorem Sea.rB1_2 (w : World) : (Sea.theRun w).map (fun x => Sea.no2.map (x.2.abs.heap.shapeAt mainGlobals)) = some ((((recsOf Sea.shape.view_39).map fun (d : PySem.DefRec) => some d.shape).drop 22).take 22) := Sea.z6 w
theorem Sea.rB1_3 (w : World) : (Sea.theRun w).map (fun x => Sea.no3.map (x.2.abs.heap.shapeAt mainGlobals)) = some ((((recsOf Sea.shape.view_39).map fun (d : PySem.DefRec) => some d.shape).drop 22).drop 22) := Sea.z7 w
theorem Sea.rB8_3 (w : World) : (Sea.theRun w).map (fun x => (wlitsOf Sea.shape.view_39).all (constAt x.2.abs.heap)) = some true := Sea.z8 w
theorem Sea.rB4 (w : World) : (Sea.theRun w).map (fun x => Sea.nl.all fun d => x.2.abs.heap.tab0Ok d) = some true := Sea.all2 (Sea.theRun w) (fun x => x.2.abs) Sea.nm1 Sea.nm2 Sea.nl rfl (Sea.rB4_1 w) (Sea.rB4_2 w)
theorem Sea.rB1 (w : World) : (Sea.theRun w).map (fun x => seen Sea.nl (ownsOf Sea.shape.view_39) [] { x.2.abs with gens := #[] }) = some (expectedOf Sea.shape.view_39) := Sea.seen3 (Sea.theRun w) (fun x => x.2.abs) Sea.no1 Sea.no2 Sea.no3 Sea.nl (ownsOf Sea.shape.view_39) ((recsOf Sea.shape.view_39).map fun (d : PySem.DefRec) => some d.shape) 22 22 rfl (Sea.rB1_1 w) (Sea.rB1_2 w) (Sea.rB1_3 w)
theorem Sea.rB8 (w : World) : (Sea.theRun w).map (fun x => wideSeen Sea.shape.view_39 x.2.abs) = some (wideGood Sea.shape.view_39) := Sea.wide3 (Sea.theRun w) (fun x => x.2.abs) Sea.shape.view_39 (Sea.rB8_1 w) (Sea.rB8_2 w) (Sea.rB8_3 w)
theorem Sea.rB (w : World) : (Sea.theRun w).map (fun x => Sea.theSeen x.2.abs) = some (openGood Sea.shape.view_39 [Str.ofString "Reel", Str.ofString "Plan", Str.ofString "Roll"]) :=
  Sea.join (Sea.theRun w) (fun x => x.2.abs) Sea.shape.view_39 [Str.ofString "Reel", Str.ofString "Plan", Str.ofString "Roll"] (importedModules Sea.theTop.main.body) [Str.ofString "Reel", Str.ofString "Plan", Str.ofString "Roll", Str.ofString "gcd", Str.ofString "lcm"] Sea.nl (fun s => xlAt Sea.shape.view_39 [] s && recOk PySem.Challenge.rw_seamfast_k05_roll_texts.row.records s) Sea.lw Sea.nls (Sea.rB1 w) (Sea.rB3 w) (Sea.rB4 w) (Sea.rB4b w) (Sea.rB5 w) (Sea.rB6 w) (Sea.rB8 w) (Sea.rB7 w)
def Sea.rAll (w : World) := Sea.split3 (Sea.rA w) (Sea.rB w) (Sea.rC w)
end
/-! enumerate over a text, as something that a for or a comprehension walks. -/
/-! min(list, key = an own def of one parameter that changes nothing and gives an int): the first item of the least key. -/
/-! isinstance of the error that a suite holds, of an own class with fields, against a class or a written tuple of classes; powers of great numbers. -/
namespace Sea
open PySem PySem.Spec PyProof.Rows L2
/-- the class at D may be asked about -/
structure AskC (K : PySem.W.Frag) (D : Addr) : Prop where
  cl : (PySem.W.clsIn K D).isSome = true
  ga : PySem.W.findIn K (.ref D) "__getattribute__" = some (some (.builtin "BaseException.__getattribute__"))
  gg : PySem.W.findIn K (.ref D) "__getattr__" = some none
  sb : PySem.W.subIn K (.ref D) (.type "BaseException") = some true
  kl : PySem.W.findIn K (.ref D) "__class__" = some (some (.builtin "object.__class__"))
  gt : PySem.W.specialIn K (.builtin "object.__class__") "__get__" = some (some (.builtin "getset_descriptor.__get__"))
  tk : PySem.W.takesIn K (.builtin "object.__class__") = some true
  mr : PySem.W.mroIn K D (.type "object") = some true
/-- a ** b, by the bits of a -/
def CPowB (i j : Int) : Prop := 0 ≤ j ∧ (Builtin.Int.intBits i : Int) * j ≤ 2 ^ 27
theorem op_powB {X : Cx} : OpR X (binaryOp .Pow) (rI CPowB fun i j => .int (i ^ j.toNat)) := opI fun _ _ _ _ _ _ _ hc q => pow_int hc.1 hc.2 q
end Sea
/-! try with several clauses, each with a name for the error or without one. -/
namespace Sea
open PySem PySem.Spec PyProof.Rows L2
/-- behind a suite the error's name is gone -/
def gone (i : Nat) (D : Ends) : Ends :=
  { nx := fun σ H => D.nx (σ.set i none) H, rt := D.rt, bk := fun σ H => D.bk (σ.set i none) H, ct := fun σ H => D.ct (σ.set i none) H }
end Sea
/-! defs by their names; an own error of one field: made, raised, read. -/
namespace Sea
open PySem PySem.Spec PyProof.Rows L2
/-- the def that the module calls x keeps sp, and raises nothing -/
def Cal (P : Program) (w : World) (K : PySem.W.Frag) (mg : Str → Option Value) (base : Heap) (k : Nat) (x : Str) (sp : Sp) : Prop :=
  ∃ (f : Addr) (fd : FuncData) (ps : List Str), FnOk P w K mg base CX0 k f fd ps sp ∧ mg x = some (.ref f) ∧ PySem.W.keepIn K (.ref f) = true ∧ Binds K fd ps []
/-- .. and it may raise -/
def CalX (P : Program) (w : World) (K : PySem.W.Frag) (mg : Str → Option Value) (base : Heap) (k : Nat) (x : Str) (sp : Sp) : Prop :=
  ∃ (f : Addr) (fd : FuncData) (ps : List Str), FnOk P w K mg base (L2.CX P w) k f fd ps sp ∧ mg x = some (.ref f) ∧ PySem.W.keepIn K (.ref f) = true ∧ Binds K fd ps []
section
variable {X : Cx} {x : Str} {sp : Sp} {k j : Nat} {e : Expr} {es : List Expr} {t : TA} {p pos : Pos}
theorem pe_c (c : Cal X.prog X.w X.K X.mg X.base k x sp) (hr : Room j X.A) (hk : k ≤ j) (hg : Gl X x) (ha : PA X (e :: es) t)
    (hdb : (x == ("__debug__" : Str)) = false := by decide) (he : starEach (e :: es) X.env = (false, eval e X.env) :: starEach es X.env := by rfl)
    (hpl : (backTo pos (starEach es X.env)).any (·.1) = false := by rfl) : PE X (.Call (.Name x p) (e :: es) [] pos) (tCall sp [] E0 t) := by
  obtain ⟨f, fd, ps, F, hm, kp, b⟩ := c
  exact pe_call F (hr.mono hk) hg hm kp b .nil pass0 ha hdb he hpl
theorem pe_cX (c : CalX X.prog X.w X.K X.mg X.base k x sp) (hr : Room j X.A) (hk : k ≤ j) (hg : Gl X x) {E : L2.St → XK} (hx : ∀ σ, PassesAt (L2.CX X.prog X.w) X σ (E σ)) (ha : PA X (e :: es) t)
    (hdb : (x == ("__debug__" : Str)) = false := by decide) (he : starEach (e :: es) X.env = (false, eval e X.env) :: starEach es X.env := by rfl)
    (hpl : (backTo pos (starEach es X.env)).any (·.1) = false := by rfl) : PE X (.Call (.Name x p) (e :: es) [] pos) (tCallSD sp [] E t) := by
  obtain ⟨f, fd, ps, F, hm, kp, b⟩ := c
  exact pe_callSD F (hr.mono hk) hg hm kp b .nil hx ha hdb he hpl
end
/-- what the written part says of the error class nm at C, of one field fld, with its __init__ at fI -/
structure XC (K : PySem.W.Frag) (mg : Str → Option Value) (nm fld : Str) (C fI : Addr) : Prop where
  gC : mg nm = some (.ref C)
  ox : OexC K C
  iC : PySem.W.findIn K (.ref C) "__init__" = some (some (.ref fI))
  tI : PySem.W.typeIn K (.ref fI) = some (.type "function")
  no : PySem.W.findIn K (.ref C) fld = some none
  ask : AskC K C
  hd : PySem.W.hasDictIn K C = true
/-- its __init__ -/
def spIni (K : PySem.W.Frag) (C : Addr) (fld : Str) : Sp := fun vs H Q _ => ∃ (a : Addr) (v : V), vs = [.ref a, v] ∧ OexC K C ∧ PySem.W.findIn K (.ref C) fld = some none ∧ H a = some (exo a C none) ∧
  ∀ dx, H dx = none → dx ≠ a → Q .non (upd (upd H dx (exd dx [(fld, v)])) a (exo a C (some dx)))
theorem made_heap {H : Hp} {a d C : Addr} {o1 o2 o3 o4 : HO} (ha : H a = none) (hd : H d = none) (hne : d ≠ a) :
    upd (del (upd (upd (upd H a o1) d o2) a o3) a) d o4 = upd H d o4 := by
  funext b
  by_cases h1 : b = d
  · subst h1
    rw [upd_same, upd_same]
  · rw [upd_ne h1, upd_ne h1]
    by_cases h2 : b = a
    · subst h2
      rw [del_same, ha]
    · rw [del_ne h2, upd_ne h2, upd_ne h1, upd_ne h2]
/-- C(e) with such an __init__, its argument v told: an error with the field, all else as it was -/
theorem mk_fin {K : PySem.W.Frag} {C : Addr} {fld : Str} {v : V} {H1 : Hp} {Q : XK} (ox : OexC K C) (no : PySem.W.findIn K (.ref C) fld = some none)
    (q : ∀ d, H1 d = none → Q (.ref C) (some d) (upd H1 d (.xd [(fld, v)]))) :
    ([v] : List V).length ≤ 1000 ∧ ∀ a, H1 a = none → spIni K C fld (.ref a :: ([v] ++ [])) (upd H1 a (exo a C none))
      (fun u H2 => u = .non ∧ ∃ (d : Addr) (fs : List (Str × V)), H2 a = some (exo a C (some d)) ∧ H2 d = some (exd d fs) ∧ H1 d = none ∧ Q (.ref C) (some d) (upd (del H2 a) d (.xd fs))) (fun _ _ _ => False) := by
  refine ⟨by simp, fun a ha => ⟨a, v, rfl, ox, no, upd_same, fun dx hdx hne => ?_⟩⟩
  have hd : H1 dx = none := by
    rw [upd_ne hne] at hdx
    exact hdx
  refine ⟨rfl, dx, [(fld, v)], upd_same, ?_, hd, ?_⟩
  · rw [upd_ne hne, upd_same]
  · rw [made_heap (C := C) ha hd hne]
    exact q dx hd
/-! heaps that only grow -/
theorem same_new {H : Hp} {p : Addr} {o : HO} (h : H p = none) : Same H (upd H p o) := fun b x e => by
  rw [upd_ne (ne_of_none e h)]
  exact e
theorem same_over {H H' : Hp} {D : Addr} {o : HO} (s : Same H H') (h : H D = none) : Same H (upd H' D o) := fun b x e => by
  rw [upd_ne (ne_of_none e h)]
  exact s b x e
theorem sub_take {α : Type} {l : List α} {i : Nat} {x : α} (h : l[i]? = some x) : l.take (i + 1) = l.take i ++ [x] := by
  rw [List.take_add_one, h]
  rfl
theorem small_line {n : Nat} (h : n ≤ 100000) : n < sizeLine := by
  rw [sizeLine_eq]
  omega
end Sea
namespace Sea
open PySem PySem.Spec PyProof.Rows L2
def top (i : Nat) : Stmt := PySem.Challenge.pw_seamfast_k05_roll_texts.main.body.getD i (.Pass ⟨0, 0, 0, 0⟩)
abbrev s_is_integer : Stmt := top 19
abbrev N_is_integer : List Str := ["thing"]
theorem sc_is_integer : FnScope N_is_integer ["thing"] (defScope s_is_integer) := ⟨rfl, rfl, rfl, by decide +kernel, rfl, by decide +kernel, by decide +kernel⟩
abbrev s_is_within : Stmt := top 20
abbrev N_is_within : List Str := ["thing", "low", "high"]
theorem sc_is_within : FnScope N_is_within ["thing", "low", "high"] (defScope s_is_within) := ⟨rfl, rfl, rfl, by decide +kernel, rfl, by decide +kernel, by decide +kernel⟩
abbrev s_items_of : Stmt := top 21
abbrev N_items_of : List Str := ["thing"]
theorem sc_items_of : FnScope N_items_of ["thing"] (defScope s_items_of) := ⟨rfl, rfl, rfl, by decide +kernel, rfl, by decide +kernel, by decide +kernel⟩
abbrev s_parts_of : Stmt := top 22
abbrev N_parts_of : List Str := ["thing", "many", "items"]
theorem sc_parts_of : FnScope N_parts_of ["thing", "many"] (defScope s_parts_of) := ⟨rfl, rfl, rfl, by decide +kernel, rfl, by decide +kernel, by decide +kernel⟩
abbrev s_is_name : Stmt := top 27
abbrev N_is_name : List Str := ["thing", "sign"]
theorem sc_is_name : FnScope N_is_name ["thing"] (defScope s_is_name) := ⟨rfl, rfl, rfl, by decide +kernel, rfl, by decide +kernel, by decide +kernel⟩
abbrev s_has_percent : Stmt := top 28
abbrev N_has_percent : List Str := ["word", "sign"]
theorem sc_has_percent : FnScope N_has_percent ["word"] (defScope s_has_percent) := ⟨rfl, rfl, rfl, by decide +kernel, rfl, by decide +kernel, by decide +kernel⟩
abbrev s_is_text : Stmt := top 29
abbrev N_is_text : List Str := ["thing", "sign"]
theorem sc_is_text : FnScope N_is_text ["thing"] (defScope s_is_text) := ⟨rfl, rfl, rfl, by decide +kernel, rfl, by decide +kernel, by decide +kernel⟩
abbrev s_cue_of : Stmt := top 30
abbrev N_cue_of : List Str := ["thing", "earliest", "length", "parts", "start", "end", "speaker", "text"]
theorem sc_cue_of : FnScope N_cue_of ["thing", "earliest", "length"] (defScope s_cue_of) := ⟨rfl, rfl, rfl, by decide +kernel, rfl, by decide +kernel, by decide +kernel⟩
abbrev s_judged_cues : Stmt := top 31
abbrev N_judged_cues : List Str := ["length", "cues", "items", "judged", "earliest", "number", "thing", "cue"]
theorem sc_judged_cues : FnScope N_judged_cues ["length", "cues"] (defScope s_judged_cues) := ⟨rfl, rfl, rfl, by decide +kernel, rfl, by decide +kernel, by decide +kernel⟩
abbrev s_piece_of_form : Stmt := top 37
abbrev N_piece_of_form : List Str := ["reel", "thing", "parts", "name", "start", "end", "above", "below", "way"]
theorem sc_piece_of_form : FnScope N_piece_of_form ["reel", "thing"] (defScope s_piece_of_form) := ⟨rfl, rfl, rfl, by decide +kernel, rfl, by decide +kernel, by decide +kernel⟩
abbrev s_judged_pieces : Stmt := top 38
abbrev N_judged_pieces : List Str := ["reel", "pieces", "items", "judged", "number", "thing", "piece", "known"]
theorem sc_judged_pieces : FnScope N_judged_pieces ["reel", "pieces"] (defScope s_judged_pieces) := ⟨rfl, rfl, rfl, by decide +kernel, rfl, by decide +kernel, by decide +kernel⟩
abbrev s_judged_arrows : Stmt := top 39
abbrev N_judged_arrows : List Str := ["names", "arrows", "items", "judged", "number", "thing", "arrow"]
theorem sc_judged_arrows : FnScope N_judged_arrows ["names", "arrows"] (defScope s_judged_arrows) := ⟨rfl, rfl, rfl, by decide +kernel, rfl, by decide +kernel, by decide +kernel⟩
abbrev s_wrong_name : Stmt := top 40
abbrev N_wrong_name : List Str := ["names", "things", "items", "number", "thing"]
theorem sc_wrong_name : FnScope N_wrong_name ["names", "things"] (defScope s_wrong_name) := ⟨rfl, rfl, rfl, by decide +kernel, rfl, by decide +kernel, by decide +kernel⟩
abbrev s_judged_starts : Stmt := top 41
abbrev N_judged_starts : List Str := ["names", "starts", "wrong"]
theorem sc_judged_starts : FnScope N_judged_starts ["names", "starts"] (defScope s_judged_starts) := ⟨rfl, rfl, rfl, by decide +kernel, rfl, by decide +kernel, by decide +kernel⟩
abbrev s_judged_ends : Stmt := top 42
abbrev N_judged_ends : List Str := ["names", "ends", "wrong"]
theorem sc_judged_ends : FnScope N_judged_ends ["names", "ends"] (defScope s_judged_ends) := ⟨rfl, rfl, rfl, by decide +kernel, rfl, by decide +kernel, by decide +kernel⟩
abbrev s_led_to : Stmt := top 43
abbrev N_led_to : List Str := ["names", "arrows", "found", "at", "left", "right"]
theorem sc_led_to : FnScope N_led_to ["names", "arrows"] (defScope s_led_to) := ⟨rfl, rfl, rfl, by decide +kernel, rfl, by decide +kernel, by decide +kernel⟩
abbrev s_first_unreached : Stmt := top 44
abbrev N_first_unreached : List Str := ["names", "arrows", "starts", "ends", "begun", "ending", "name", "left", "right"]
theorem sc_first_unreached : FnScope N_first_unreached ["names", "arrows", "starts", "ends"] (defScope s_first_unreached) := ⟨rfl, rfl, rfl, by decide +kernel, rfl, by decide +kernel, by decide +kernel⟩
abbrev s_strip_of_piece : Stmt := top 45
abbrev N_strip_of_piece : List Str := ["reel", "piece", "factor", "_", "start", "end", "way", "strip", "number", "cue", "low", "high"]
theorem sc_strip_of_piece : FnScope N_strip_of_piece ["reel", "piece", "factor"] (defScope s_strip_of_piece) := ⟨rfl, rfl, rfl, by decide +kernel, rfl, by decide +kernel, by decide +kernel⟩
abbrev s_sends_of_piece : Stmt := top 46
abbrev N_sends_of_piece : List Str := ["reel", "piece", "strip", "_", "start", "end", "way", "sends", "number", "moment", "first", "last", "whole_edge"]
theorem sc_sends_of_piece : FnScope N_sends_of_piece ["reel", "piece", "strip"] (defScope s_sends_of_piece) := ⟨rfl, rfl, rfl, by decide +kernel, rfl, by decide +kernel, by decide +kernel⟩
abbrev s_joins : Stmt := top 53
abbrev N_joins : List Str := ["tail", "head"]
theorem sc_joins : FnScope N_joins ["tail", "head"] (defScope s_joins) := ⟨rfl, rfl, rfl, by decide +kernel, rfl, by decide +kernel, by decide +kernel⟩
abbrev s_piece_stretch : Stmt := top 54
abbrev N_piece_stretch : List Str := ["plan", "name", "strip", "stretch"]
theorem sc_piece_stretch : FnScope N_piece_stretch ["plan", "name"] (defScope s_piece_stretch) := ⟨rfl, rfl, rfl, by decide +kernel, rfl, by decide +kernel, by decide +kernel⟩
abbrev s_behind_one_another : Stmt := top 55
abbrev N_behind_one_another : List Str := ["plan", "left", "right", "both"]
theorem sc_behind_one_another : FnScope N_behind_one_another ["plan", "left", "right"] (defScope s_behind_one_another) := ⟨rfl, rfl, rfl, by decide +kernel, rfl, by decide +kernel, by decide +kernel⟩
abbrev s_repeated : Stmt := top 56
abbrev N_repeated : List Str := ["plan", "body", "times", "whole"]
theorem sc_repeated : FnScope N_repeated ["plan", "body", "times"] (defScope s_repeated) := ⟨rfl, rfl, rfl, by decide +kernel, rfl, by decide +kernel, by decide +kernel⟩
abbrev s_all_of : Stmt := top 57
abbrev N_all_of : List Str := ["plan", "parts", "whole", "part"]
theorem sc_all_of : FnScope N_all_of ["plan", "parts"] (defScope s_all_of) := ⟨rfl, rfl, rfl, by decide +kernel, rfl, by decide +kernel, by decide +kernel⟩
abbrev s_part_of : Stmt := top 58
abbrev N_part_of : List Str := ["plan", "item", "stretch", "times", "written", "parts", "body", "inner"]
theorem sc_part_of : FnScope N_part_of ["plan", "item"] (defScope s_part_of) := ⟨rfl, rfl, rfl, by decide +kernel, rfl, by decide +kernel, by decide +kernel⟩
abbrev s_repeat_of : Stmt := top 59
abbrev N_repeat_of : List Str := ["item", "pair", "items"]
theorem sc_repeat_of : FnScope N_repeat_of ["item"] (defScope s_repeat_of) := ⟨rfl, rfl, rfl, by decide +kernel, rfl, by decide +kernel, by decide +kernel⟩
abbrev s_judged_items : Stmt := top 60
abbrev N_judged_items : List Str := ["plan", "items", "number", "depth", "judged", "item", "repeat", "inner"]
theorem sc_judged_items : FnScope N_judged_items ["plan", "items", "number", "depth"] (defScope s_judged_items) := ⟨rfl, rfl, rfl, by decide +kernel, rfl, by decide +kernel, by decide +kernel⟩
abbrev s_judged_roll : Stmt := top 61
abbrev N_judged_roll : List Str := ["plan", "written", "items", "judged", "many"]
theorem sc_judged_roll : FnScope N_judged_roll ["plan", "written"] (defScope s_judged_roll) := ⟨rfl, rfl, rfl, by decide +kernel, rfl, by decide +kernel, by decide +kernel⟩
abbrev s_write_item : Stmt := top 65
abbrev N_write_item : List Str := ["item", "times", "written"]
theorem sc_write_item : FnScope N_write_item ["item"] (defScope s_write_item) := ⟨rfl, rfl, rfl, by decide +kernel, rfl, by decide +kernel, by decide +kernel⟩
abbrev s_write_roll : Stmt := top 66
abbrev N_write_roll : List Str := ["written", "item"]
theorem sc_write_roll : FnScope N_write_roll ["written"] (defScope s_write_roll) := ⟨rfl, rfl, rfl, by decide +kernel, rfl, by decide +kernel, by decide +kernel⟩
abbrev s_run_end : Stmt := top 67
abbrev N_run_end : List Str := ["text", "at", "signs"]
theorem sc_run_end : FnScope N_run_end ["text", "at", "signs"] (defScope s_run_end) := ⟨rfl, rfl, rfl, by decide +kernel, rfl, by decide +kernel, by decide +kernel⟩
abbrev s_stands : Stmt := top 68
abbrev N_stands : List Str := ["text", "at", "sign"]
theorem sc_stands : FnScope N_stands ["text", "at", "sign"] (defScope s_stands) := ⟨rfl, rfl, rfl, by decide +kernel, rfl, by decide +kernel, by decide +kernel⟩
abbrev s_is_times : Stmt := top 69
abbrev N_is_times : List Str := ["digits"]
theorem sc_is_times : FnScope N_is_times ["digits"] (defScope s_is_times) := ⟨rfl, rfl, rfl, by decide +kernel, rfl, by decide +kernel, by decide +kernel⟩
abbrev s_read_item : Stmt := top 70
abbrev N_read_item : List Str := ["plan", "text", "at", "depth", "end", "items", "behind"]
theorem sc_read_item : FnScope N_read_item ["plan", "text", "at", "depth"] (defScope s_read_item) := ⟨rfl, rfl, rfl, by decide +kernel, rfl, by decide +kernel, by decide +kernel⟩
abbrev s_read_items : Stmt := top 71
abbrev N_read_items : List Str := ["plan", "text", "at", "depth", "item", "items"]
theorem sc_read_items : FnScope N_read_items ["plan", "text", "at", "depth"] (defScope s_read_items) := ⟨rfl, rfl, rfl, by decide +kernel, rfl, by decide +kernel, by decide +kernel⟩
abbrev s_read_roll : Stmt := top 72
abbrev N_read_roll : List Str := ["plan", "text", "items", "at"]
theorem sc_read_roll : FnScope N_read_roll ["plan", "text"] (defScope s_read_roll) := ⟨rfl, rfl, rfl, by decide +kernel, rfl, by decide +kernel, by decide +kernel⟩
abbrev s__law_tape : Stmt := top 74
abbrev N__law_tape : List Str := ["_law_script", "_law_cells", "_law_cell"]
theorem sc__law_tape : FnScope N__law_tape ["_law_script"] (defScope s__law_tape) := ⟨rfl, rfl, rfl, by decide +kernel, rfl, by decide +kernel, by decide +kernel⟩
abbrev s__law_pick : Stmt := top 75
abbrev N__law_pick : List Str := ["_law_tape_here", "_law_many_here", "_law_digit", "_law_mixed"]
theorem sc__law_pick : FnScope N__law_pick ["_law_tape_here", "_law_many_here"] (defScope s__law_pick) := ⟨rfl, rfl, rfl, by decide +kernel, rfl, by decide +kernel, by decide +kernel⟩
abbrev s__law_some : Stmt := top 76
abbrev N__law_some : List Str := ["_law_tape_here", "_law_low", "_law_high"]
theorem sc__law_some : FnScope N__law_some ["_law_tape_here", "_law_low", "_law_high"] (defScope s__law_some) := ⟨rfl, rfl, rfl, by decide +kernel, rfl, by decide +kernel, by decide +kernel⟩
abbrev s__law_rarely : Stmt := top 77
abbrev N__law_rarely : List Str := ["_law_tape_here", "_law_many_here"]
theorem sc__law_rarely : FnScope N__law_rarely ["_law_tape_here", "_law_many_here"] (defScope s__law_rarely) := ⟨rfl, rfl, rfl, by decide +kernel, rfl, by decide +kernel, by decide +kernel⟩
abbrev s__law_names : Stmt := top 78
abbrev N__law_names : List Str := ["_law_tape_here", "_law_many_here", "_law_pool", "_law_names_here", "_law_k"]
theorem sc__law_names : FnScope N__law_names ["_law_tape_here", "_law_many_here"] (defScope s__law_names) := ⟨rfl, rfl, rfl, by decide +kernel, rfl, by decide +kernel, by decide +kernel⟩
abbrev s__law_same : Stmt := top 79
abbrev N__law_same : List Str := ["_law_told", "_law_due", "_law_k"]
theorem sc__law_same : FnScope N__law_same ["_law_told", "_law_due"] (defScope s__law_same) := ⟨rfl, rfl, rfl, by decide +kernel, rfl, by decide +kernel, by decide +kernel⟩
abbrev s__law_lists : Stmt := top 80
abbrev N__law_lists : List Str := ["_law_thing", "_law_part"]
theorem sc__law_lists : FnScope N__law_lists ["_law_thing"] (defScope s__law_lists) := ⟨rfl, rfl, rfl, by decide +kernel, rfl, by decide +kernel, by decide +kernel⟩
abbrev s__law_some_names : Stmt := top 81
abbrev N__law_some_names : List Str := ["_law_tape_here", "_law_many_here", "_law_name", "_law_names_here", "_law_k", "_law_size", "_law_at"]
theorem sc__law_some_names : FnScope N__law_some_names ["_law_tape_here", "_law_many_here"] (defScope s__law_some_names) := ⟨rfl, rfl, rfl, by decide +kernel, rfl, by decide +kernel, by decide +kernel⟩
abbrev s__law_plan : Stmt := top 82
abbrev N__law_plan : List Str := ["_law_names_here", "_law_k"]
theorem sc__law_plan : FnScope N__law_plan ["_law_names_here"] (defScope s__law_plan) := ⟨rfl, rfl, rfl, by decide +kernel, rfl, by decide +kernel, by decide +kernel⟩
abbrev s__law_times : Stmt := top 83
abbrev N__law_times : List Str := ["_law_tape_here", "_law_number", "_law_k"]
theorem sc__law_times : FnScope N__law_times ["_law_tape_here"] (defScope s__law_times) := ⟨rfl, rfl, rfl, by decide +kernel, rfl, by decide +kernel, by decide +kernel⟩
abbrev s__law_many : Stmt := top 84
abbrev N__law_many : List Str := ["_law_items_here", "_law_many_here", "_law_item"]
theorem sc__law_many : FnScope N__law_many ["_law_items_here"] (defScope s__law_many) := ⟨rfl, rfl, rfl, by decide +kernel, rfl, by decide +kernel, by decide +kernel⟩
abbrev s__law_items : Stmt := top 85
abbrev N__law_items : List Str := ["_law_tape_here", "_law_names_here", "_law_depth", "_law_most", "_law_items_here", "_law_left", "_law_k", "_law_roll_here"]
theorem sc__law_items : FnScope N__law_items ["_law_tape_here", "_law_names_here", "_law_depth", "_law_most"] (defScope s__law_items) := ⟨rfl, rfl, rfl, by decide +kernel, rfl, by decide +kernel, by decide +kernel⟩
abbrev s__law_written : Stmt := top 86
abbrev N__law_written : List Str := ["_law_items_here", "_law_words", "_law_item"]
theorem sc__law_written : FnScope N__law_written ["_law_items_here"] (defScope s__law_written) := ⟨rfl, rfl, rfl, by decide +kernel, rfl, by decide +kernel, by decide +kernel⟩
abbrev s__law_roll : Stmt := top 87
abbrev N__law_roll : List Str := ["_law_tape_here", "_law_names_here", "_law_items_here", "_law_left", "_law_k"]
theorem sc__law_roll : FnScope N__law_roll ["_law_tape_here", "_law_names_here"] (defScope s__law_roll) := ⟨rfl, rfl, rfl, by decide +kernel, rfl, by decide +kernel, by decide +kernel⟩
abbrev s__law_read_back : Stmt := top 88
abbrev N__law_read_back : List Str := ["_law_plan_here", "_law_items_here", "_law_text", "_law_roll_here"]
theorem sc__law_read_back : FnScope N__law_read_back ["_law_plan_here", "_law_items_here", "_law_text"] (defScope s__law_read_back) := ⟨rfl, rfl, rfl, by decide +kernel, rfl, by decide +kernel, by decide +kernel⟩
abbrev s_law : Stmt := top 89
abbrev N_law : List Str := ["_law_script", "_law_tape_here", "_law_names_here", "_law_plan_here", "_law_items_here", "_law_others", "_law_text", "_law_other_text", "_law_lists_here", "_law_menu", "_law_spare", "_law_wider", "_law_swapped", "_law_name"]
theorem sc_law : FnScope N_law ["_law_script"] (defScope s_law) := ⟨rfl, rfl, rfl, by decide +kernel, rfl, by decide +kernel, by decide +kernel⟩
abbrev s_BadLength___init__ : Stmt := inClass (top 4) 0
abbrev N_BadLength___init__ : List Str := ["self", "length"]
theorem sc_BadLength___init__ : FnScope N_BadLength___init__ ["self", "length"] (defScope s_BadLength___init__) := ⟨rfl, rfl, rfl, by decide +kernel, rfl, by decide +kernel, by decide +kernel⟩
abbrev s_BadCue___init__ : Stmt := inClass (top 5) 0
abbrev N_BadCue___init__ : List Str := ["self", "number"]
theorem sc_BadCue___init__ : FnScope N_BadCue___init__ ["self", "number"] (defScope s_BadCue___init__) := ⟨rfl, rfl, rfl, by decide +kernel, rfl, by decide +kernel, by decide +kernel⟩
abbrev s_TooMany___init__ : Stmt := inClass (top 12) 0
abbrev N_TooMany___init__ : List Str := ["self", "word"]
theorem sc_TooMany___init__ : FnScope N_TooMany___init__ ["self", "word"] (defScope s_TooMany___init__) := ⟨rfl, rfl, rfl, by decide +kernel, rfl, by decide +kernel, by decide +kernel⟩
abbrev s_Reel___init__ : Stmt := inClass (top 32) 0
abbrev N_Reel___init__ : List Str := ["self", "length", "cues", "cue", "number"]
theorem sc_Reel___init__ : FnScope N_Reel___init__ ["self", "length", "cues"] (defScope s_Reel___init__) := ⟨rfl, rfl, rfl, by decide +kernel, rfl, by decide +kernel, by decide +kernel⟩
abbrev s_Reel___eq__ : Stmt := inClass (top 32) 6
abbrev N_Reel___eq__ : List Str := ["self", "other"]
theorem sc_Reel___eq__ : FnScope N_Reel___eq__ ["self", "other"] (defScope s_Reel___eq__) := ⟨rfl, rfl, rfl, by decide +kernel, rfl, by decide +kernel, by decide +kernel⟩
abbrev s_Plan___init__ : Stmt := inClass (top 47) 1
abbrev N_Plan___init__ : List Str := ["self", "reel", "pieces", "arrows", "starts", "ends", "piece", "missing", "grain", "name", "left", "right"]
theorem sc_Plan___init__ : FnScope N_Plan___init__ ["self", "reel", "pieces", "arrows", "starts", "ends"] (defScope s_Plan___init__) := ⟨rfl, rfl, rfl, by decide +kernel, rfl, by decide +kernel, by decide +kernel⟩
abbrev s_Plan_shown_of : Stmt := inClass (top 47) 6
abbrev N_Plan_shown_of : List Str := ["self", "name"]
theorem sc_Plan_shown_of : FnScope N_Plan_shown_of ["self", "name"] (defScope s_Plan_shown_of) := ⟨rfl, rfl, rfl, by decide +kernel, rfl, by decide +kernel, by decide +kernel⟩
abbrev s_Plan_followers : Stmt := inClass (top 47) 7
abbrev N_Plan_followers : List Str := ["self", "name"]
theorem sc_Plan_followers : FnScope N_Plan_followers ["self", "name"] (defScope s_Plan_followers) := ⟨rfl, rfl, rfl, by decide +kernel, rfl, by decide +kernel, by decide +kernel⟩
abbrev s_Plan_strip_of : Stmt := inClass (top 47) 8
abbrev N_Plan_strip_of : List Str := ["self", "name"]
theorem sc_Plan_strip_of : FnScope N_Plan_strip_of ["self", "name"] (defScope s_Plan_strip_of) := ⟨rfl, rfl, rfl, by decide +kernel, rfl, by decide +kernel, by decide +kernel⟩
abbrev s_Plan_sends_of : Stmt := inClass (top 47) 9
abbrev N_Plan_sends_of : List Str := ["self", "name"]
theorem sc_Plan_sends_of : FnScope N_Plan_sends_of ["self", "name"] (defScope s_Plan_sends_of) := ⟨rfl, rfl, rfl, by decide +kernel, rfl, by decide +kernel, by decide +kernel⟩
abbrev s_Plan___contains__ : Stmt := inClass (top 47) 10
abbrev N_Plan___contains__ : List Str := ["self", "x"]
theorem sc_Plan___contains__ : FnScope N_Plan___contains__ ["self", "x"] (defScope s_Plan___contains__) := ⟨rfl, rfl, rfl, by decide +kernel, rfl, by decide +kernel, by decide +kernel⟩
abbrev s_Plan___eq__ : Stmt := inClass (top 47) 13
abbrev N_Plan___eq__ : List Str := ["self", "other"]
theorem sc_Plan___eq__ : FnScope N_Plan___eq__ ["self", "other"] (defScope s_Plan___eq__) := ⟨rfl, rfl, rfl, by decide +kernel, rfl, by decide +kernel, by decide +kernel⟩
abbrev s_Stretch___init__ : Stmt := inClass (top 51) 0
abbrev N_Stretch___init__ : List Str := ["self", "first", "last"]
theorem sc_Stretch___init__ : FnScope N_Stretch___init__ ["self", "first", "last"] (defScope s_Stretch___init__) := ⟨rfl, rfl, rfl, by decide +kernel, rfl, by decide +kernel, by decide +kernel⟩
abbrev s_Part___init__ : Stmt := inClass (top 52) 0
abbrev N_Part___init__ : List Str := ["self", "name", "times", "parts", "body", "whole"]
theorem sc_Part___init__ : FnScope N_Part___init__ ["self", "name", "times", "parts", "body", "whole"] (defScope s_Part___init__) := ⟨rfl, rfl, rfl, by decide +kernel, rfl, by decide +kernel, by decide +kernel⟩
abbrev s_Roll___init__ : Stmt := inClass (top 62) 0
abbrev N_Roll___init__ : List Str := ["self", "plan", "written", "item"]
theorem sc_Roll___init__ : FnScope N_Roll___init__ ["self", "plan", "written"] (defScope s_Roll___init__) := ⟨rfl, rfl, rfl, by decide +kernel, rfl, by decide +kernel, by decide +kernel⟩
abbrev s_Roll___eq__ : Stmt := inClass (top 62) 10
abbrev N_Roll___eq__ : List Str := ["self", "other"]
theorem sc_Roll___eq__ : FnScope N_Roll___eq__ ["self", "other"] (defScope s_Roll___eq__) := ⟨rfl, rfl, rfl, by decide +kernel, rfl, by decide +kernel, by decide +kernel⟩
end Sea
namespace Sea
open PySem PySem.Spec PyProof.Rows L2
/-! the small defs of the program -/
/-- None, an int, a truth value or a text -/
def Plain : V → Prop
  | .non => True
  | .bl _ => True
  | .int _ => True
  | .str _ => True
  | _ => False
def isInt : V → Bool
  | .int _ => true
  | _ => false
def inside (x : V) (lo hi : Int) : Bool :=
  match x with
  | .int i => decide (lo ≤ i) && decide (i ≤ hi)
  | _ => false
end Sea
namespace Sea
open PySem PySem.Spec PyProof.Rows L2
/-! texts as lists of codes -/
abbrev cp (z : Str) : List Nat := z.cps.toList
theorem cp_len (z : Str) : (cp z).length = z.length := Array.length_toList
theorem cp_inj {a b : Str} (h : cp a = cp b) : a = b := by
  obtain ⟨⟨a⟩⟩ := a
  obtain ⟨⟨b⟩⟩ := b
  have e : a = b := h
  rw [e]
/-- two blanks together -/
def twin : List Nat → Bool
  | a :: b :: r => (a == 32 && b == 32) || twin (b :: r)
  | _ => false
/-- the codes of a text -/
structure Good (l : List Nat) : Prop where
  some : 1 ≤ l.length
  most : l.length ≤ 60
  sign : ∀ c ∈ l, 32 ≤ c ∧ c ≤ 126 ∧ c ≠ 37
  head : l[0]? ≠ Option.some 32
  last : l[l.length - 1]? ≠ Option.some 32
  twin : twin l = false
theorem lt_one (a b : Nat) : decide (([a] : List Nat) < [b]) = decide (a < b) := by
  by_cases h : a < b
  · rw [decide_eq_true h]
    exact decide_eq_true (List.Lex.rel h)
  · rw [decide_eq_false h]
    refine decide_eq_false fun q => ?_
    cases q with
    | rel q => exact h q
    | cons q => cases q
theorem blank_cp : cp (Str.ofString " ") = [32] := by decide +kernel
theorem tilde_cp : cp (Str.ofString "~") = [126] := by decide +kernel
theorem two_cp : cp (Str.ofString "  ") = [32, 32] := by decide +kernel
theorem blank_is (c : Nat) : decide (V.str ⟨#[c]⟩ = V.str (Str.ofString " ")) = decide (c = 32) := by
  by_cases h : c = 32
  · subst h
    rw [decide_eq_true rfl]
    refine decide_eq_true (congrArg V.str (cp_inj ?_))
    rw [blank_cp]
  · rw [decide_eq_false h]
    refine decide_eq_false fun q => h ?_
    have e := congrArg cp (V.str.inj q)
    rw [blank_cp] at e
    exact (List.cons.inj e).1
theorem twin_iff : ∀ l : List Nat, twin l = true ↔ ∃ i, l[i]? = Option.some 32 ∧ l[i + 1]? = Option.some 32
  | [] => by simp [twin]
  | [a] => by simp [twin]
  | a :: b :: r => by
    have ih := twin_iff (b :: r)
    constructor
    · intro h
      have h' : ((a == 32 && b == 32) || twin (b :: r)) = true := h
      rcases Bool.or_eq_true_iff.mp h' with q | q
      · obtain ⟨q1, q2⟩ := Bool.and_eq_true_iff.mp q
        exact ⟨0, congrArg Option.some (beq_iff_eq.mp q1), congrArg Option.some (beq_iff_eq.mp q2)⟩
      · obtain ⟨i, h1, h2⟩ := ih.mp q
        exact ⟨i + 1, h1, h2⟩
    · rintro ⟨i, h1, h2⟩
      show ((a == 32 && b == 32) || twin (b :: r)) = true
      cases i with
      | zero =>
        have e1 : a = 32 := Option.some.inj h1
        have e2 : b = 32 := Option.some.inj h2
        rw [e1, e2]
        rfl
      | succ i =>
        rw [ih.mpr ⟨i, h1, h2⟩, Bool.or_true]
theorem two_in (z : Str) : (!(Builtin.Str.occurrences z (Str.ofString "  ") 0 z.length 1).isEmpty) = twin (cp z) := by
  have h := PySem.StrLaws.found_iff z (Str.ofString "  ")
  have hl : (Str.ofString "  ").length = 2 := by decide +kernel
  have key : (!(Builtin.Str.occurrences z (Str.ofString "  ") 0 z.length 1).isEmpty) = true ↔ twin (cp z) = true := by
    rw [h, twin_iff]
    constructor
    · rintro ⟨i, h1, h2⟩
      rw [PySem.StrLaws.subAt_eq, hl] at h2
      have e := eq_of_beq h2
      have e' : ((cp z).drop i).take 2 = [32, 32] := e.trans two_cp
      have g0 := congrArg (fun l => l[0]?) e'
      have g1 := congrArg (fun l => l[1]?) e'
      simp only [List.getElem?_take, List.getElem?_drop] at g0 g1
      exact ⟨i, by simpa using g0, by simpa using g1⟩
    · rintro ⟨i, h1, h2⟩
      have hi : i + 1 < (cp z).length := (List.getElem?_eq_some_iff.mp h2).1
      refine ⟨i, by rw [hl, ← cp_len]; omega, ?_⟩
      rw [PySem.StrLaws.subAt_eq, hl]
      refine beq_iff_eq.mpr (Eq.trans ?_ two_cp.symm)
      refine List.ext_getElem? fun k => ?_
      rw [List.getElem?_take, List.getElem?_drop]
      match k with
      | 0 => simpa using h1
      | 1 => simpa using h2
      | k + 2 => simp; omega
  cases hb : twin (cp z) with
  | true => exact key.mpr hb
  | false =>
    rw [Bool.eq_false_iff]
    exact fun q => by rw [key.mp q] at hb; cases hb
/-- a value of the kinds that are handed to is_text -/
def AnyV (H : Hp) (x : V) : Prop := Plain x ∨ ∃ a xs, x = .ref a ∧ (H a = some (.lst xs) ∨ H a = some (.tup xs))
open Classical in
noncomputable def textV : V → Bool
  | .str z => decide (Good (cp z))
  | _ => false
def spPercent : Sp := fun vs H Q _ => ∃ z : Str, vs = [.str z] ∧ z.length ≤ 1000 ∧ ∀ H', Same H H' → Q (.bl (decide (37 ∈ cp z))) H'
noncomputable def spIsText : Sp := fun vs H Q _ => ∃ x, vs = [x] ∧ AnyV H x ∧ (∀ z, x = .str z → z.length ≤ 2000) ∧ ∀ H', Same H H' → Q (.bl (textV x)) H'
theorem inV_ints (k : Nat) : ∀ l : List Nat, inV (.int (k : Nat)) (l.map fun c => V.int (c : Nat)) = decide (k ∈ l)
  | [] => rfl
  | c :: r => by
    show (eqV (.int (c : Nat)) (.int (k : Nat)) || inV (.int (k : Nat)) (r.map fun c => V.int (c : Nat))) = _
    rw [inV_ints k r]
    show (((c : Nat) : Int) == ((k : Nat) : Int) || decide (k ∈ r)) = decide (k ∈ c :: r)
    by_cases h : k = c
    · subst h
      simp
    · have h' : ((c : Nat) : Int) ≠ ((k : Nat) : Int) := fun e => h (Int.ofNat.inj e).symm
      have h2 : (((c : Nat) : Int) == ((k : Nat) : Int)) = false := beq_eq_false_iff_ne.mpr h'
      rw [h2, Bool.false_or]
      simp [h]
theorem flat_ints : ∀ l : List Nat, (l.map fun c => V.int (c : Nat)).all flatV = true
  | [] => rfl
  | _ :: r => flat_ints r
section
variable {P : Program} {w : World} {K : PySem.W.Frag} {mg : Str → Option Value} {base : Heap}
theorem ok_has_percent {f : Addr} {fd : FuncData} (F : Fun K "has_percent" "has_percent" s_has_percent f fd) {t : Tok} (g_PERCENT : mg "PERCENT" = some (.int 37 t)) (m_ord : mg "ord" = none) :
    FnOk P w K mg base CX0 1 f fd ["word"] spPercent := by
  refine F.ok sc_has_percent (fun vs H Q E h => ?_) (fun cdv A outer s H vs Q E hr h => ?_)
  · obtain ⟨z, rfl, _⟩ := h
    rfl
  · obtain ⟨z, rfl, hz, q⟩ := h
    refine ⟨_, (pss_one (ps_ret (pe_cmpR op_in_seq (pe_glob (v := .int 37) rfl g_PERCENT ⟨_, rfl⟩) (pe_lc (own := [("sign", 1)]) rfl sc_has_percent.nd (pi_str (pv 0)) (blkOk_by (N := N_has_percent) (sc := defScope s_has_percent) (by decide +kernel)) (fun _ _ _ _ _ => (pg_name (i := 1) sc_has_percent.nd rfl (Or.inl rfl))) (fun _ _ _ _ _ => pts_nil) (fun _ _ _ _ _ => (pe_callB call_ord (by rfl) m_ord (by decide +kernel) (pa_cons (pv 1) pa_nil)))) rfl))), ?_⟩
    refine ⟨_, rfl, z, rfl, fun D hD => ?_⟩
    refine lc_it walk_str (fun i H' => Same H H' ∧ H' D = some (.lst (((cp z).take i).map fun c => V.int (c : Nat)))) ⟨same_new hD, upd_same⟩ (fun _ _ _ _ => trivial) ?_ ?_
    · rintro i x Ha Hb hi ⟨hs, hd⟩ ⟨rfl, c, hc, rfl⟩
      have hc' : (cp z)[i]? = some c := by rw [Array.getElem?_toList]; exact hc
      refine ⟨rfl, _, rfl, _, rfl, rfl, _, hd, ?_, same_over hs hD, ?_⟩
      · rw [List.length_map, List.length_take, cp_len]
        exact small_line (by omega)
      · rw [upd_same, sub_take hc', List.map_append]
        rfl
    · rintro H' ⟨hs, hd⟩
      have ht : (cp z).take z.cps.size = cp z := List.take_of_length_le (Nat.le_of_eq (cp_len z))
      rw [ht] at hd
      refine ⟨D, _, rfl, .inl (SqL.of hd), rfl, flat_ints _, ?_⟩
      have e := inV_ints 37 (cp z)
      have q' := q H' hs
      rw [← e] at q'
      exact q'
end
end Sea
namespace Sea
open PySem PySem.Spec PyProof.Rows L2
open Classical in
theorem textV_no {x : V} (h : ∀ z, x = .str z → ¬ Good (cp z)) : textV x = false := by
  cases x with
  | str z => exact decide_eq_false (h z rfl)
  | _ => rfl
open Classical in
theorem textV_yes {z : Str} (h : Good (cp z)) : textV (.str z) = true := decide_eq_true h
theorem ltL (a b : Nat) : decide ((cp ⟨#[a]⟩) < ([b] : List Nat)) = decide (a < b) := lt_one a b
theorem ltR (a b : Nat) : decide (([a] : List Nat) < cp ⟨#[b]⟩) = decide (a < b) := lt_one a b
theorem all_signs (l : List Nat) : ((l.map fun c => decide (32 ≤ c ∧ c ≤ 126)).all id) = decide (∀ c ∈ l, 32 ≤ c ∧ c ≤ 126) := by
  induction l with
  | nil => simp
  | cons a r ih =>
    rw [List.map_cons, List.all_cons, ih]
    by_cases h : 32 ≤ a ∧ a ≤ 126
    · simp [h]
    · have h2 : ¬ (∀ c ∈ a :: r, 32 ≤ c ∧ c ≤ 126) := fun q => h (q a List.mem_cons_self)
      rw [decide_eq_false h2]
      simp only [id]
      rw [decide_eq_false h, Bool.false_and]
section
variable {P : Program} {w : World} {K : PySem.W.Frag} {mg : Str → Option Value} {base : Heap}
theorem ok_is_text {f : Addr} {fd : FuncData} (F : Fun K "is_text" "is_text" s_is_text f fd)
    (m_isinstance : mg "isinstance" = none) (m_str : mg "str" = none) (m_len : mg "len" = none) (m_all : mg "all" = none)
    (c_has_percent : Cal P w K mg base 1 "has_percent" spPercent) : FnOk P w K mg base CX0 2 f fd ["thing"] spIsText := by
  refine F.ok sc_is_text (fun vs H Q E h => ?_) (fun cdv A outer s H vs Q E hr h => ?_)
  · obtain ⟨x, rfl, _⟩ := h
    rfl
  · obtain ⟨x, rfl, hany, hsz, q⟩ := h
    refine ⟨_, (pss_cons (ps_if (PW.pt (pw_or (pt_not (pt_val (pe_callB call_isi (by rfl) m_isinstance (by decide +kernel) (pa_cons (pv 0) (pa_cons (pe_bltn (v := .ty "str") (by rfl) m_str (by decide +kernel) rfl) pa_nil))))) (pw_or1 (pt_not (pt_chain op_le op_le (pe_int) (pe_callB call_len (by rfl) m_len (by decide +kernel) (pa_cons (pv 0) pa_nil)) (pe_int))))))
    (pss_one (ps_ret (pe_bl)))
    pss_nil)
    (pss_cons (ps_if (PW.pt (pw_or (pt_val (pe_c c_has_percent hr (by decide) rfl (pa_cons (pv 0) pa_nil))) (pw_or1 (pt_not (pt_val (pe_callB (cr_all rfl) (by rfl) m_all (by decide +kernel) (pa_cons (pe_lc (own := [("sign", 1)]) rfl sc_is_text.nd (pi_str (pv 0)) (blkOk_by (N := N_is_text) (sc := defScope s_is_text) (by decide +kernel)) (fun _ _ _ _ _ => (pg_name (i := 1) sc_is_text.nd rfl (Or.inl rfl))) (fun _ _ _ _ _ => pts_nil) (fun _ _ _ _ _ => (pe_chain op_le_str op_le_str (pe_str) (pv 1) (pe_str)))) pa_nil)))))))
    (pss_one (ps_ret (pe_bl)))
    pss_nil)
    (pss_one (ps_ret (pe_and (pe_cmpR op_ne (pe_ix ix_str (pv 0) (pe_int) (fun _ _ => rfl)) (pe_str) (nomark _)) (pe_and (pe_cmpR op_ne (pe_ix ix_str (pv 0) (pe_un un_neg (pe_int)) (fun _ _ => rfl)) (pe_str) (nomark _)) (pe_one (pe_cmpR op_notin_str (pe_str) (pv 0) rfl)))))))), ?_⟩
    -- what is no text
    have other : ∀ t, TyX K H x t → PySem.W.kitOne K t (.type "str") = some false → textV x = false →
        (∃ v, (start N_is_text [x])[0]? = some (some v) ∧ ∃ (x' c : V) (t u : Value) (b : Bool), [v, V.ty "str"] = [x', c] ∧ ClsV c u ∧ TyX K H x' t ∧ PySem.W.kitOne K t u = some b ∧ (∃ c, V.bl b = .bl c ∧ (if (!c) = true then (if true = true then Q (.bl false) H else False) else False))) :=
      fun t ty k e => ⟨x, rfl, x, _, t, _, false, rfl, .ty _, ty, k, false, rfl, by
        have q' := q H (Same.refl H)
        rw [e] at q'
        exact q'⟩
    cases x with
    | int i => obtain ⟨v, h1, x', c, t, u, b, h2, h3, h4, h5, c', h6, h7⟩ := other _ (.base (.int i)) (kit_ty (by decide +kernel)) rfl
               exact ⟨_, rfl, _, _, _, _, false, rfl, .ty _, .base (.int i), kit_ty (by decide +kernel), false, rfl, q H (Same.refl H)⟩
    | bl b => exact ⟨_, rfl, _, _, _, _, false, rfl, .ty _, .base (.bl b), kit_ty (by decide +kernel), false, rfl, q H (Same.refl H)⟩
    | non => exact ⟨_, rfl, _, _, _, _, false, rfl, .ty _, .base .non, kit_ty (by decide +kernel), false, rfl, q H (Same.refl H)⟩
    | ref a =>
      rcases hany with hp | ⟨a', xs, ea, hl | hl⟩
      · exact hp.elim
      · cases ea
        exact ⟨_, rfl, _, _, _, _, false, rfl, .ty _, .base (.lst hl), kit_ty (by decide +kernel), false, rfl, q H (Same.refl H)⟩
      · cases ea
        exact ⟨_, rfl, _, _, _, _, false, rfl, .ty _, .base (.tup hl), kit_ty (by decide +kernel), false, rfl, q H (Same.refl H)⟩
    | byt z => rcases hany with hp | ⟨a', xs, ea, _⟩ <;> first | exact hp.elim | cases ea
    | flt z => rcases hany with hp | ⟨a', xs, ea, _⟩ <;> first | exact hp.elim | cases ea
    | ty z => rcases hany with hp | ⟨a', xs, ea, _⟩ <;> first | exact hp.elim | cases ea
    | str z =>
      have hz2 : z.length ≤ 2000 := hsz z rfl
      have hzl : z.length ≤ sizeLine := by rw [sizeLine_eq]; omega
      have no : ∀ H', Same H H' → ¬ Good (cp z) → Q (.bl false) H' := fun H' hs hg => by
        have q' := q H' hs
        rw [textV_no (fun z' e => by cases e; exact hg)] at q'
        exact q'
      refine ⟨_, rfl, _, _, _, _, true, rfl, .ty _, .base (.str z), kit_ty (by decide +kernel), true, rfl, ?_⟩
      refine ⟨_, rfl, _, z.length, rfl, ⟨hzl, rfl⟩, _, _, rfl, rfl, _, rfl, ite2 (fun h1 => ⟨_, _, rfl, rfl, _, rfl, ?_⟩) (fun h1 => ⟨_, rfl, ?_⟩)⟩
      · have g1 : (1 : Int) ≤ (z.length : Nat) := of_decide_eq_true h1
        by_cases h2 : ((z.length : Nat) : Int) ≤ 60
        · rw [decide_eq_true h2]
          -- has_percent
          refine ⟨_, rfl, z, rfl, (by omega), fun H1 s1 => ⟨_, rfl, ?_⟩⟩
          refine ite2 (fun hp => ?_) (fun hp => ?_)
          · refine no H1 s1 fun g => ?_
            exact (g.sign 37 (of_decide_eq_true hp)).2.2 rfl
          · have hp' : 37 ∉ cp z := fun m => hp (decide_eq_true m)
            refine ⟨_, rfl, z, rfl, fun D hD => ?_⟩
            refine lc_it walk_str (fun i H' => Same H1 H' ∧ H' D = some (.lst ((((cp z).take i).map fun c => decide (32 ≤ c ∧ c ≤ 126)).map V.bl))) ⟨same_new hD, upd_same⟩ (fun _ _ _ _ => trivial) ?_ ?_
            · rintro i x Ha Hb hi ⟨hs, hd⟩ ⟨rfl, c, hc, rfl⟩
              have hc' : (cp z)[i]? = some c := by rw [Array.getElem?_toList]; exact hc
              have sz : ((((cp z).take i).map fun c => decide (32 ≤ c ∧ c ≤ 126)).map V.bl).length < sizeLine := by
                rw [List.length_map, List.length_map, List.length_take, cp_len]
                exact small_line (by omega)
              have fin : ∀ b, b = decide (32 ≤ c ∧ c ≤ 126) → Same H1 (upd Hb D (.lst (((((cp z).take i).map fun c => decide (32 ≤ c ∧ c ≤ 126)).map V.bl) ++ [V.bl b]))) ∧
                  (upd Hb D (.lst (((((cp z).take i).map fun c => decide (32 ≤ c ∧ c ≤ 126)).map V.bl) ++ [V.bl b]))) D = some (.lst ((((cp z).take (i + 1)).map fun c => decide (32 ≤ c ∧ c ≤ 126)).map V.bl)) := by
                intro b e
                subst e
                refine ⟨same_over hs hD, ?_⟩
                rw [upd_same, sub_take hc', List.map_append, List.map_append]
                rfl
              have e1 : (!decide ((cp ⟨#[c]⟩) < cp (Str.ofString " "))) = decide (32 ≤ c) := by
                rw [blank_cp, ltL]
                by_cases h : c < 32
                · rw [decide_eq_true h, decide_eq_false (by omega)]; rfl
                · rw [decide_eq_false h, decide_eq_true (by omega)]; rfl
              have e2 : (!decide (cp (Str.ofString "~") < (cp ⟨#[c]⟩))) = decide (c ≤ 126) := by
                rw [tilde_cp, ltR]
                by_cases h : 126 < c
                · rw [decide_eq_true h, decide_eq_false (by omega)]; rfl
                · rw [decide_eq_false h, decide_eq_true (by omega)]; rfl
              refine ⟨rfl, _, rfl, _, _, rfl, rfl, _, rfl, ite2 (fun h => ⟨_, _, rfl, rfl, _, hd, sz, ?_⟩) (fun h => ⟨_, hd, sz, ?_⟩)⟩
              · refine fin _ ?_
                have h' : 32 ≤ c := of_decide_eq_true (e1.symm.trans h)
                rw [e2]
                by_cases k : c ≤ 126
                · rw [decide_eq_true k, decide_eq_true ⟨h', k⟩]
                · rw [decide_eq_false k, decide_eq_false (fun q => k q.2)]
              · refine fin _ ?_
                have h' : ¬ 32 ≤ c := fun q => h (e1.trans (decide_eq_true q))
                rw [decide_eq_false (fun q => h' q.1)]
            · rintro H' ⟨hs, hd⟩
              have ht : (cp z).take z.cps.size = cp z := List.take_of_length_le (Nat.le_of_eq (cp_len z))
              rw [ht] at hd
              refine ⟨D, _, rfl, SqL.of hd, _, rfl, ?_⟩
              rw [all_signs]
              have s2 := s1.trans hs
              by_cases ha : ∀ c ∈ cp z, 32 ≤ c ∧ c ≤ 126
              · rw [decide_eq_true ha]
                have n0 : 0 < (cp z).length := by rw [cp_len]; omega
                have z0 : (cp z)[0]? = some (cp z)[0] := List.getElem?_eq_getElem n0
                have z1 : (cp z)[(cp z).length - 1]? = some ((cp z)[(cp z).length - 1]'(by omega)) := List.getElem?_eq_getElem (by omega)
                have zl : atI (cp z) (-1) = some ((cp z)[(cp z).length - 1]'(by omega)) := by
                  unfold atI ixN
                  rw [if_neg (by decide), if_pos (by omega)]
                  show (cp z)[((-1 : Int) + ((cp z).length : Nat)).toNat]? = _
                  rw [show ((-1 : Int) + ((cp z).length : Nat)).toNat = (cp z).length - 1 by omega]
                  exact z1
                refine ⟨_, rfl, z, 0, _, rfl, rfl, hzl, atI_nat (j := 0) z0, rfl, _, rfl, ?_⟩
                rw [blank_is]
                by_cases b0 : (cp z)[0] = 32
                · rw [decide_eq_true b0]
                  exact no H' s2 fun g => g.head (z0.trans (congrArg some b0))
                · rw [decide_eq_false b0]
                  refine ⟨_, rfl, 1, rfl, z, -1, _, rfl, rfl, hzl, zl, rfl, _, rfl, ?_⟩
                  rw [blank_is]
                  by_cases b1 : (cp z)[(cp z).length - 1]'(by omega) = 32
                  · rw [decide_eq_true b1]
                    exact no H' s2 fun g => g.last (z1.trans (congrArg some b1))
                  · rw [decide_eq_false b1]
                    refine ⟨_, rfl, _, _, rfl, rfl, ?_⟩
                    have q' := q H' s2
                    have e : textV (.str z) = !twin (cp z) := by
                      cases ht2 : twin (cp z) with
                      | true => exact textV_no fun z' e' g => by cases e'; rw [g.twin] at ht2; cases ht2
                      | false =>
                        refine textV_yes ⟨by omega, by rw [cp_len]; omega, fun c hc => ⟨(ha c hc).1, (ha c hc).2, fun e => hp' (e ▸ hc)⟩, fun e => b0 (Option.some.inj (z0.symm.trans e)), fun e => b1 (Option.some.inj (z1.symm.trans e)), ht2⟩
                    rw [e, ← two_in] at q'
                    exact q'
              · rw [decide_eq_false ha]
                exact no H' s2 fun g => ha fun c hc => ⟨(g.sign c hc).1, (g.sign c hc).2.1⟩
        · rw [decide_eq_false h2]
          exact no H (Same.refl H) fun g => h2 (by have := g.most; rw [cp_len] at this; omega)
      · refine no H (Same.refl H) fun g => h1 (decide_eq_true ?_)
        have := g.some
        rw [cp_len] at this
        omega
end
end Sea
namespace Sea
open PySem PySem.Spec PyProof.Rows L2
/-! the tape that a law draws from -/
/-- all but what stands at t is as it was -/
def KB (t : Addr) (H H' : Hp) : Prop := ∀ b o, b ≠ t → H b = some o → H' b = some o
theorem KB.refl (t : Addr) (H : Hp) : KB t H H := fun _ _ _ h => h
theorem KB.trans {t : Addr} {H H1 H2 : Hp} (a : KB t H H1) (b : KB t H1 H2) : KB t H H2 := fun c o n h => b c o n (a c o n h)
theorem KB.of_same {t : Addr} {H H' : Hp} (s : Same H H') : KB t H H' := fun b o _ h => s b o h
theorem KB.over {t : Addr} {H H' : Hp} {D : Addr} {o : HO} (k : KB t H H') (h : H D = none) : KB t H (upd H' D o) := fun b x n e => by
  rw [upd_ne (ne_of_none e h)]
  exact k b x n e
structure Tape (H : Hp) (tp cl : Addr) (ns : List Int) : Prop where
  ex : ∃ i r z c : Int, H tp = some (.lst [.ref cl, .int i, .int r, .int z, .int c]) ∧ 0 ≤ i ∧ 0 ≤ r ∧ (0 ≤ z ∧ z < 2147483647) ∧ 0 ≤ c
  cells : H cl = some (.lst (ns.map V.int))
  ne : cl ≠ tp
  nn : ∀ n ∈ ns, 0 ≤ n
theorem Tape.set {H H' : Hp} {tp cl : Addr} {ns : List Int} (T : Tape H tp cl ns) (k : KB tp H H') {i r z c : Int} (h1 : 0 ≤ i) (h2 : 0 ≤ r) (h3 : 0 ≤ z ∧ z < 2147483647) (h4 : 0 ≤ c) :
    Tape (upd H' tp (.lst [.ref cl, .int i, .int r, .int z, .int c])) tp cl ns :=
  ⟨⟨i, r, z, c, upd_same, h1, h2, h3, h4⟩, by rw [upd_ne T.ne]; exact k _ _ T.ne T.cells, T.ne, T.nn⟩
theorem KB.set {t : Addr} {H H' : Hp} {o : HO} (k : KB t H H') : KB t H (upd H' t o) := fun b x n e => by
  rw [upd_ne n]
  exact k b x n e
theorem Tape.there {H : Hp} {tp cl : Addr} {ns : List Int} (T : Tape H tp cl ns) : ∃ o, H tp = some o := let ⟨_, _, _, _, h, _⟩ := T.ex; ⟨_, h⟩
/-- something new, or something else that stands, is written -/
theorem Tape.other {H : Hp} {tp cl : Addr} {ns : List Int} (T : Tape H tp cl ns) {D : Addr} {o : HO} (h1 : tp ≠ D) (h2 : cl ≠ D) : Tape (upd H D o) tp cl ns := by
  obtain ⟨i, r, z, c, h, k1, k2, k3, k4⟩ := T.ex
  exact ⟨⟨i, r, z, c, by rw [upd_ne h1]; exact h, k1, k2, k3, k4⟩, by rw [upd_ne h2]; exact T.cells, T.ne, T.nn⟩
theorem Tape.fresh {H : Hp} {tp cl : Addr} {ns : List Int} (T : Tape H tp cl ns) {D : Addr} (h : H D = none) : tp ≠ D ∧ cl ≠ D := by
  obtain ⟨o, ho⟩ := T.there
  exact ⟨ne_of_none ho h, ne_of_none T.cells h⟩
theorem Tape.new {H : Hp} {tp cl : Addr} {ns : List Int} (T : Tape H tp cl ns) {D : Addr} {o : HO} (h : H D = none) : Tape (upd H D o) tp cl ns :=
  T.other (T.fresh h).1 (T.fresh h).2
theorem Tape.same {H H' : Hp} {tp cl : Addr} {ns : List Int} (T : Tape H tp cl ns) (s : Same H H') : Tape H' tp cl ns := by
  obtain ⟨i, r, z, c, h, k⟩ := T.ex
  exact ⟨⟨i, r, z, c, s _ _ h, k⟩, s _ _ T.cells, T.ne, T.nn⟩
def spPick : Sp := fun vs H Q _ => ∃ (tp cl : Addr) (ns : List Int) (m : Int), vs = [.ref tp, .int m] ∧ Tape H tp cl ns ∧ m < 1073741824 ∧
  ∀ H' d, KB tp H H' → Tape H' tp cl ns → 0 ≤ d → (d < m ∨ d = 0) → Q (.int d) H'
def spSome : Sp := fun vs H Q _ => ∃ (tp cl : Addr) (ns : List Int) (lo hi : Int), vs = [.ref tp, .int lo, .int hi] ∧ Tape H tp cl ns ∧ lo ≤ hi ∧ hi - lo < 1000000000 ∧
  ∀ H' d, KB tp H H' → Tape H' tp cl ns → lo ≤ d → d ≤ hi → Q (.int d) H'
theorem at_int {ns : List Int} {i : Int} (h0 : 0 ≤ i) (h1 : i < ((ns.map V.int).length : Nat)) : ∃ n, n ∈ ns ∧ atI (ns.map V.int) i = some (.int n) := by
  obtain ⟨k, rfl⟩ : ∃ k : Nat, i = (k : Int) := ⟨i.toNat, by omega⟩
  have h2 : k < ns.length := by rw [List.length_map] at h1; omega
  refine ⟨ns[k], List.getElem_mem h2, atI_nat ?_⟩
  rw [List.getElem?_map, List.getElem?_eq_getElem h2]
  rfl
section
variable {P : Program} {w : World} {K : PySem.W.Frag} {mg : Str → Option Value} {base : Heap}
theorem ok_pick {f : Addr} {fd : FuncData} (F : Fun K "_law_pick" "_law_pick" s__law_pick f fd) (m_len : mg "len" = none) (m_int : mg "int" = none) :
    FnOk P w K mg base CX0 1 f fd ["_law_tape_here", "_law_many_here"] spPick := by
  refine F.ok sc__law_pick (fun vs H Q E h => ?_) (fun cdv A outer s H vs Q E hr h => ?_)
  · obtain ⟨tp, cl, ns, m, rfl, _⟩ := h
    rfl
  · obtain ⟨tp, cl, ns, m, rfl, T, hm, q⟩ := h
    refine ⟨_, (pss_cons (ps_if (PW.pt (pw_or (pt_not (pt_truth (pe_ix ix_list (pv 0) (pe_int) (fun _ _ => rfl)) (by intro _; rfl))) (pw_or1 (pt_cmpR op_lt (pv 1) (pe_int) (nomark _)))))
    (pss_one (ps_ret (pe_int)))
    pss_nil)
    (C8.pss_cut (ps_if (PW.pt (pw_and (pt_cmpR op_eq (pe_ix ix_list (pv 0) (pe_int) (fun _ _ => rfl)) (pe_int) (nomark _)) (pw_and1 (pt_cmpR op_lt (pe_ix ix_list (pv 0) (pe_int) (fun _ _ => rfl)) (pe_callB call_len (by rfl) m_len (by decide +kernel) (pa_cons (pe_ix ix_list (pv 0) (pe_int) (fun _ _ => rfl)) pa_nil)) (nomark _)))))
    (pss_cons (ps_asg (pe_ix ix_list (pe_ix ix_list (pv 0) (pe_int) (fun _ _ => rfl)) (pe_ix ix_list (pv 0) (pe_int) (fun _ _ => rfl)) (fun _ _ => rfl)) (pg_sub (pv 0) (pe_int) set_list))
    (pss_cons (ps_asg (pe_op op_add (pe_ix ix_list (pv 0) (pe_int) (fun _ _ => rfl)) (pe_int)) (pg_sub (pv 0) (pe_int) set_list))
    (pss_one (ps_if (pt_cmpR op_lt (pe_ix ix_list (pv 0) (pe_int) (fun _ _ => rfl)) (pe_op op_pow (pe_int) (pe_int)) (nomark _))
    (pss_cons (ps_asg (pe_op op_modN (pe_callTy call_int1 (by rfl) m_int (by decide +kernel) (pa_cons (pe_op op_add (pe_op op_add (pe_op op_mul (pe_ix ix_list (pv 0) (pe_int) (fun _ _ => rfl)) (pe_int)) (pe_op op_mul (pe_ix ix_list (pv 0) (pe_int) (fun _ _ => rfl)) (pe_int))) (pe_int)) pa_nil)) (pe_int)) (pg_sub (pv 0) (pe_int) set_list))
    (pss_one (ps_asg (pe_int) (pg_sub (pv 0) (pe_int) set_list))))
    pss_nil))))
    pss_nil)
    (pss_cons (ps_if (pt_cmpR op_gt (pe_ix ix_list (pv 0) (pe_int) (fun _ _ => rfl)) (pe_int) (nomark _))
    (pss_cons (ps_set (i := 2) sc__law_pick.nd rfl (Or.inl rfl) (pe_op op_modN (pe_callTy call_int1 (by rfl) m_int (by decide +kernel) (pa_cons (pe_ix ix_list (pv 0) (pe_int) (fun _ _ => rfl)) pa_nil)) (pv 1)))
    (pss_cons (ps_asg (pe_op op_fdivN (pe_ix ix_list (pv 0) (pe_int) (fun _ _ => rfl)) (pv 1)) (pg_sub (pv 0) (pe_int) set_list))
    (pss_one (ps_ret (pv 2)))))
    pss_nil)
    (pss_cons (ps_asg (pe_op op_add (pe_ix ix_list (pv 0) (pe_int) (fun _ _ => rfl)) (pe_int)) (pg_sub (pv 0) (pe_int) set_list))
    (pss_cons (ps_asg (pe_op op_modN (pe_callTy call_int1 (by rfl) m_int (by decide +kernel) (pa_cons (pe_op op_add (pe_op op_add (pe_op op_mul (pe_ix ix_list (pv 0) (pe_int) (fun _ _ => rfl)) (pe_int)) (pe_op op_mul (pe_ix ix_list (pv 0) (pe_int) (fun _ _ => rfl)) (pe_int))) (pe_int)) pa_nil)) (pe_int)) (pg_sub (pv 0) (pe_int) set_list))
    (pss_cons (ps_set (i := 3) sc__law_pick.nd rfl (Or.inl rfl) (pe_op op_modN (pe_callTy call_int1 (by rfl) m_int (by decide +kernel) (pa_cons (pe_op op_add (pe_op op_mul (pe_ix ix_list (pv 0) (pe_int) (fun _ _ => rfl)) (pe_ix ix_list (pv 0) (pe_int) (fun _ _ => rfl))) (pe_op op_mul (pe_ix ix_list (pv 0) (pe_int) (fun _ _ => rfl)) (pe_int))) pa_nil)) (pe_int)))
    (pss_cons (ps_set (i := 3) sc__law_pick.nd rfl (Or.inl rfl) (pe_op op_modN (pe_callTy call_int1 (by rfl) m_int (by decide +kernel) (pa_cons (pe_op op_add (pe_op op_mul (pv 3) (pe_int)) (pe_ix ix_list (pv 0) (pe_int) (fun _ _ => rfl))) pa_nil)) (pe_int)))
    (pss_one (ps_ret (pe_op op_modN (pe_callTy call_int1 (by rfl) m_int (by decide +kernel) (pa_cons (pe_op op_fdivN (pv 3) (pe_int)) pa_nil)) (pv 1))))))))))), ?_⟩
    obtain ⟨i, r, z, c, hT, i0, r0, z0, c0⟩ := T.ex
    have hC := T.cells
    have modz : ∀ x : Int, 0 ≤ x.fmod 2147483647 ∧ x.fmod 2147483647 < 2147483647 := fun x => ⟨Int.fmod_nonneg_of_pos x (by decide), Int.fmod_lt_of_pos x (by decide)⟩
    -- if not tape[0] or many < 2
    refine ⟨_, rfl, tp, _, 0, _, rfl, rfl, SqL.of hT, atI_nat (j := 0) rfl, _, .inl ⟨_, SqL.of hC, rfl⟩, ?_⟩
    cases ns with
    | nil => exact q H 0 (KB.refl _ _) T (Int.le_refl _) (.inr rfl)
    | cons n0 nr =>
      refine ⟨_, rfl, _, _, rfl, rfl, _, rfl, ite2 (fun e => q H 0 (KB.refl _ _) T (Int.le_refl _) (.inr rfl)) (fun e => ?_)⟩
      have m2 : 2 ≤ m := by
        have : ¬ m < 2 := fun z => e (decide_eq_true z)
        omega
      have modm : ∀ x : Int, 0 ≤ x.fmod m ∧ x.fmod m < m := fun x => ⟨Int.fmod_nonneg_of_pos x (by omega), Int.fmod_lt_of_pos x (by omega)⟩
      refine ⟨fun σ' H' => σ' = [some (.ref tp), some (.int m), none, none] ∧ KB tp H H' ∧ Tape H' tp cl (n0 :: nr), ?_, ?_⟩
      · -- a new cell
        refine ⟨_, rfl, tp, _, 2, _, rfl, rfl, SqL.of hT, atI_nat (j := 2) rfl, rfl, _, rfl, ite2 (fun e1 => ?_) (fun e1 => ⟨rfl, KB.refl _ _, T⟩)⟩
        refine ⟨_, rfl, tp, _, 1, _, rfl, rfl, SqL.of hT, atI_nat (j := 1) rfl, _, rfl, tp, _, 0, _, rfl, rfl, SqL.of hT, atI_nat (j := 0) rfl, _, _, rfl, .inl ⟨_, SqL.of hC, rfl⟩, _, _, rfl, rfl, _, rfl, ite2 (fun e2 => ?_) (fun e2 => ⟨rfl, KB.refl _ _, T⟩)⟩
        obtain ⟨n, hn, ha⟩ := at_int (ns := n0 :: nr) i0 (of_decide_eq_true e2)
        have n0' := T.nn n hn
        refine ⟨_, rfl, tp, _, 0, _, rfl, rfl, SqL.of hT, atI_nat (j := 0) rfl, _, rfl, tp, _, 1, _, rfl, rfl, SqL.of hT, atI_nat (j := 1) rfl, cl, _, i, _, rfl, rfl, SqL.of hC, ha, _, rfl, tp, _, 2, 2, rfl, rfl, hT, rfl, ?_⟩
        refine ⟨_, rfl, tp, _, 1, _, rfl, rfl, SqL.of upd_same, atI_nat (j := 1) rfl, _, _, rfl, rfl, _, rfl, tp, _, 1, 1, rfl, rfl, upd_same, rfl, ?_⟩
        refine ⟨_, rfl, tp, _, 2, _, rfl, rfl, SqL.of upd_same, atI_nat (j := 2) rfl, _, _, rfl, rfl, ⟨by decide, by decide, by decide⟩, _, _, rfl, rfl, _, rfl, ite2 (fun e3 => ?_) (fun e3 => ?_)⟩
        · refine ⟨_, rfl, tp, _, 3, _, rfl, rfl, SqL.of upd_same, atI_nat (j := 3) rfl, _, _, rfl, rfl, .inr ⟨by decide, by decide⟩, _, rfl, tp, _, 2, _, rfl, rfl, SqL.of upd_same, atI_nat (j := 2) rfl, _, _, rfl, rfl, .inr ⟨by decide, by decide⟩, _, _, rfl, rfl, _, _, rfl, rfl, .inl ⟨_, rfl, _, _, rfl, rfl, (show (2147483647 : Int) ≠ 0 by decide), _, rfl, tp, _, 3, 3, rfl, rfl, upd_same, rfl, ?_⟩⟩
          refine ⟨_, rfl, tp, _, 2, 2, rfl, rfl, upd_same, rfl, rfl, ?_, ?_⟩
          · exact (((KB.refl _ _).set).set).set.set
          · exact T.set (((KB.refl _ _).set).set).set (by omega) (Int.le_refl _) (modz _) c0
        · exact ⟨rfl, ((KB.refl _ _).set).set, T.set (KB.refl _ _).set (by omega) n0' z0 c0⟩
      · rintro σ' H1 ⟨rfl, k1, T1⟩
        obtain ⟨i', r', z', c', hT', i0', r0', z0', c0'⟩ := T1.ex
        refine ⟨_, rfl, tp, _, 2, _, rfl, rfl, SqL.of hT', atI_nat (j := 2) rfl, _, _, rfl, rfl, _, rfl, ite2 (fun e1 => ?_) (fun e1 => ?_)⟩
        · refine ⟨_, rfl, tp, _, 2, _, rfl, rfl, SqL.of hT', atI_nat (j := 2) rfl, .inl ⟨_, rfl, _, rfl, _, _, rfl, rfl, by show m ≠ 0; omega, ?_⟩⟩
          refine ⟨_, rfl, tp, _, 2, _, rfl, rfl, SqL.of hT', atI_nat (j := 2) rfl, _, rfl, _, _, rfl, rfl, ⟨by omega, by omega⟩, _, rfl, tp, _, 2, 2, rfl, rfl, hT', rfl, ?_⟩
          refine ⟨_, rfl, q _ _ k1.set (T1.set (KB.refl _ _) i0' (Int.fdiv_nonneg r0' (by omega)) z0' c0') (modm _).1 (.inl (modm _).2)⟩
        · refine ⟨_, rfl, tp, _, 4, _, rfl, rfl, SqL.of hT', atI_nat (j := 4) rfl, _, _, rfl, rfl, _, rfl, tp, _, 4, 4, rfl, rfl, hT', rfl, ?_⟩
          refine ⟨_, rfl, tp, _, 3, _, rfl, rfl, SqL.of upd_same, atI_nat (j := 3) rfl, _, _, rfl, rfl, .inr ⟨by decide, by decide⟩, _, rfl, tp, _, 4, _, rfl, rfl, SqL.of upd_same, atI_nat (j := 4) rfl, _, _, rfl, rfl, .inr ⟨by decide, by decide⟩, _, _, rfl, rfl, _, _, rfl, rfl, .inl ⟨_, rfl, _, _, rfl, rfl, (show (2147483647 : Int) ≠ 0 by decide), _, rfl, tp, _, 3, 3, rfl, rfl, upd_same, rfl, ?_⟩⟩
          have mz := modz (z' * 48271 + (c' + 1) * 40692 + 5)
          refine ⟨_, rfl, tp, _, 3, _, rfl, rfl, SqL.of upd_same, atI_nat (j := 3) rfl, _, rfl, tp, _, 3, _, rfl, rfl, SqL.of upd_same, atI_nat (j := 3) rfl, _, _, rfl, rfl, .inl ⟨?_, ?_⟩, _, rfl, tp, _, 4, _, rfl, rfl, SqL.of upd_same, atI_nat (j := 4) rfl, _, _, rfl, rfl, .inr ⟨by decide, by decide⟩, _, _, rfl, rfl, .inl ⟨_, rfl, _, _, rfl, rfl, (show (2147483629 : Int) ≠ 0 by decide), ?_⟩⟩
          · exact Int.lt_of_lt_of_le (by decide) mz.1
          · exact Int.lt_trans mz.2 (by decide)
          refine ⟨_, rfl, _, _, rfl, rfl, .inr ⟨by decide, by decide⟩, _, rfl, tp, _, 3, _, rfl, rfl, SqL.of upd_same, atI_nat (j := 3) rfl, _, _, rfl, rfl, .inl ⟨_, rfl, _, _, rfl, rfl, (show (2147483587 : Int) ≠ 0 by decide), ?_⟩⟩
          refine ⟨_, rfl, _, _, rfl, rfl, ⟨by decide, by decide⟩, .inl ⟨_, rfl, _, rfl, _, _, rfl, rfl, by show m ≠ 0; omega, ?_⟩⟩
          exact q _ _ k1.set.set (T1.set (KB.refl _ _).set i0' r0' mz (by omega)) (modm _).1 (.inl (modm _).2)
theorem ok_some {f : Addr} {fd : FuncData} (F : Fun K "_law_some" "_law_some" s__law_some f fd) (c__law_pick : Cal P w K mg base 1 "_law_pick" spPick) :
    FnOk P w K mg base CX0 2 f fd ["_law_tape_here", "_law_low", "_law_high"] spSome := by
  refine F.ok sc__law_some (fun vs H Q E h => ?_) (fun cdv A outer s H vs Q E hr h => ?_)
  · obtain ⟨tp, cl, ns, lo, hi, rfl, _⟩ := h
    rfl
  · obtain ⟨tp, cl, ns, lo, hi, rfl, T, h1, h2, q⟩ := h
    refine ⟨_, (pss_one (ps_ret (pe_op op_add (pv 1) (pe_c c__law_pick hr (by decide) rfl (pa_cons (pv 0) (pa_cons (pe_op op_add (pe_op op_sub (pv 2) (pv 1)) (pe_int)) pa_nil)))))), ?_⟩
    refine ⟨_, rfl, _, rfl, _, rfl, _, rfl, _, _, rfl, rfl, _, _, rfl, rfl, tp, cl, ns, _, rfl, T, by omega, fun H' d k T' d0 d1 => ⟨_, _, rfl, rfl, q H' _ k T' ?_ ?_⟩⟩
    · omega
    · omega
end
end Sea
namespace Sea
open PySem PySem.Spec PyProof.Rows L2
/-! texts that a law draws -/
def flat (ws : List (List Nat)) : List Nat := ws.flatMap fun w => 32 :: w
theorem flat_nil : flat [] = [] := rfl
theorem flat_cons (w : List Nat) (r : List (List Nat)) : flat (w :: r) = 32 :: (w ++ flat r) := rfl
theorem join_cp : ∀ ws : List Str, cp (Str.join (Str.ofString " ") ws) = (flat (ws.map cp)).drop 1
  | [] => rfl
  | [x] => by
    show cp x = (flat [cp x]).drop 1
    rw [flat_cons, flat_nil, List.append_nil]
    rfl
  | x :: y :: r => by
    have ih := join_cp (y :: r)
    show cp (x ++ Str.ofString " " ++ Str.join (Str.ofString " ") (y :: r)) = _
    have e : cp (x ++ Str.ofString " " ++ Str.join (Str.ofString " ") (y :: r)) = cp x ++ cp (Str.ofString " ") ++ cp (Str.join (Str.ofString " ") (y :: r)) := by
      show ((x.cps ++ (Str.ofString " ").cps) ++ (Str.join (Str.ofString " ") (y :: r)).cps).toList = _
      rw [Array.toList_append, Array.toList_append]
    rw [e, ih, blank_cp]
    show cp x ++ [32] ++ (flat ((y :: r).map cp)).drop 1 = cp x ++ flat ((y :: r).map cp)
    rw [List.map_cons, flat_cons, List.append_assoc]
    rfl
theorem join0_cp : ∀ ws : List Str, cp (Str.join (Str.ofString "") ws) = (ws.map cp).flatten
  | [] => rfl
  | [x] => by
    show cp x = cp x ++ []
    rw [List.append_nil]
  | x :: y :: r => by
    have ih := join0_cp (y :: r)
    have z : cp (Str.ofString "") = [] := by decide +kernel
    have e : cp (x ++ Str.ofString "" ++ Str.join (Str.ofString "") (y :: r)) = cp x ++ cp (Str.ofString "") ++ cp (Str.join (Str.ofString "") (y :: r)) := by
      show ((x.cps ++ (Str.ofString "").cps) ++ (Str.join (Str.ofString "") (y :: r)).cps).toList = _
      rw [Array.toList_append, Array.toList_append]
    show cp (x ++ Str.ofString "" ++ Str.join (Str.ofString "") (y :: r)) = cp x ++ ((y :: r).map cp).flatten
    rw [e, ih, z, List.append_nil]
theorem signs_flat (cs : List Nat) : ((cs.map fun c => (⟨#[c]⟩ : Str)).map cp).flatten = cs := by
  induction cs with
  | nil => rfl
  | cons c r ih =>
    show [c] ++ ((r.map fun c => (⟨#[c]⟩ : Str)).map cp).flatten = c :: r
    rw [ih]
    rfl
end Sea
namespace Sea
open PySem PySem.Spec PyProof.Rows L2
def spTape (K : PySem.W.Frag) : Sp := fun vs H Q _ => ∃ (a : Addr) (ns : List Int), vs = [.ref a] ∧ SqL K H a (ns.map V.int) ∧ ns.length ≤ 63 ∧
  ∀ H' tp cl ns', Same H H' → Tape H' tp cl ns' → Q (.ref tp) H'
theorem sum_ones (cs : List Nat) : ((cs.map fun c => (⟨#[c]⟩ : Str)).map (·.length)).sum = cs.length := by
  induction cs with
  | nil => rfl
  | cons c r ih =>
    rw [List.map_cons, List.map_cons, List.sum_cons, ih, List.length_cons]
    show 1 + r.length = r.length + 1
    omega
/-- the word that signs make -/
theorem word_cp (cs : List Nat) : cp (Txt.join (Str.ofString "") (cs.map fun c => (⟨#[c]⟩ : Str))) = cs := by
  rw [TL.join_eq, join0_cp, signs_flat]
section
variable {P : Program} {w : World} {K : PySem.W.Frag} {mg : Str → Option Value} {base : Heap}
theorem ok_tape {f : Addr} {fd : FuncData} (F : Fun K "_law_tape" "_law_tape" s__law_tape f fd) (m_abs : mg "abs" = none) (m_int : mg "int" = none) :
    FnOk P w K mg base CX0 1 f fd ["_law_script"] (spTape K) := by
  refine F.ok sc__law_tape (fun vs H Q E h => ?_) (fun cdv A outer s H vs Q E hr h => ?_)
  · obtain ⟨a, ns, rfl, _⟩ := h
    rfl
  · obtain ⟨a, ns, rfl, hS, hlen, q⟩ := h
    refine ⟨_, (pss_cons (ps_setLc (i := 1) (own := [("_law_cell", 2)]) rfl sc__law_tape.nd rfl rfl (sw_true rfl rfl rfl (by decide +kernel)) (pi_list (pv 0)) (blkOk_by (N := N__law_tape) (sc := defScope s__law_tape) (by decide +kernel)) (fun _ _ _ _ _ => (pg_name (i := 2) sc__law_tape.nd rfl (Or.inl rfl))) (fun _ _ _ _ _ => pts_nil) (fun _ _ _ _ _ => (pe_op op_modN (pe_callB call_abs (by rfl) m_abs (by decide +kernel) (pa_cons (pe_callTy call_int1 (by rfl) m_int (by decide +kernel) (pa_cons (pv 2) pa_nil)) pa_nil)) (pe_op op_powB (pe_op op_pow (pe_int) (pe_int)) (pe_int)))))
    (pss_one (ps_ret (pe_lst (pa_cons (pv 1) (pa_cons (pe_int) (pa_cons (pe_int) (pa_cons (pe_int) (pa_cons (pe_int) pa_nil))))))))), ?_⟩
    refine ⟨_, rfl, a, rfl, ⟨_, hS⟩, fun D hD => ?_⟩
    refine lc_list (K := K) (a := a) (xs := ns.map V.int) (fun j H' => Same H H' ∧ ∃ ms : List Int, H' D = some (.lst (ms.map V.int)) ∧ ms.length = j ∧ ∀ n ∈ ms, 0 ≤ n) ⟨same_new hD, [], upd_same, rfl, fun _ h => nomatch h⟩ (fun j H' _ hq => hq.1.seq hS) ?_ ?_
    · rintro j y H' hy ⟨hs, ms, hd, hm, hn⟩
      obtain ⟨n, hn', rfl⟩ : ∃ n, ns[j]? = some n ∧ y = V.int n := by
        rw [List.getElem?_map] at hy
        cases qq : ns[j]? with
        | none => rw [qq] at hy; cases hy
        | some n => rw [qq] at hy; exact ⟨n, rfl, (Option.some.inj hy).symm⟩
      have hj : j < ns.length := (List.getElem?_eq_some_iff.mp hn').1
      refine ⟨rfl, _, rfl, .inl ⟨_, rfl, _, rfl, _, _, rfl, rfl, ⟨by decide, by decide, by decide⟩, _, _, rfl, rfl, ⟨by decide, by decide +kernel⟩, _, _, rfl, rfl, ?_, _, hd, ?_, same_over hs hD, ms ++ [(if n < 0 then -n else n).fmod ((10 ^ (60 : Int).toNat) ^ (20 : Int).toNat)], ?_, ?_, ?_⟩⟩
      · show ((10 ^ (60 : Int).toNat) ^ (20 : Int).toNat : Int) ≠ 0
        decide +kernel
      · rw [List.length_map]
        exact small_line (by omega)
      · rw [upd_same, List.map_append]
        rfl
      · rw [List.length_append, hm]
        rfl
      · intro m hm'
        rcases List.mem_append.mp hm' with h | h
        · exact hn m h
        · rw [List.mem_singleton.mp h]
          exact Int.fmod_nonneg_of_pos _ (by decide +kernel)
    · rintro H' ⟨hs, ms, hd, hm, hn⟩
      refine ⟨_, rfl, (by show 5 ≤ sizeLine; decide), fun p hp => ?_⟩
      have ne : D ≠ p := ne_of_none hd hp
      exact q _ p D ms (hs.trans (same_new hp)) ⟨⟨0, 0, 7, 0, upd_same, by decide, by decide, ⟨by decide, by decide⟩, by decide⟩, by rw [upd_ne ne]; exact hd, ne, hn⟩
end
end Sea
/-! a text repeated -/
/-! a set made of a list of texts, and its members in order -/
namespace Sea
open PySem PySem.Spec PyProof.Rows L2
/-- the text that an entry holds -/
def keyT (e : Int × Value) : Str := strOf e.2
def TxtE (P : Program) (w : World) (e : Int × Value) : Prop := ∃ (k : Str) (tk : Tok), e.2 = Value.str k tk ∧ e.1 = (PySem.strKind P w).hash k
/-- the set at a holds the texts xs, each once -/
structure SetT (P : Program) (w : World) (h : Heap) (a : Addr) (xs : List Str) : Prop where
  ex : ∃ (o : Obj) (es : Array (Int × Value)) (ep : Nat) (t : SetTable), h.get? a = some o ∧ o.ExactSet ∧ o.data = .set es ep t ∧ (∀ e ∈ es.toList, TxtE P w e) ∧ (es.toList.map keyT).Nodup ∧
    (∀ k, k ∈ es.toList.map keyT ↔ k ∈ xs) ∧ es.size ≤ xs.length ∧ t.fits es.size = true ∧ Ris t.place.toList ∧ (w.params.followText "set-order" = true ∨ t.led = true)
section
variable {P : Program} {w : World}
theorem txt_elems {l : List (Int × Value)} (g : ∀ e ∈ l, TxtE P w e) : ElemsOf (PySem.strKind P w) l := fun e he => by
  obtain ⟨k, tk, h1, h2⟩ := g e he
  exact ⟨⟨k, by rw [h1]; exact strKind_is _ _ _ _, h2⟩, by rw [h1] <;> rfl⟩
theorem txt_is {e : Int × Value} (g : TxtE P w e) (k : Str) : (PySem.strKind P w).is k e.2 = true ↔ keyT e = k := by
  obtain ⟨k0, tk, h1, _⟩ := g
  unfold keyT
  rw [h1]
  constructor
  · exact fun q => (PySem.strKind P w).inj _ _ _ (strKind_is P w k0 tk) q
  · rintro rfl
    exact strKind_is _ _ _ _
theorem txt_mem {l : List (Int × Value)} (g : ∀ e ∈ l, TxtE P w e) (k : Str) : k ∈ l.map keyT ↔ ∃ e ∈ l, (PySem.strKind P w).is k e.2 = true := by
  rw [List.mem_map]
  exact ⟨fun ⟨e, he, q⟩ => ⟨e, he, (txt_is (g e he) k).2 q⟩, fun ⟨e, he, q⟩ => ⟨e, he, (txt_is (g e he) k).1 q⟩⟩
theorem SetT.keep {h h' : Heap} {a : Addr} {xs : List Str} (R : SetT P w h a xs) (k : ∀ o, h.get? a = some o → h'.get? a = some o) : SetT P w h' a xs := by
  obtain ⟨o, es, ep, t, ho, r⟩ := R.ex
  exact ⟨o, es, ep, t, k o ho, r⟩
variable {A : Around} {E : Value → Shared → Prop} {s : Shared} {a : Addr} {xs : List Str}
/-- the entry laid, and the table made anew where it is too full -/
theorem lay_tail {g : Bool → Sem Unit} (hg : ∀ (b : Bool) (s1 : Shared) (Q' : Unit → Shared → Prop), Q' () s1 → wpAny (model P w) A (g b) Q' E s1)
    {o : Obj} {es es1 : Array (Int × Value)} {ep : Nat} {t t2 : SetTable} {ys : List Str} (ho : s.heap.get? a = some o) (hex : o.ExactSet) (hd : o.data = .set es ep t)
    (g1 : ∀ e ∈ es1.toList, TxtE P w e) (nd : (es1.toList.map keyT).Nodup) (m1 : ∀ k, k ∈ es1.toList.map keyT ↔ k ∈ ys) (hz : es1.size ≤ ys.length) (hb : ys.length < scanBound)
    (hf : t2.fits es1.size = true) (hr : Ris t2.place.toList) (hl : w.params.followText "set-order" = true ∨ t2.led = true) {dummy : Bool} {R : Option Bool → Shared → Prop}
    (hR : ∀ h', Heap.SameBut a s.heap h' → SetT P w h' a ys → R (some true) { s with heap := h' }) :
    wpAny (model P w) A (do
        storeSet a es1 t2
        if (!dummy && t2.tooFull) = true then do
            g (relayAll t2 es1 (SetTable.grown es1.size)).2.2
            storeSet a (relayAll t2 es1 (SetTable.grown es1.size)).1 (relayAll t2 es1 (SetTable.grown es1.size)).2.1
            pure (some true)
          else pure (some true)) R E s := by
  have hb1 : es1.size < scanBound := Nat.lt_of_le_of_lt hz hb
  refine wpAny_bind (wpAny_storeSet_of ho hd ?_ (fits_of_scanBound hb1))
  have o1 := store_at (es' := es1) (t' := t2) ho hd
  have sb := Heap.SameBut.update s.heap a (Obj.putSet es1 t2)
  by_cases full : (!dummy && t2.tooFull) = true
  · rw [if_pos full]
    have pm := relayAll_perm t2 es1 (SetTable.grown es1.size)
    have f3 := relayAll_fits t2 es1 (SetTable.grown es1.size)
    have r3 := relayAll_ris t2 es1 (SetTable.grown es1.size)
    have l3 := relayAll_led t2 es1 (SetTable.grown es1.size)
    generalize relayAll t2 es1 (SetTable.grown es1.size) = Z at pm f3 r3 l3 ⊢
    obtain ⟨es2, t3, gave⟩ := Z
    dsimp only at pm f3 r3 l3 ⊢
    have same : es2.size = es1.size := by rw [← Array.length_toList, pm.length_eq, Array.length_toList]
    refine wpAny_bind (hg _ _ _ (wpAny_bind (wpAny_storeSet_of o1 rfl ?_ (fits_of_scanBound (by rw [same]; exact hb1)))))
    refine wpAny_pure (hR _ (sb.trans (Heap.SameBut.update _ a _)) ⟨_, es2, _, t3, store_at (es' := es2) (t' := t3) o1 rfl, hex, rfl, fun e he => g1 e (pm.mem_iff.mp he),
      (pm.map keyT).nodup_iff.mpr nd, fun k => (pm.map keyT).mem_iff.trans (m1 k), by rw [same]; exact hz, f3, r3, hl.imp id fun q => by rw [l3]; exact q⟩)
  · rw [if_neg full]
    exact wpAny_pure (hR _ sb ⟨_, es1, _, t2, o1, hex, rfl, g1, nd, m1, hz, hf, hr, hl⟩)
theorem add_text {k : Str} {tk : Tok} {Q : Bool → Shared → Prop} (R : SetT P w s.heap a xs) (room : xs.length + 1 < scanBound)
    (hQ : ∀ h' b, Heap.SameBut a s.heap h' → SetT P w h' a (xs ++ [k]) → Q b { s with heap := h' }) :
    wpAny (model P w) A (setAddHashed a (.str k tk) ((PySem.strKind P w).hash k)) Q E s := by
  obtain ⟨o, es, ep, t, ho, hex, hd, g, nd, hm, hz, hf, hr, hl⟩ := R.ex
  have hb : es.size < scanBound := by omega
  have hkey : (PySem.strKind P w).is k (.str k tk) = true := strKind_is _ _ _ _
  have hsc : (Value.str k tk).scannable = true := rfl
  have hel : ElemsOf (PySem.strKind P w) es.toList := txt_elems g
  unfold setAddHashed setAddHashedIn
  refine wpAny_holding (wpAny_bind (wpAny_setState_of ho hd hf ?_))
  dsimp only
  rw [byScan_of hsc hb hel]
  simp only [↓reduceIte]
  unfold setAddByScan
  refine wpAny_bind (wpAny_bind (wpAny_rule (wpAny_bind (wpAny_setScan_of hkey ho hd hf hel ?_))))
  cases hfi : List.findIdx? (fun e => (PySem.strKind P w).is k e.2) es.toList with
  | some j =>
    dsimp only
    obtain ⟨hj, pj, _⟩ := List.findIdx?_eq_some_iff_getElem.mp hfi
    have kin : k ∈ xs := (hm k).1 ((txt_mem g k).2 ⟨es.toList[j], List.getElem_mem hj, pj⟩)
    refine wpAny_pure (wpAny_pure (hQ s.heap _ (Heap.SameBut.refl a s.heap) ⟨o, es, ep, t, ho, hex, hd, g, nd, fun i => (hm i).trans ?_, by rw [List.length_append]; omega, hf, hr, hl⟩))
    rw [List.mem_append, List.mem_singleton]
    exact ⟨.inl, fun q => q.elim id fun e => e ▸ kin⟩
  | none =>
    dsimp only
    have kout : k ∉ es.toList.map keyT := fun q => by
      obtain ⟨e, he, q⟩ := (txt_mem g k).1 q
      have c := List.findIdx?_eq_none_iff.mp hfi e he
      rw [q] at c
      cases c
    have gw : ∀ (b : Bool) {s1 : Shared} {Q' : Unit → Shared → Prop}, Q' () s1 → wpAny (model P w) A (match b with | true => rule "set.scan.the-table-gave-way" | false => pure ()) Q' E s1 :=
      fun b s1 Q' q => by cases b <;> first | exact wpAny_pure q | exact wpAny_rule q
    have pm := layNew_perm t es ((PySem.strKind P w).hash k) (.str k tk)
    have f1 := layNew_fits t es ((PySem.strKind P w).hash k) (.str k tk)
    have r1 := layNew_ris t es ((PySem.strKind P w).hash k) (.str k tk) hr
    have l1 := layNew_led t es ((PySem.strKind P w).hash k) (.str k tk)
    generalize layNew t es ((PySem.strKind P w).hash k) (.str k tk) = Z at pm f1 r1 l1 ⊢
    obtain ⟨es1, t1, dummy, gave⟩ := Z
    dsimp only at pm f1 r1 l1 ⊢
    rw [Array.toList_push] at pm
    have pc : es1.toList.Perm (((PySem.strKind P w).hash k, Value.str k tk) :: es.toList) := pm.trans (List.perm_append_singleton _ _)
    have pk : (es1.toList.map keyT).Perm (k :: es.toList.map keyT) := pc.map keyT
    have g1 : ∀ e ∈ es1.toList, TxtE P w e := fun e he => by
      rcases List.mem_cons.mp (pc.mem_iff.mp he) with q | q
      · rw [q]; exact ⟨k, tk, rfl, rfl⟩
      · exact g e q
    have nd1 : (es1.toList.map keyT).Nodup := pk.nodup_iff.mpr (List.nodup_cons.mpr ⟨kout, nd⟩)
    have m1 : ∀ i, i ∈ es1.toList.map keyT ↔ i ∈ xs ++ [k] := fun i => by
      rw [pk.mem_iff, List.mem_cons, hm i, List.mem_append, List.mem_singleton]
      exact Or.comm
    have z1 : es1.size ≤ (xs ++ [k]).length := by
      rw [← Array.length_toList, pc.length_eq, List.length_cons, Array.length_toList, List.length_append]
      exact Nat.succ_le_succ hz
    have b1 : (xs ++ [k]).length < scanBound := by rw [List.length_append]; exact room
    have led1 : w.params.followText "set-order" = true ∨ t1.led = true := hl.imp id fun q => by rw [l1]; exact q
    refine wpAny_bind (gw _ ?_)
    split
    · refine wpAny_bind ?_
      rw [hashByValue_scannable 8 hsc]
      refine wpAny_pure (lay_tail ?_ ho hex hd g1 nd1 m1 z1 b1 ?_ ?_ ?_ ?_)
      · intro b s1 Q' q; cases b <;> first | exact wpAny_pure q | exact wpAny_rule q
      · first | (split <;> first | exact f1 | exact SetTable.fits_plain_off f1) | exact f1
      · first | (split <;> exact r1) | exact r1
      · first | (split <;> exact led1) | exact led1
      · intro h' sb r; dsimp only; exact wpAny_pure (hQ h' _ sb r)
    · refine wpAny_bind (wpAny_pure ?_)
      simp only [↓reduceIte]
      refine lay_tail ?_ ho hex hd g1 nd1 m1 z1 b1 f1 r1 led1 ?_
      · intro b s1 Q' q; cases b <;> first | exact wpAny_pure q | exact wpAny_rule q
      · intro h' sb r; dsimp only; exact wpAny_pure (hQ h' _ sb r)
end
end Sea
/-! set(xs), xs a list of texts; sorted of it -/
namespace Sea
open PySem PySem.Spec PyProof.Rows L2
section
variable {P : Program} {w : World} {A : Around} {R : Result → Shared → Prop} {I : Addr} {fp wr : List Addr} {G : Array GenState → Array GenState → Prop} {n : Nat} {Pv : Nat → Value → Prop} {St : Nat → Shared → Prop}
theorem fill_texts (W : WalksS P w A.in1 I fp wr G n Pv St) (S : Addr) (hS : S ∉ fp) (xs : List Str) (hn : xs.length = n) (hfew : n < 4000)
    (hval : ∀ i v, Pv i v → ∃ t, v = .str (xs.getD i Str.empty) t) :
    ∀ (k i : Nat) (s : Shared), n - i = k → i ≤ n → St i s → SetT P w s.heap S (xs.take i) →
      (∀ s', Moved (S :: wr) G s s' → SetT P w s'.heap S xs → R (.ok (.ret .none)) s') →
      codeAny (model P w) A (.builtin "set.update.loop" ⟨[.ref S, .ref I], []⟩) R s := by
  have out : S ∉ wr := fun h => hS (W.sub _ h)
  have more : ∀ b ∈ wr, b ∈ S :: wr := fun b hb => List.mem_cons_of_mem _ hb
  intro k
  induction k with
  | zero =>
    intro i s hk hi hst hT hR
    have e : i = n := by omega
    subst e
    rw [← hn, List.take_length] at hT
    refine codeAny_builtin PyProof.Rows.F.entry_set_update_loop ?_
    rw [Around.under_plainId PyProof.Rows.F.plain_set_update_loop _]
    exact wpAny_bind (W.done s _ _ hst fun s' hm => wpAny_pure (hR s' (hm.mono more) (hT.keep fun o => hm.heap S o out)))
  | succ k ih =>
    intro i s hk hi hst hT hR
    have lt : i < n := by omega
    refine codeAny_builtin PyProof.Rows.F.entry_set_update_loop ?_
    rw [Around.under_plainId PyProof.Rows.F.plain_set_update_loop _]
    refine wpAny_bind (W.item i s _ _ lt hst fun v s' hP hst' hm => ?_)
    obtain ⟨t, rfl⟩ := hval i v hP
    have hT' : SetT P w s'.heap S (xs.take i) := hT.keep fun o => hm.heap S o out
    show wpAny _ A.in1 (holding [Value.str (xs.getD i Str.empty) t] (setAdd S (.str (xs.getD i Str.empty) t)) >>= _) _ _ s'
    refine wpAny_bind (wpAny_holding ?_)
    unfold setAdd
    refine wpAny_holding (wpAny_bind ((PySem.strKind P w).pyHash (k := xs.getD i Str.empty) (strKind_is _ _ _ _) ?_))
    refine add_text (s := { s' with toks := s'.toks + 1 }) hT' (by
      have := List.length_take_le' i xs
      unfold scanBound
      omega) fun h' b sb hT2 => ?_
    have step : xs.take i ++ [xs.getD i Str.empty] = xs.take (i + 1) := by
      have hl : i < xs.length := by omega
      rw [List.take_add_one, List.getD_eq_getElem?_getD, List.getElem?_eq_getElem hl]
      rfl
    rw [step] at hT2
    refine wpAny_pure ⟨plainId_quiet PyProof.Rows.F.plain_set_update_loop _, ih (i + 1) _ (by omega) lt (W.frame _ s' _ _ hst' (Nat.le_succ _) fun b hb o e => ?_) hT2 fun s2 hm2 hT3 => ?_⟩
    · rw [sb.2 b (fun q : b = S => hS (q ▸ hb))]
      exact e
    · refine hR s2 (Moved.trans W.gtrans ((hm.mono more).then_heap (Nat.le_succ _) fun b o hb e => ?_) hm2) hT3
      rw [sb.2 b (fun q : b = S => hb (q ▸ List.mem_cons_self))]
      exact e
end
section
variable {P : Program} {w : World} {A : Around} {E : Value → Shared → Prop} {s : Shared}
theorem setT_fresh {h : Heap} {a : Addr} (ho : h.get? a = some { cls := .type "set", dict := none, data := .set #[] 0 (.fresh 0 0 (!w.params.followText "set-order")) }) : SetT P w h a [] :=
  ⟨_, #[], 0, _, ho, ⟨rfl, rfl, rfl⟩, rfl, (fun e he => by simp at he), (by simp), (fun k => by simp), (Nat.le_refl _), (by rfl), List.Pairwise.nil, by
    show _ ∨ (!w.params.followText "set-order") = true
    cases w.params.followText "set-order"
    · exact .inr rfl
    · exact .inl rfl⟩
/-- a fresh set -/
abbrev SET0 (w : World) : Obj := { cls := .type "set", dict := none, data := .set #[] 0 (.fresh 0 0 (!w.params.followText "set-order")) }
theorem set_of_texts {l : Addr} {items : Array Value} {xs : List Str} {Q : Value → Shared → Prop} (hh : A.handled = none) (hl : s.heap.IsList l items) (hi : PyProof.Rows.StrsAre items.toList xs) (hfew : xs.length < 4000)
    (h : ∀ (h' : Heap) (tk : Nat), SetT P w h' s.heap.objs.size xs → (∀ b o, b < s.heap.objs.size → s.heap.get? b = some o → h'.get? b = some o) → Q (.ref s.heap.objs.size) { s with heap := h', toks := tk }) :
    wpAny (model P w) A (call (.type "set") [.ref l]) Q E s := by
  obtain ⟨c, tl, hmro⟩ := PySem.F.called_set.mro
  have hmade := PySem.F.called_set.made
  have hsub := PySem.F.called_set.sub
  refine wpAny_call (codeAny_of_tree ?_)
  show wpAny _ _ (callAny (.type "set") _) _ _ _
  refine wpAny_pure ⟨Code.quiet_builtin _ (by decide +kernel), codeAny_builtin PySem.F.entry_type_call ?_⟩
  rw [Around.under_plain (weight_type_call_type "set" [.ref l] []) rfl]
  have h1 := PySem.F.called_set.notType
  have h2 := PySem.F.called_set.canCreate
  have hct := PySem.F.typeCall_set_1 (.ref l)
  repeat (any_goals (first | assumption | wp_step))
  refine codeAny_mono (code_set_led1 (.ref l) (E := E) (Q₁ := fun obj s1 => obj = .ref s.heap.objs.size ∧ s1 = { s with heap := s.heap.push (SET0 w) }) ⟨rfl, rfl⟩) fun r s1 hr => ?_
  cases r with
  | error e => exact hr
  | ok fl =>
    cases fl with
    | next => exact hr.elim
    | brk => exact hr.elim
    | cont => exact hr.elim
    | ret obj =>
      obtain ⟨rfl, rfl⟩ := hr
      have hS : (s.heap.push (SET0 w)).get? s.heap.objs.size = some (SET0 w) := Heap.get?_push_size _ rfl
      have hT : Shared.TypeIs { s with heap := s.heap.push (SET0 w) } (.ref s.heap.objs.size) "set" := ⟨_, hS, rfl⟩
      have hli := PySem.F.called_set.init.lookup
      have hbi := PySem.F.called_set.init.bind (.ref s.heap.objs.size)
      repeat (any_goals (first | assumption | wp_step))
      refine codeAny_mono (codeAny_call_builtin (R := wants (fun r s2 => r = .none ∧ ∃ h' tk, s2 = { s with heap := h', toks := tk } ∧ SetT P w h' s.heap.objs.size xs ∧
          (∀ b o, b < s.heap.objs.size → s.heap.get? b = some o → h'.get? b = some o)) E) PySem.F.called_set.init.plain PySem.F.entry_set_init (check_set_init_1 hT ?_)) fun r2 s2 hr2 => ?_
      · obtain ⟨ol, hol, hcl, nl, hdl⟩ := hl
        obtain ⟨ocls, odict, odata, oslots⟩ := ol
        simp only at hcl hdl
        subst hcl
        subst hdl
        have hol' : (s.heap.push (SET0 w)).get? l = some { cls := .type "list", dict := odict, data := .seq items nl, slots := oslots } := Heap.get?_push_of_some _ hol
        have hsls := PySem.F.sub_list_set
        have hslf := PySem.F.sub_list_frozenset
        have hne : (Value.type "list" == Value.type "dict") = false := by decide
        have hl1 : (s.heap.push (SET0 w)).IsList l items := ⟨_, hol', rfl, nl, rfl⟩
        unfold Builtin.«set.__init__» noKeywords Builtin.Frozenset.updateFrom
        generalize hPI : pyIter = PI
        wp_walk
        subst hPI
        refine wpAny_pyIter_list hl1 (wpAny_bind (wpAny_runValue ?_))
        have lS : l < s.heap.objs.size := Heap.lt_size hol
        have hh3 : A.in1.in1.in1.handled = none := by simp [hh]
        have nI : l ≠ (s.heap.push (SET0 w)).objs.size := by
          rw [Heap.size_push]
          exact Nat.ne_of_lt (Nat.lt_succ_of_lt lS)
        have nS : s.heap.objs.size ∉ [(s.heap.push (SET0 w)).objs.size, l] := by
          rw [Heap.size_push]
          simp only [List.mem_cons, List.not_mem_nil, or_false, not_or]
          exact ⟨Nat.ne_of_lt (Nat.lt_succ_self _), Nat.ne_of_gt lS⟩
        have hsz : xs.length = items.size := by rw [← StrsAre.len_eq hi, Array.length_toList]
        refine fill_texts ((Walks.list hh3 _ l nI items).toS) s.heap.objs.size nS xs hsz (by rw [← hsz]; exact hfew) (fun i v hv => SS.strs_at hi i v (by rw [Array.getElem?_toList]; exact hv))
          (items.size - 0) 0 _ (by omega) (Nat.zero_le _) ⟨⟨_, Heap.get?_push_size _ rfl, rfl, rfl⟩, (hl1.push _)⟩ (setT_fresh (Heap.get?_push_of_some _ hS)) ?_
        intro s' hm hT'
        obtain ⟨h', g', d', tk', os'⟩ := s'
        have eg : g' = s.gens := hm.gens
        have ed : d' = s.drawn := hm.drawn
        have eo : os' = s.os := hm.os
        subst eg
        subst ed
        subst eo
        show wpAny _ _ _ _ _ _
        refine wpAny_pure ?_
        show wpAny _ _ (ret Value.none) _ _ _
        refine wpAny_pure ⟨rfl, h', tk', rfl, hT', fun b o hb e => ?_⟩
        refine hm.heap b o ?_ (Heap.get?_push_of_some _ (Heap.get?_push_of_some _ e))
        simp only [List.mem_cons, List.not_mem_nil, or_false, not_or]
        exact ⟨Nat.ne_of_lt hb, by rw [Heap.size_push]; exact Nat.ne_of_lt (Nat.lt_succ_of_lt hb)⟩
      · cases r2 with
        | error e => exact hr2
        | ok fl2 =>
          cases fl2 with
          | ret r =>
            obtain ⟨rfl, h', tk, rfl, hT', hk'⟩ := hr2
            repeat (any_goals (first | assumption | wp_step))
            exact h _ _ hT' hk'
          | _ => exact hr2.elim
end
end Sea
/-! the rules: set(xs), sorted(set of texts) -/
namespace Sea
open PySem PySem.Spec PyProof.Rows L2
section
variable {P : Program} {w : World} {A : Around} {E : Value → Shared → Prop} {s : Shared}
theorem sorted_setT {a : Addr} {xs : List Str} {Q : Value → Shared → Prop} (R : SetT P w s.heap a xs) (hh : A.handled = none) (h64 : xs.length < 64)
    (hQ : ∀ s' p (out : Array Value) (c : Nat) (zs : List Str), (∀ b o, s.heap.get? b = some o → s'.heap.get? b = some o) → s'.gens = s.gens → s'.os = s.os → s.heap.objs.size ≤ p →
      s'.heap.get? p = some (seqObj "list" out c) → StrsAre out.toList zs → zs.Nodup → sortedS zs = true → (∀ k, k ∈ zs ↔ k ∈ xs) → zs.length ≤ xs.length → Q (.ref p) s') :
    wpAny (model P w) A (call (.builtin "sorted") [.ref a]) Q E s := by
  obtain ⟨o, es, ep, t, ho, hex, hd, g, nd, hm, hz, hf, hr, hl⟩ := R.ex
  refine Calls.call_function_entry kind_sorted plain_sorted entry_sorted (args_sorted1 _) ?_
  unfold Builtin.«sorted»
  refine wpAny_bind (m := checkCount "sorted" 1 1 _) (wpAny_pure ?_)
  refine wpAny_bind (collect_set (A := A.in1) hh ⟨o, ho, hex.1, hd⟩ hf (by unfold scanBound; omega) hr hl fun s1 vs k1 hz1 g1 o1 pm => ?_)
  have vl : vs.length = es.size := by rw [pm.length_eq, List.length_map, Array.length_toList]
  have all : ∀ v, v ∈ vs → ∃ x t, v = .str x t := fun v hv => by
    obtain ⟨e, he, q⟩ := List.mem_map.mp (pm.mem_iff.mp hv)
    obtain ⟨k, tk, h1, _⟩ := g e he
    exact ⟨k, tk, by rw [← q]; exact h1⟩
  have hS : StrsAre vs (vs.map strOf) := strsAre_map vs all
  have pk : (vs.map strOf).Perm (es.toList.map keyT) := by
    have q := pm.map strOf
    rw [List.map_map] at q
    exact q
  refine wpAny_bind (wpAny_newList ?_ (by rw [vl, sizeLine_eq]; omega))
  have hoL : (s1.heap.push (seqObj "list" vs.toArray 0)).get? s1.heap.objs.size = some (seqObj "list" vs.toArray 0) := Heap.get?_push_size _ rfl
  refine wpAny_bind (wpAny_holding (wpAny_call_entry slot_list_sort ⟨_, hoL, rfl⟩ entry_list_sort (list_sort_treeK strKind_oneLt hoL hS.keysOf (fun v1 v2 rest e => keyKind_strs (by rw [← e]; exact hS)) (by omega)
    fun st' a1 a2 => ⟨_, rfl, ?_⟩) (args_list_sort _)))
  obtain ⟨zs, z1, z2, z3⟩ := sorted_out_str hS a1 a2
  obtain ⟨c, hc⟩ := sortedHeap_at (vs := vs) (out := (arrOf st').map (·.2)) hoL
  have pn : zs.Perm (es.toList.map keyT) := z2.trans pk
  refine wpAny_pure ⟨_, rfl, hQ _ s1.heap.objs.size _ c zs (fun b u e => ?_) g1 o1 hz1 hc z1 (pn.nodup_iff.mpr nd) z3 (fun k => pn.mem_iff.trans (hm k)) (by rw [pn.length_eq, List.length_map, Array.length_toList]; exact hz)⟩
  have q := k1 b u e
  have lt := Heap.lt_size q
  show (sortedHeap (s1.heap.push (seqObj "list" vs.toArray 0)) s1.heap.objs.size vs _).get? b = some u
  rw [sortedHeap_old (Nat.ne_of_lt lt) (by rw [size_push']; exact Nat.lt_succ_of_lt lt)]
  exact Heap.get?_push_of_some _ q
end
/-- the set of the texts xs at a -/
def SetTO (P : Program) (w : World) (a : Addr) (xs : List Str) : HO := .ext fun h => SetT P w h a xs
section
variable {X : Cx}
theorem setTO_new {w : World} {P : Program} {H : Hp} {h : Heap} {a : Addr} {xs : List Str} (R : SetT P w h a xs) : ObjOk P w H h a (SetTO P w a xs) := by
  have ⟨o, _, _, _, ho, _⟩ := R.ex
  exact ⟨R, ⟨o, ho⟩, fun h1 h2 p k => SetT.keep p k⟩
def rSetT (X : Cx) : List V → Hp → VK → Prop := fun vs H Q => ∃ (l : Addr) (xs : List Str), vs = [.ref l] ∧ SqL X.K H l (xs.map V.str) ∧ xs.length < 4000 ∧ ∀ p, H p = none → Q (.ref p) (upd H p (SetTO X.prog X.w p xs))
theorem cr_setT (hc : X.calm = true) : CallR X (.type "set") (rSetT X) := by
  intro pins s σ H vs us Q I r h
  obtain ⟨l, xs, rfl, hq, hfew, q⟩ := h
  obtain ⟨u, rfl, ru⟩ := vals1 r
  cases ru
  obtain ⟨its, rv, pl, hz⟩ := I.list hq
  refine set_of_texts (I.ok.hd hc) pl.isList (by simpa using strsAre_of rv) hfew fun h' tk R hk => ?_
  exact ⟨.ref _, upd H s.heap.objs.size (SetTO X.prog X.w s.heap.objs.size xs), I.laid (t' := tk) (fun b o e => hk b o (Heap.lt_size e) e) (Nat.le_refl _) (setTO_new R), rfl, q _ (I.hok.fresh (Nat.le_refl _))⟩
def rSortedT (X : Cx) : List V → Hp → VK → Prop := fun vs H Q => ∃ (a : Addr) (xs : List Str), vs = [.ref a] ∧ H a = some (SetTO X.prog X.w a xs) ∧ xs.length < 64 ∧
  ∀ (zs : List Str) (p : Addr), zs.Nodup → sortedS zs = true → (∀ k, k ∈ zs ↔ k ∈ xs) → zs.length ≤ xs.length → H p = none → Q (.ref p) (upd H p (.lst (zs.map V.str)))
theorem vals_strs : ∀ {us : List Value} {xs : List Str}, StrsAre us xs → Vals (xs.map V.str) us
  | _, _, .nil => .nil
  | _, _, .cons x t h => .cons ⟨t, rfl⟩ (vals_strs h)
theorem cr_sortedSetT (hc : X.calm = true) : CallR X (.builtin "sorted") (rSortedT X) := by
  intro pins s σ H vs us Q I r h
  obtain ⟨a, xs, rfl, ha, h64, q⟩ := h
  have R : SetT X.prog X.w s.heap a xs := (I.hok a _ ha).1
  rw [Vals.ref1 r]
  refine sorted_setT R (I.ok.hd hc) h64 fun s' p out c zs k g o hp hg hi hn hs hm hl => ?_
  have hlen : (zs.map V.str).length ≤ sizeLine := by rw [List.length_map, sizeLine_eq]; omega
  have fresh : H p = none := I.hok.fresh hp
  have J : Inv X pins σ (upd H p (.lst (zs.map V.str))) { s with heap := s'.heap, gens := s'.gens, drawn := s'.drawn, toks := s'.toks } :=
    I.call (ch := []) (Un.laid k hp fresh) (I.hok.laid k hp ⟨hlen, out.toList, c, vals_strs hi, hg⟩) (by rw [g]; exact I.bare) (fun _ z => nomatch z)
  have e : s' = { s with heap := s'.heap, gens := s'.gens, drawn := s'.drawn, toks := s'.toks } := by
    obtain ⟨_, _, _, _, _⟩ := s'
    simp only at o
    rw [o]
  rw [e]
  exact ⟨.ref p, _, J, rfl, q zs p hn hs hm hl fresh⟩
end
end Sea
/-! three comparisons in one chain, as a test -/
namespace Sea
open PySem PySem.Spec PyProof.Rows L2
def tChain3 (r1 r2 r3 : R2) (ta tb tc td : TE) : TT := fun σ H Q => ta σ H fun x H1 => tb σ H1 fun y H2 => r1 x y H2 fun z H3 => ∃ k, z = .bl k ∧
  (if k = true then tc σ H3 fun v H4 => r2 y v H4 fun z2 H5 => ∃ k2, z2 = .bl k2 ∧ (if k2 = true then td σ H5 fun u H6 => r3 v u H6 fun z3 H7 => ∃ k3, z3 = .bl k3 ∧ Q k3 H7 else Q false H5) else Q false H3)
theorem pt_chain3 {X : Cx} {a b c d : Expr} {ta tb tc td : TE} {pos : Pos} {o1 o2 o3 : CmpOp} {r1 r2 r3 : R2} (h1 : OpR X (compareOp o1) r1) (h2 : OpR X (compareOp o2) r2) (h3 : OpR X (compareOp o3) r3)
    (ha : PE X a ta) (hb : PE X b tb) (hc : PE X c tc) (hd : PE X d td) (hm : lastMarks [o1, o2, o3] [b, c, d] = false := by with_unfolding_all rfl) :
    PT X (.Compare a [o1, o2, o3] [b, c, d] pos) (tChain3 r1 r2 r3 ta tb tc td) := by
  refine ⟨fun pins s σ H Q I h => ?_⟩
  refine isTrue_chain (thn (ha.run pins s σ H _ I h) fun v s1 ⟨x, H1, I1, rx, q1⟩ => test_link (thn (hb.run pins s1 σ H1 _ I1 q1) fun u s2 ⟨y, H2, I2, ry, q2⟩ =>
    thn (h1 pins s2 σ H2 x y v u _ I2 rx ry q2) fun e1 s3 ⟨z, H3, I3, rz, k, ez, q3⟩ => ?_)) hm
  subst ez
  cases rz
  refine wpAny_truthy_bool ?_
  cases k with
  | false => exact ite_ff ⟨H3, I3, q3⟩
  | true =>
    refine ite_tt (test_link (thn (hc.run pins s3 σ H3 _ I3 q3) fun w1 s4 ⟨v2, H4, I4, rv, q4⟩ => thn (h2 pins s4 σ H4 y v2 u w1 _ I4 ry rv q4) fun e2 s5 ⟨z2, H5, I5, rz2, k2, ez2, q5⟩ => ?_))
    subst ez2
    cases rz2
    refine wpAny_truthy_bool ?_
    cases k2 with
    | false => exact ite_ff ⟨H5, I5, q5⟩
    | true =>
      refine ite_tt (test_last (thn (hd.run pins s5 σ H5 _ I5 q5) fun w2 s6 ⟨u2, H6, I6, ru, q6⟩ => thn (h3 pins s6 σ H6 v2 u2 w1 w2 _ I6 rv ru q6) fun e3 s7 ⟨z3, H7, I7, rz3, k3, ez3, q7⟩ => ?_))
      subst ez3
      cases rz3
      exact wpAny_truthy_bool ⟨H7, I7, q7⟩
end Sea
/-! enumerate over a tuple -/
namespace Sea
open PySem PySem.Spec PyProof.Rows L2
/-- the iterator that a tuple at l gives -/
abbrev tupIt (l : Addr) : Obj := { cls := .type "tuple_iterator", data := .fields #[.ref l, .int 0 0] }
abbrev enumOf (it : Addr) : Obj := { cls := .type "enumerate", data := .fields #[.none, .bool false, .ref it, rawInt 0, .none, .none] }
theorem made_enum (l : Addr) (items : Array Value) (n : Nat) (dct : Option Addr) (sl : Array (Option Value)) :
    Meets (Builtin.«enumerate.__new__» ⟨[.type "enumerate", .ref l], []⟩) (fun _ R s => s.heap.get? l = some { cls := .type "tuple", dict := dct, data := .seq items n, slots := sl } ∧
      R (.ok (.ret (.ref (s.heap.push (tupIt l)).objs.size))) { s with heap := (s.heap.push (tupIt l)).push (enumOf s.heap.objs.size) }) :=
  .of_wp fun prog w A R s h => by
    obtain ⟨hp, g, d, tk, os⟩ := s
    obtain ⟨hl, h⟩ := h
    have hsub := sub_enumerate
    have hT : Heap.IsTuple (Shared.heap ⟨hp, g, d, tk, os⟩) l items := ⟨_, hl, rfl, n, rfl⟩
    wp_walk using AutoSeq1.wpAny_loadPart' hl
    refine wpAny_stack_any fun st => wpAny_pure ?_
    split
    · rename_i c _ _ _ _ _
      cases (c == Value.type "enumerate") <;>
        (wp_walk using AutoSeq1.wpAny_loadPart' hl, wpAny_pyIter_tuple hT
         exact ⟨_, rfl, h⟩)
    · wp_walk using AutoSeq1.wpAny_loadPart' hl, wpAny_pyIter_tuple hT
      exact ⟨_, rfl, h⟩
section
variable {prog : Program} {w : World} {A : Around} {E : Value → Shared → Prop} {s : Shared}
theorem call_enumT {l : Addr} {items : Array Value} {Q : Value → Shared → Prop} (hL : s.heap.IsTuple l items)
    (h : ∀ h', IsEnum h' (s.heap.objs.size + 1) s.heap.objs.size 0 .none → h'.IsTupleIter s.heap.objs.size l 0 → h'.objs.size = s.heap.objs.size + 2 →
      (∀ b o, s.heap.get? b = some o → h'.get? b = some o) → Q (.ref (s.heap.objs.size + 1)) { s with heap := h' }) :
    wpAny (model prog w) A (call (.type "enumerate") [.ref l]) Q E s := by
  obtain ⟨⟨c, dct, dt, sl⟩, hl, hc, n, hd⟩ := hL
  replace hc : c = .type "tuple" := hc
  replace hd : dt = .seq items n := hd
  subst hc hd
  refine callType_new F.called_enumerate (by decide) (F.typeCall_enumerate_1 _) (F.newCall_enumerate_1 _) (fun obj => F.args_object_init_2 obj _) F.entry_enumerate_new (made_enum l items n dct sl) ⟨hl, ?_⟩
  have hz : (s.heap.push (tupIt l)).objs.size = s.heap.objs.size + 1 := Heap.size_push ..
  show _ ∧ _
  rw [hz]
  have he : IsEnum ((s.heap.push (tupIt l)).push (enumOf s.heap.objs.size)) (s.heap.objs.size + 1) s.heap.objs.size 0 .none := by
    have q := Heap.get?_push_size (s.heap.push (tupIt l)) (o := enumOf s.heap.objs.size) rfl
    rw [hz] at q
    exact q
  exact ⟨⟨_, he, rfl⟩, h _ he ⟨_, Heap.get?_push_of_some _ (Heap.get?_push_size _ rfl), rfl, rfl⟩ (by rw [Heap.size_push, hz]) fun b o x => Heap.get?_push_of_some _ (Heap.get?_push_of_some _ x)⟩
end
theorem drawsT {prog : Program} {w : World} {A : Around} (hh : A.handled = none) (it l : Addr) (hne : l ≠ it) (items : Array Value) :
    Draws prog w A it [it, l] items.size (fun i v => items[i]? = some v) (fun i h => h.IsTupleIter it l i ∧ h.IsTuple l items) where
  live := fun _ _ st => let ⟨o, ho, _⟩ := st.1; ⟨o, ho⟩
  frame := fun _ _ _ st hk => ⟨let ⟨o, ho, r⟩ := st.1; ⟨o, hk it List.mem_cons_self o ho, r⟩, let ⟨o, ho, r⟩ := st.2; ⟨o, hk l (List.mem_cons_of_mem _ List.mem_cons_self) o ho, r⟩⟩
  item := fun i s Q E hi st hQ => by
    refine RZ.nextOf_tuple_item st.1 st.2 (x := items[i]) (by simp [hi]) fun h' hit' hs' => ?_
    exact hQ _ h' s.toks (by simp [hi]) ⟨hit', let ⟨o, ho, r⟩ := st.2; ⟨o, (hs'.2 l hne).trans ho, r⟩⟩ hs'
  done := fun s Q E st hE => RZ.nextOf_tuple_end hh st.1 st.2 (by simp) hE
/-- the items of the tuple at a, each with its number, in a new pair -/
def IenT (K : PySem.W.Frag) (a : Addr) : It where
  go := fun i H => ∃ (xs : List V) (x : V), SqT K H a xs ∧ xs[i]? = some x
  yld := fun i H v H' => ∃ T x, v = .ref T ∧ H T = none ∧ H' = upd H T (.tup [.int (i : Nat), x]) ∧ ∀ xs, SqT K H a xs → xs[i]? = some x
  stop := fun i H => ∃ xs : List V, SqT K H a xs ∧ xs.length ≤ i
theorem turn_enumT {P : Program} {w : World} {K : PySem.W.Frag} {elts : List Expr} {kk : Nat} {tpos : Pos} (a e it : Addr) :
    Turn P w K (.Tuple elts kk tpos) (IenT K a) [e, it] e (fun i h => (∃ old, IsEnum h e it ((i : Nat) : Int) old) ∧ h.IsTupleIter it a i ∧ e ≠ it) where
  mem := List.mem_cons_self
  obj := fun i h st b hb => by
    obtain ⟨⟨old, he⟩, ⟨o, ho, hc, hd⟩, _⟩ := st
    rcases List.mem_cons.mp hb with z | z
    · subst z
      exact ⟨_, he, fun v q => nomatch q⟩
    · rw [List.mem_singleton.mp z]
      exact ⟨o, ho, fun v q => by rw [hd] at q; cases q⟩
  keep := fun i h h' st k => by
    obtain ⟨⟨old, he⟩, ⟨o, ho, r⟩, ne⟩ := st
    exact ⟨⟨old, k e List.mem_cons_self _ he⟩, ⟨o, k it (List.mem_cons_of_mem _ List.mem_cons_self) o ho, r⟩, ne⟩
  item := by
    intro X hP hw hK hc i pins s σ H E I hf st hg
    subst hP hw hK
    obtain ⟨⟨old, he⟩, hit, hne⟩ := st
    obtain ⟨xs, x, hq, hx⟩ := hg
    obtain ⟨its, rv, p, hz⟩ := I.tuple hq
    obtain ⟨u, hu, ru⟩ := rv.get hx
    have hel : e < s.heap.objs.size := Heap.lt_size he
    have hil : it < s.heap.objs.size := by
      obtain ⟨_, q, _⟩ := hit
      exact Heap.lt_size q
    have nea : a ≠ it := fun z => by
      obtain ⟨o1, h1, h2, _⟩ := hit
      obtain ⟨o2, h3, h4, _⟩ := p
      rw [z, h1] at h3
      cases h3
      rw [h2] at h4
      exact absurd (Value.type.inj h4) (by decide)
    have nee : e ≠ a := fun z => by
      obtain ⟨o2, h3, h4, _⟩ := p
      rw [← z, (show s.heap.get? e = some _ from he)] at h3
      cases h3
      exact absurd (Value.type.inj h4) (by decide)
    have il : i < its.toArray.size := by
      have := (List.getElem?_eq_some_iff.mp hu).1
      rw [List.size_toArray]
      exact this
    refine wpAny_pyNext_enum_itemD (drawsT (A := X.A.in1) (I.ok.hd hc) it a nea its.toArray) he ⟨hit, p⟩ il hne (fun q => ?_) fun y h' tk hP ho hit' hT hsz hk => ?_
    · rcases List.mem_cons.mp q with z | z
      · exact hne z
      · exact nee (List.mem_singleton.mp z)
    have ey : y = u := by
      have : its.toArray[i]? = some u := by rw [← Array.getElem?_toList]; exact hu
      exact Option.some.inj (hP.symm.trans this)
    subst ey
    refine ⟨_, rfl, wpAny_letOwnedTupleGo_enum (s := ⟨h', s.gens, s.drawn, tk + 1, s.os⟩) ho fun h2 he2 sb => ?_⟩
    have hT2 : h2.get? s.heap.objs.size = some { cls := .type "tuple", data := .seq #[.int i tk, y] } := (sb.2 _ (Nat.ne_of_gt hel)).trans hT
    have nw : ObjOk X.prog X.w (upd H s.heap.objs.size (.tup [.int (i : Nat), x])) h2 s.heap.objs.size (.tup [.int (i : Nat), x]) :=
      ⟨by show 2 ≤ sizeLine; decide, [.int i tk, y], .cons ⟨_, rfl⟩ (.cons ru .nil), ⟨_, hT2, rfl, _, rfl⟩⟩
    have kk2 : ∀ b ob, b ∉ [e, it] → s.heap.get? b = some ob → h2.get? b = some ob := fun b ob hb q => by
      have b1 : b ≠ e := fun z => hb (z ▸ List.mem_cons_self)
      have b2 : b ≠ it := fun z => hb (z ▸ List.mem_cons_of_mem _ List.mem_cons_self)
      exact (sb.2 b b1).trans (hk b ob b1 b2 q)
    have J : Inv X pins σ (upd H s.heap.objs.size (.tup [.int (i : Nat), x])) ⟨h2, s.gens, s.drawn, tk + 1, s.os⟩ := I.turnedNew (t' := tk + 1) kk2 hf (Nat.le_refl _) nw
    refine ⟨.ref s.heap.objs.size, _, J, rfl, ⟨_, x, rfl, I.hok.fresh (Nat.le_refl _), rfl, fun ys hy => by rw [I.tuple_inj hy hq]; exact hx⟩, ⟨⟨y, ?_⟩, ?_, hne⟩, fun b hb => ?_⟩
    · have e1 : ((i + 1 : Nat) : Int) = (i : Int) + 1 := Int.natCast_succ i
      rw [e1]
      exact he2
    · obtain ⟨⟨o, ho2, r⟩, _⟩ := hit'
      exact ⟨o, (sb.2 it hne.symm).trans ho2, r⟩
    · have hlt : b < s.heap.objs.size := by
        rcases List.mem_cons.mp hb with z | z
        · exact z ▸ hel
        · exact (List.mem_singleton.mp z) ▸ hil
      rw [upd_ne (Nat.ne_of_lt hlt)]
      exact (hf b hb).1
  done := by
    intro X hP hw hK hc i pins s σ H E I hf st hg
    subst hP hw hK
    obtain ⟨⟨old, he⟩, hit, hne⟩ := st
    obtain ⟨xs, hq, hx⟩ := hg
    obtain ⟨its, rv, p, hz⟩ := I.tuple hq
    obtain ⟨f0, f1, f2, f3, f4, f5⟩ := hf it (List.mem_cons_of_mem _ List.mem_cons_self)
    have hl := rv.length
    have nea : a ≠ it := fun z => by
      obtain ⟨o1, h1, h2, _⟩ := hit
      obtain ⟨o2, h3, h4, _⟩ := p
      rw [z, h1] at h3
      cases h3
      rw [h2] at h4
      exact absurd (Value.type.inj h4) (by decide)
    have hend : its.toArray[i]? = none := Array.getElem?_eq_none (by rw [List.size_toArray]; omega)
    have hT : s.TypeIs (.ref e) "enumerate" := ⟨_, he, rfl⟩
    unfold pyNext
    refine wpAny_bind (wpAny_attempt (wpAny_callSpecial?_slot (name := Str.ofString "__next__") hT F.slot_enumerate_next
      (wpAny_call_entry F.slot_enumerate_next hT F.entry_enumerate_next ?_ (F.args_enumerate_next_1 _))))
    show wpAny _ _ (field (.ref e) 2 >>= _) _ _ s
    refine wpAny_bind (wpAny_field he rfl (x := .ref it) rfl ?_)
    refine wpAny_bind (RZ.nextOf_tuple_end (I.ok.hd hc) hit p hend fun h' z eb hs => ?_)
    obtain ⟨o, ho, hcl⟩ := id hs
    refine wpAny_bind (wpAny_isInstance (T := "StopIteration") (b := true) ⟨o, ho, hcl⟩ isSubtype_stop ?_)
    exact wpAny_pure ⟨rfl, I.turned (t' := s.toks) (fun b o hb q => eb b o hb q) f0 f1 f3 f4 f5⟩
  self := fun A i s Q E st h => by
    obtain ⟨⟨_, he⟩, _⟩ := st
    exact wpAny_pyIter_enum he h
def iEnT (K : PySem.W.Frag) (ta : TA) : TI := fun σ H R => ta σ H fun vs H1 => ∃ a xs, vs = [.ref a] ∧ SqT K H1 a xs ∧ R (IenT K a) H1
theorem pi_enT {X : Cx} {e : Expr} {ta : TA} {p pos tpos : Pos} {elts : List Expr} {kk : Nat} (hg : Gl X "enumerate") (hm : X.mg "enumerate" = none) (ha : PA X [e] ta) (hs : starEach [e] X.env = [(false, eval e X.env)] := by rfl) :
    PI X (.Tuple elts kk tpos) (.Call (.Name "enumerate" p) [e] [] pos) (iEnT X.K ta) := by
  refine ⟨fun pins s σ H R I h => ?_⟩
  refine Call_ (ld_blt I hg hm boot_enumerate (PyProof.Rows.callWith_type1 (thn (ha.run pos pins s σ H _ I h) fun us s1 ⟨vs, H1, I1, r1, q1⟩ => ?_) hs rfl))
  obtain ⟨a, xs, ex, hq, q⟩ := q1
  subst ex
  cases r1 with
  | cons r rr =>
    cases rr
    cases r
    obtain ⟨its, rv, p2, hz⟩ := I1.tuple hq
    refine call_enumT p2 fun h' he hit hsz hk => wpAny_pyIter_enum he ?_
    have I2 : Inv X pins σ H1 { s1 with heap := h' } := I1.kept (t' := s1.toks) hk
    refine ⟨s1.heap.objs.size + 1, [s1.heap.objs.size + 1, s1.heap.objs.size], _, _, H1, rfl, I2, turn_enumT a (s1.heap.objs.size + 1) s1.heap.objs.size, ⟨⟨.none, he⟩, hit, Nat.succ_ne_self _⟩, fun b hb => ?_, q⟩
    have hle : s1.heap.objs.size ≤ b := by
      rcases List.mem_cons.mp hb with z | z
      · exact z ▸ Nat.le_succ _
      · exact (List.mem_singleton.mp z) ▸ Nat.le_refl _
    exact I1.fpOk hle (I1.hok.fresh hle)
/-- its turns, for for_it and lc_it -/
theorem walk_enT {K : PySem.W.Frag} {a : Addr} {xs : List V} : Walk (IenT K a) xs.length (fun H => SqT K H a xs)
    (fun i H v H' => ∃ T x, v = .ref T ∧ H T = none ∧ xs[i]? = some x ∧ H' = upd H T (.tup [.int (i : Nat), x])) :=
  ⟨fun i H hi hs => ⟨xs, xs[i], hs, List.getElem?_eq_getElem hi⟩, fun H hs => ⟨xs, hs, Nat.le_refl _⟩, fun i H v H' _ hs ⟨T, x, h1, h2, h3, h4⟩ => ⟨T, x, h1, h2, h4 xs hs, h3⟩⟩
end Sea
/-! repr of data: defs that run where no guard stands around them. -/
namespace Sea
open PySem PySem.Spec PyProof.Rows L2
/-- a def's promise to callers around whom no guard stands -/
structure FnG (P : Program) (w : World) (K : PySem.W.Frag) (mg : Str → Option Value) (base : Heap) (CX : CXT) (k : Nat) (f : Addr) (fd : FuncData) (ps : List Str) (sp : Sp) : Prop where
  many : ∀ vs H Q E, sp vs H Q E → vs.length = ps.length
  runs : ∀ (A : Around) (outer : List Env) (s : Shared) (H : Hp) (args : Args) (us : List Value) (vs : List V) (Q : VK) (E : XK), A.guards = some [] → Room k A → Env0 P w K mg base A outer s H → BindsTo s fd args (ps.zip us) →
    Vals vs us → sp vs H Q E → codeAny (model P w) A (.call (.ref f) args) (CR CX outer P w H s Q E) s
theorem FnG.more {P : Program} {w : World} {K : PySem.W.Frag} {mg : Str → Option Value} {base : Heap} {CX : CXT} {j k : Nat} {f : Addr} {fd : FuncData} {ps : List Str} {sp : Sp} (F : FnG P w K mg base CX j f fd ps sp) (h : j ≤ k) : FnG P w K mg base CX k f fd ps sp :=
  ⟨F.many, fun A outer s H args us vs Q E ga room => F.runs A outer s H args us vs Q E ga (room.mono h)⟩
section
variable {P : Program} {w : World} {K : PySem.W.Frag} {mg : Str → Option Value} {base : Heap}
theorem FunG.ok {x qual : Str} {st : Stmt} {f : Addr} {fd : FuncData} {N ps : List Str} {k : Nat} {sp : Sp} (F : Fun K x qual st f fd) (S : FnScope N ps (defScope st)) (many : ∀ vs H Q E, sp vs H Q E → vs.length = ps.length)
    (body : ∀ (cdv : Value) (A : Around) (outer : List Env) (s : Shared) (H : Hp) (vs : List V) (Q : VK) (E : XK), A.guards = some [] → Room k (A.deeper (envOfC qual (defScope st) s.heap.objs.size f cdv)) → sp vs H Q E →
      ∃ t, PSs (cxOf CX0 P w K mg base N qual (defScope st) f cdv A outer s H E).nox (defBody st) t ∧ t { nx := fun _ H' => Q .non H', rt := Q } (start N vs) H) : FnG P w K mg base CX0 (k + 1) f fd ps sp := by
  obtain ⟨oc, od, kV, doc, pm, an, cdv, ct, osl, rfl, lk, hcd⟩ := F.ex
  constructor
  · exact many
  intro A outer s H args us vs Q E ga room env bt rv h
  have inK : K.In s.heap := env.mod.kin.keeps fun b o e => (env.bs b o e).1
  refine codeAny_call_function room.depth (inK _ _ lk) rfl S.co S.gen rfl (PySem.W.codeRec_of inK hcd) (bt _ _ _ _ ?_)
  refine wpAny_newFunctionEnv_cells S.kind (fun y hy => ?_) fun own eo s1 x => ?_
  · obtain ⟨n, v⟩ := y
    have hn := (List.of_mem_zip hy).1
    rcases S.par n hn with q | q
    · exact Or.inl q
    · exact Or.inr ⟨q, PySem.W.cellsFrom_some _ _ _ (Or.inl q)⟩
  · subst eo
    have free : s.heap.NoLimit := env.mod.nolimit.keeps fun b o e => (env.bs b o e).1
    refine ⟨free.keeps x.toInCall.keep, codeAny_func ?_⟩
    obtain ⟨t, ht0, hq⟩ := body cdv A outer s H vs Q E ga (room.deeper _) h
    have ht := ht0.nox
    have J : Inv (cxOf CX0 P w K mg base N qual (defScope st) f cdv A outer s H E) [] (start N vs) H s1 := inv_start S room.hd env (many _ _ _ _ h) rv x
    refine wpAny_mono (ht.run [] s1 (start N vs) H _ J hq) (fun fl s' hs => ?_) fun e s' hs => hs
    cases fl with
    | next =>
      obtain ⟨σ', H', J', q⟩ := hs
      exact ⟨V.non, H', J'.os, J'.bare, J'.base, J'.hok, rfl, q⟩
    | ret u =>
      obtain ⟨v, σ', H', J', rv', q⟩ := hs
      exact ⟨v, H', J'.os, J'.bare, J'.base, J'.hok, rv', q⟩
    | brk =>
      obtain ⟨_, _, _, q⟩ := hs
      exact q.elim
    | cont =>
      obtain ⟨_, _, _, q⟩ := hs
      exact q.elim
end
end Sea
/-! len(o), o[i], iter(t) and loops over o, by own defs -/
namespace Sea
open PySem PySem.Spec PyProof.Rows L2
/-- a def whose promise knows how great the heap is when it is called -/
structure FnS (P : Program) (w : World) (K : PySem.W.Frag) (mg : Str → Option Value) (base : Heap) (k : Nat) (f : Addr) (fd : FuncData) (ps : List Str) (sp : Nat → Sp) : Prop where
  many : ∀ n vs H Q E, sp n vs H Q E → vs.length = ps.length
  runs : ∀ (A : Around) (outer : List Env) (s : Shared) (H : Hp) (args : Args) (us : List Value) (vs : List V) (Q : VK) (E : XK), Room k A → Env0 P w K mg base A outer s H → BindsTo s fd args (ps.zip us) →
    Vals vs us → sp s.heap.objs.size vs H Q E → codeAny (model P w) A (.call (.ref f) args) (CR CX0 outer P w H s Q E) s
theorem FunS.ok {P : Program} {w : World} {K : PySem.W.Frag} {mg : Str → Option Value} {base : Heap} {x qual : Str} {st : Stmt} {f : Addr} {fd : FuncData} {N ps : List Str} {k : Nat} {sp : Nat → Sp} (F : Fun K x qual st f fd) (S : FnScope N ps (defScope st))
    (many : ∀ n vs H Q E, sp n vs H Q E → vs.length = ps.length)
    (body : ∀ (cdv : Value) (A : Around) (outer : List Env) (s : Shared) (H : Hp) (vs : List V) (Q : VK) (E : XK), Room k (A.deeper (envOfC qual (defScope st) s.heap.objs.size f cdv)) → sp s.heap.objs.size vs H Q E →
      ∃ t, PSs (cxOf CX0 P w K mg base N qual (defScope st) f cdv A outer s H E).nox (defBody st) t ∧ t { nx := fun _ H' => Q .non H', rt := Q } (start N vs) H) : FnS P w K mg base (k + 1) f fd ps sp := by
  obtain ⟨oc, od, kV, doc, pm, an, cdv, ct, osl, rfl, lk, hcd⟩ := F.ex
  constructor
  · exact many
  intro A outer s H args us vs Q E room env bt rv h
  have inK : K.In s.heap := env.mod.kin.keeps fun b o e => (env.bs b o e).1
  refine codeAny_call_function room.depth (inK _ _ lk) rfl S.co S.gen rfl (PySem.W.codeRec_of inK hcd) (bt _ _ _ _ ?_)
  refine wpAny_newFunctionEnv_cells S.kind (fun y hy => ?_) fun own eo s1 x => ?_
  · obtain ⟨n, v⟩ := y
    have hn := (List.of_mem_zip hy).1
    rcases S.par n hn with q | q
    · exact Or.inl q
    · exact Or.inr ⟨q, PySem.W.cellsFrom_some _ _ _ (Or.inl q)⟩
  · subst eo
    have free : s.heap.NoLimit := env.mod.nolimit.keeps fun b o e => (env.bs b o e).1
    refine ⟨free.keeps x.toInCall.keep, codeAny_func ?_⟩
    obtain ⟨t, ht0, hq⟩ := body cdv A outer s H vs Q E (room.deeper _) h
    have ht := ht0.nox
    have J : Inv (cxOf CX0 P w K mg base N qual (defScope st) f cdv A outer s H E) [] (start N vs) H s1 := inv_start S room.hd env (many _ _ _ _ _ h) rv x
    refine wpAny_mono (ht.run [] s1 (start N vs) H _ J hq) (fun fl s' hs => ?_) fun e s' hs => hs
    cases fl with
    | next =>
      obtain ⟨σ', H', J', q⟩ := hs
      exact ⟨V.non, H', J'.os, J'.bare, J'.base, J'.hok, rfl, q⟩
    | ret u =>
      obtain ⟨v, σ', H', J', rv', q⟩ := hs
      exact ⟨v, H', J'.os, J'.bare, J'.base, J'.hok, rv', q⟩
    | brk =>
      obtain ⟨_, _, _, q⟩ := hs
      exact q.elim
    | cont =>
      obtain ⟨_, _, _, q⟩ := hs
      exact q.elim
end Sea
/-! o == t by an own __eq__, t a tuple; o == p of two of the class -/
namespace Sea
open PySem PySem.Spec PyProof.Rows L2
/-- a == b of two instances of the class at C, by its own def -/
def rOwnEq (C : Addr) (sp : Sp) : R2 := fun x y H Q => ∃ (a b dx dy : Addr) (fs gs : List (Str × V)), x = .ref a ∧ y = .ref b ∧ H a = some (.ins C dx fs) ∧ H b = some (.ins C dy gs) ∧ sp [.ref a, .ref b] H (fun v H' => (∃ k, v = .bl k) ∧ Q v H') E0
section
variable {X : Cx} {n k : Nat} {C f : Addr} {fd : FuncData} {ps : List Str} {sp : Sp}
theorem op_ownEq (F : FnOk X.prog X.w X.K X.mg X.base CX0 n f fd ps sp) (hr : Room k X.A) (hk : n ≤ k) (hs : PySem.W.findIn X.K (.ref C) "__eq__" = some (some (.ref f))) (hf : PySem.W.isFn X.K (.ref f) = true) (hb : Binds X.K fd ps []) :
    OpR X (compareOp .Eq) (rOwnEq C sp) := by
  intro pins s σ H x y u v Q I rx ry h
  obtain ⟨a, b, dx, dy, fs, gs, rfl, rfl, ha, hb', hsp⟩ := h
  cases rx
  cases ry
  obtain ⟨mA, J, _⟩ := ins_get I.hok ha
  obtain ⟨mB, J', _⟩ := ins_get I.hok hb'
  obtain ⟨od, J, _⟩ := J.look
  obtain ⟨od', J', _⟩ := J'.look
  obtain ⟨m, hF⟩ := I.fr
  show wpAny (model X.prog X.w) X.A (richCompare .Eq (.ref a) (.ref b)) (EP X pins σ Q) X.xe s
  refine PySem.W.cmp_K (op := .Eq) (tb := .ref C) hr.units0 hF I.ok.mod.kin J J'.type (by simp [PySem.W.notFirst]) hs hf ?_
  have r2 : Vals [V.ref a, V.ref b] [Value.ref a, Value.ref b] := .cons rfl (.cons rfl .nil)
  have hl := F.len _ _ _ _ hsp
  have bt := hb s [.ref a, .ref b] I.kIn (by rw [List.append_nil]; exact hl)
  rw [List.append_nil] at bt
  refine wpAny_call (codeAny_mono (F.run X.A X.stack s H ⟨[.ref a, .ref b], []⟩ [.ref a, .ref b] [.ref a, .ref b] _ E0 (hr.mono hk) I.env0 bt r2 hsp) fun r s' hq => ?_)
  cases r with
  | error e => exact hq.elim
  | ok fl =>
    cases fl with
    | ret w =>
      obtain ⟨z, H', I', rz, ⟨kk, ez⟩, q⟩ := I.after hq
      subst ez
      cases rz
      exact ⟨.bl kk, H', I', rfl, q⟩
    | next => exact False.elim hq
    | brk => exact False.elim hq
    | cont => exact False.elim hq
end
/-! the end: a law that runs where no guard stands -/
end Sea
/-! a walk over a list or a tuple, whichever it is -/
namespace Sea
open PySem PySem.Spec PyProof.Rows L2
def iLT (K : PySem.W.Frag) (tl : TE) : TI := fun σ H R => tl σ H fun x H1 => ∃ a, x = .ref a ∧ (((∃ xs, SqL K H1 a xs) ∧ R (Itl K a) H1) ∨ ((∃ xs, SqT K H1 a xs) ∧ R (Itt K a) H1))
section
variable {X : Cx}
theorem pi_lt {tg l : Expr} {tl : TE} (hl : PE X l tl) : PI X tg l (iLT X.K tl) := by
  refine ⟨fun pins s σ H R I h => ?_⟩
  refine thn (hl.run pins s σ H _ I h) fun v s1 ⟨x, H1, I1, r1, q1⟩ => ?_
  obtain ⟨a, e, q1⟩ := q1
  subst e
  cases r1
  rcases q1 with ⟨⟨xs, hq⟩, q⟩ | ⟨⟨xs, hq⟩, q⟩
  · obtain ⟨its, rv, p, hz⟩ := I1.list hq
    refine wpAny_pyIter_list p.isList ?_
    refine ⟨s1.heap.objs.size, [s1.heap.objs.size], _, _, H1, rfl, I1.kept (t' := s1.toks) fun b o e => Heap.get?_push_of_some _ e, turn_list a _, ⟨_, Heap.get?_push_size _ rfl, rfl, rfl⟩, fun b hb => ?_, q⟩
    have e : b = s1.heap.objs.size := by simpa using hb
    subst e
    exact I1.fpOk (Nat.le_refl _) (I1.hok.fresh (Nat.le_refl _))
  · obtain ⟨its, rv, p, hz⟩ := I1.tuple hq
    refine wpAny_pyIter_tuple (show s1.heap.IsTuple a its.toArray from p) ?_
    refine ⟨s1.heap.objs.size, [s1.heap.objs.size], _, _, H1, rfl, I1.kept (t' := s1.toks) fun b o e => Heap.get?_push_of_some _ e, turn_tuple a _, ⟨_, Heap.get?_push_size _ rfl, rfl, rfl⟩, fun b hb => ?_, q⟩
    have e : b = s1.heap.objs.size := by simpa using hb
    subst e
    exact I1.fpOk (Nat.le_refl _) (I1.hok.fresh (Nat.le_refl _))
end
end Sea
/-! C(e, ..) where what is raised is wished for at the caller's slots -/
/-! x in o by an own __contains__; lcm -/
namespace Sea
open PySem PySem.Spec PyProof.Rows L2
section
variable {X : Cx} {n k : Nat} {C f : Addr} {fd : FuncData} {ps : List Str} {sp : Sp}
def rOwnIn (neg : Bool) (C : Addr) (sp : Sp) : R2 := fun x y H Q => ∃ (a dx : Addr) (fs : List (Str × V)), y = .ref a ∧ H a = some (.ins C dx fs) ∧ sp [.ref a, x] H (fun v H' => ∃ k, v = .bl k ∧ Q (.bl (if neg then !k else k)) H') E0
theorem op_ownNotIn (F : FnOk X.prog X.w X.K X.mg X.base CX0 n f fd ps sp) (hr : Room k X.A) (hk : n ≤ k) (hs : PySem.W.findIn X.K (.ref C) "__contains__" = some (some (.ref f))) (hf : PySem.W.isFn X.K (.ref f) = true) (hb : Binds X.K fd ps []) :
    OpR X (compareOp .NotIn) (rOwnIn true C sp) := by
  intro pins s σ H x y u v Q I rx ry h
  obtain ⟨a, dx, fs, rfl, ha, hsp⟩ := h
  cases ry
  obtain ⟨mA, J, _⟩ := ins_get I.hok ha
  obtain ⟨od, J, _⟩ := J.look
  obtain ⟨m, hF⟩ := I.fr
  refine PySem.W.notIn_K hF I.ok.mod.kin J hs hf ?_
  have r2 : Vals [V.ref a, x] [Value.ref a, u] := .cons rfl (.cons rx .nil)
  have hl := F.len _ _ _ _ hsp
  have bt := hb s [.ref a, u] I.kIn (by rw [List.append_nil]; exact hl)
  rw [List.append_nil] at bt
  refine wpAny_call (codeAny_mono (F.run X.A X.stack s H ⟨[.ref a, u], []⟩ [.ref a, u] [.ref a, x] _ E0 (hr.mono hk) I.env0 bt r2 hsp) fun r s' hq => ?_)
  cases r with
  | error e => exact hq.elim
  | ok fl =>
    cases fl with
    | ret w =>
      obtain ⟨z, H', I', rz, kk, ez, q⟩ := I.after hq
      subst ez
      cases rz
      exact wpAny_truthy_bool ⟨.bl (!kk), H', I', rfl, q⟩
    | next => exact False.elim hq
    | brk => exact False.elim hq
    | cont => exact False.elim hq
def rLcm : List V → Hp → VK → Prop := fun vs H Q => ∃ a b : Int, vs = [.int a, .int b] ∧ a.natAbs < 2 ^ 64 ∧ b.natAbs < 2 ^ 64 ∧ Q (.int ((Nat.lcm a.natAbs b.natAbs : Nat) : Int)) H
theorem cr_lcm : CallR X (.builtin "math.lcm") rLcm := by
  intro pins s σ H vs us Q I r h
  obtain ⟨a, b, rfl, ha, hb, q⟩ := h
  obtain ⟨t, u, rfl⟩ := Vals.int2 r
  exact PySem.W.mc_lcm ha hb fun _ => ⟨.int _, H, I.tok _, ⟨_, rfl⟩, q⟩
end
end Sea
namespace Sea
open PySem PySem.Spec PyProof.Rows L2
/-! things of any kind, and what the small defs tell of them -/
/-- signs of a text, the percent sign aside -/
def AscP (z : Str) : Prop := ∀ c ∈ cp z, 32 ≤ c ∧ c ≤ 126 ∧ c ≠ 37
/-- a thing that is no tuple and no list -/
def Sc (x : V) (d : PyData) : Prop :=
  match d with
  | .none => x = .non
  | .bool b => x = .bl b
  | .int i => x = .int i ∧ i.natAbs < 10 ^ 40
  | .str z => x = .str z ∧ z.length ≤ 100 ∧ AscP z
  | _ => False
/-- a thing: l, whether lists may stand in it; ms, how many items at most, from outside in -/
def Th (l : Bool) : List Nat → Hp → V → PyData → Prop
  | [], _, x, d => Sc x d
  | m :: r, H, x, d => Sc x d ∨ ∃ (a : Addr) (xs : List V) (ds : List PyData), x = .ref a ∧ ds.length ≤ m ∧ Paired (Th l r H) xs ds ∧
      ((d = .tuple ds ∧ H a = some (.tup xs)) ∨ (l = true ∧ d = .list ds ∧ H a = some (.lst xs)))
/-- tuples stay -/
def KT (H H' : Hp) : Prop := ∀ a xs, H a = some (.tup xs) → H' a = some (.tup xs)
theorem KT.refl (H : Hp) : KT H H := fun _ _ h => h
theorem KT.trans {H H1 H2 : Hp} (a : KT H H1) (b : KT H1 H2) : KT H H2 := fun _ _ h => b _ _ (a _ _ h)
theorem KT.of_same {H H' : Hp} (s : Same H H') : KT H H' := fun _ _ h => s _ _ h
theorem KB.kt {tp cl : Addr} {ns : List Int} {H H' : Hp} (k : KB tp H H') (T : Tape H tp cl ns) : KT H H' := fun a xs h => by
  refine k _ _ (fun z => ?_) h
  obtain ⟨i, r, y, c, q, _⟩ := T.ex
  rw [z, q] at h
  cases h
theorem KT.over {H H' : Hp} {D : Addr} {ys zs : List V} (k : KT H H') (h : H' D = some (.lst ys)) : KT H (upd H' D (.lst zs)) := fun a xs e => by
  have e1 := k _ _ e
  rw [upd_ne (fun z => by rw [z, h] at e1; cases e1)]
  exact e1
theorem KT.new {H H' : Hp} {D : Addr} {o : HO} (k : KT H H') (h : H' D = none) : KT H (upd H' D o) := fun a xs e => by
  have e1 := k _ _ e
  rw [upd_ne (fun z => by rw [z, h] at e1; cases e1)]
  exact e1
theorem paired_imp {α β : Type} {R S : α → β → Prop} (h : ∀ a b, R a b → S a b) : ∀ {l : List α} {r : List β}, Paired R l r → Paired S l r
  | _, _, .nil => .nil
  | _, _, .cons a b => .cons (h _ _ a) (paired_imp h b)
theorem Th.keep {l : Bool} : ∀ {ms : List Nat} {H H' : Hp} {x : V} {d : PyData}, Th l ms H x d → Same H H' → Th l ms H' x d
  | [], _, _, _, _, h, _ => h
  | m :: r, H, H', x, d, h, s => by
    rcases h with h | ⟨a, xs, ds, h1, h2, h3, h4⟩
    · exact .inl h
    · refine .inr ⟨a, xs, ds, h1, h2, paired_imp (fun _ _ q => q.keep s) h3, ?_⟩
      rcases h4 with ⟨e, h⟩ | ⟨e1, e, h⟩
      · exact .inl ⟨e, s _ _ h⟩
      · exact .inr ⟨e1, e, s _ _ h⟩
theorem Th.kt : ∀ {ms : List Nat} {H H' : Hp} {x : V} {d : PyData}, Th false ms H x d → KT H H' → Th false ms H' x d
  | [], _, _, _, _, h, _ => h
  | m :: r, H, H', x, d, h, s => by
    rcases h with h | ⟨a, xs, ds, h1, h2, h3, h4⟩
    · exact .inl h
    · refine .inr ⟨a, xs, ds, h1, h2, paired_imp (fun _ _ q => q.kt s) h3, ?_⟩
      rcases h4 with ⟨e, h⟩ | ⟨e1, _⟩
      · exact .inl ⟨e, s _ _ h⟩
      · cases e1
theorem Th.up : ∀ {ms : List Nat} {H : Hp} {x : V} {d : PyData}, Th false ms H x d → Th true ms H x d
  | [], _, _, _, h => h
  | m :: r, H, x, d, h => by
    rcases h with h | ⟨a, xs, ds, h1, h2, h3, h4⟩
    · exact .inl h
    · refine .inr ⟨a, xs, ds, h1, h2, paired_imp (fun _ _ q => q.up) h3, ?_⟩
      rcases h4 with ⟨e, h⟩ | ⟨e1, _⟩
      · exact .inl ⟨e, h⟩
      · cases e1
theorem Th.more {l : Bool} {m n : Nat} {r : List Nat} {H : Hp} {x : V} {d : PyData} (h : Th l (m :: r) H x d) (hm : m ≤ n) : Th l (n :: r) H x d := by
  rcases h with h | ⟨a, xs, ds, h1, h2, h3⟩
  · exact .inl h
  · exact .inr ⟨a, xs, ds, h1, Nat.le_trans h2 hm, h3⟩
theorem Sc.th {l : Bool} {ms : List Nat} {H : Hp} {x : V} {d : PyData} (h : Sc x d) : Th l ms H x d := by
  cases ms with
  | nil => exact h
  | cons m r => exact .inl h
theorem Sc.plain {x : V} {d : PyData} (h : Sc x d) : Plain x := by
  cases d with
  | none => rw [show x = .non from h]; trivial
  | bool b => rw [show x = .bl b from h]; trivial
  | int i => rw [h.1]; trivial
  | str z => rw [h.1]; trivial
  | tuple ds => exact h.elim
  | list ds => exact h.elim
  | dict ds => exact h.elim
theorem Th.any {l : Bool} {ms : List Nat} {H : Hp} {x : V} {d : PyData} (h : Th l ms H x d) : AnyV H x := by
  cases ms with
  | nil => exact .inl (Sc.plain h)
  | cons m r =>
    rcases h with h | ⟨a, xs, ds, h1, h2, h3, h4⟩
    · exact .inl h.plain
    · rcases h4 with ⟨_, h⟩ | ⟨_, _, h⟩
      · exact .inr ⟨a, xs, h1, .inr h⟩
      · exact .inr ⟨a, xs, h1, .inl h⟩
theorem Th.sc {l : Bool} {ms : List Nat} {H : Hp} {x : V} {d : PyData} (h : Th l ms H x d) (hx : Plain x) : Sc x d := by
  cases ms with
  | nil => exact h
  | cons m r =>
    rcases h with h | ⟨a, xs, ds, h1, h2, h3, h4⟩
    · exact h
    · rw [h1] at hx
      exact hx.elim
theorem paired_dp {K : PySem.W.Frag} {H : Hp} {R : V → PyData → Prop} (h : ∀ a b, R a b → Dp K H a b) : ∀ {l : List V} {r : List PyData}, Paired R l r → DpAll K H l r
  | _, _, .nil => .nil
  | _, _, .cons a b => .cons (h _ _ a) (paired_dp h b)
theorem Sc.dp {K : PySem.W.Frag} {H : Hp} {x : V} {d : PyData} (h : Sc x d) : Dp K H x d := by
  cases d with
  | none => rw [show x = .non from h]; exact .non
  | bool b => rw [show x = .bl b from h]; exact .bl b
  | int i => rw [h.1]; exact .int i
  | str z => rw [h.1]; exact .str z
  | tuple ds => exact h.elim
  | list ds => exact h.elim
  | dict ds => exact h.elim
theorem Th.dp {K : PySem.W.Frag} {l : Bool} : ∀ {ms : List Nat} {H : Hp} {x : V} {d : PyData}, Th l ms H x d → Dp K H x d
  | [], _, _, _, h => Sc.dp h
  | m :: r, H, x, d, h => by
    rcases h with h | ⟨a, xs, ds, h1, h2, h3, h4⟩
    · exact h.dp
    · have hd := paired_dp (K := K) (fun _ _ q => Th.dp (ms := r) q) h3
      rw [h1]
      rcases h4 with ⟨e, h⟩ | ⟨_, e, h⟩
      · rw [e]
        exact .tup (SqT.of h) hd
      · rw [e]
        exact .lst (SqL.of h) hd
/-! how great it is when it is shown -/
def sizeB : List Nat → Nat
  | [] => 1010
  | m :: r => 1010 + m * (sizeB r + 2) + 3
theorem pow40 {i : Int} (h : i.natAbs < 10 ^ 40) : i.natAbs.log2 < 1920 := by
  by_cases z : i.natAbs = 0
  · rw [z]
    decide
  · exact Nat.lt_of_lt_of_le ((Nat.log2_lt (k := 140) z).mpr (Nat.lt_of_lt_of_le h (by decide))) (by decide)
structure ShowD (d : PyData) (n k : Nat) : Prop where
  ok : d.showable = true
  nd : d.hasDict = false
  dp : d.depth ≤ k
  sz : d.shown.length ≤ n
theorem ascp_big {z : Str} (h : AscP z) : ∀ c ∈ z.cps.toList, c < 16 ^ 8 := fun c hc => by
  have := h c hc
  have e : (16 : Nat) ^ 8 = 4294967296 := by decide
  rw [e]
  omega
theorem int_show {i : Int} (h : i.natAbs < 10 ^ 40) : ((toString i : String) : Str).length ≤ 1010 := by
  have e := int_text_length_le10 (a := i) (k := 40) (by decide) h
  have e2 : ((toString i : String) : Str).length = (toString i).length := PySem.ofString_length _
  rw [e2]
  omega
theorem Sc.show {x : V} {d : PyData} (h : Sc x d) : ShowD d 1010 0 := by
  cases d with
  | none => exact ⟨rfl, rfl, Nat.le_refl _, by decide +kernel⟩
  | bool b => exact ⟨rfl, rfl, Nat.le_refl _, by cases b <;> decide +kernel⟩
  | int i => exact ⟨decide_eq_true (pow40 h.2), rfl, Nat.le_refl _, int_show h.2⟩
  | str z =>
    refine ⟨rfl, rfl, Nat.le_refl _, ?_⟩
    have := StrLaws.reprText_len z (ascp_big h.2.2)
    have h2 := h.2.1
    show (reprText z).length ≤ 1010
    omega
  | tuple ds => exact h.elim
  | list ds => exact h.elim
  | dict ds => exact h.elim
theorem all_show {R : V → PyData → Prop} {n k : Nat} (h : ∀ a b, R a b → ShowD b n k) : ∀ {l : List V} {r : List PyData}, Paired R l r →
    PyData.showableAll r = true ∧ PyData.hasDictAll r = false ∧ PyData.depthAll r ≤ k ∧ ((PyData.shownAll r).map (·.length)).sum ≤ r.length * n ∧ (PyData.shownAll r).length = r.length
  | _, _, .nil => ⟨rfl, rfl, Nat.zero_le _, Nat.zero_le _, rfl⟩
  | _, d :: r, .cons (l₁ := vs) a b => by
    obtain ⟨q1, q2, q3, q4, q5⟩ := all_show h b
    have g := h _ _ a
    refine ⟨?_, ?_, ?_, ?_, ?_⟩
    · show (d.showable && PyData.showableAll r) = true
      rw [g.ok, q1]
      rfl
    · show (d.hasDict || PyData.hasDictAll r) = false
      rw [g.nd, q2]
      rfl
    · show max d.depth (PyData.depthAll r) ≤ k
      have := g.dp
      omega
    · show (List.map (·.length) (d.shown :: PyData.shownAll r)).sum ≤ _
      rw [List.map_cons, List.sum_cons, List.length_cons, Nat.succ_mul]
      have := g.sz
      omega
    · show (d.shown :: PyData.shownAll r).length = _
      rw [List.length_cons, List.length_cons, q5]
theorem sizeB_up : ∀ ms : List Nat, 1010 ≤ sizeB ms
  | [] => Nat.le_refl _
  | m :: r => by
    show 1010 ≤ 1010 + m * (sizeB r + 2) + 3
    omega
theorem Th.show {l : Bool} : ∀ {ms : List Nat} {H : Hp} {x : V} {d : PyData}, Th l ms H x d → ShowD d (sizeB ms) ms.length
  | [], _, _, _, h => Sc.show h
  | m :: r, H, x, d, h => by
    rcases h with h | ⟨a, xs, ds, h1, h2, h3, h4⟩
    · obtain ⟨a1, a2, a3, a4⟩ := h.show
      exact ⟨a1, a2, by omega, Nat.le_trans a4 (sizeB_up _)⟩
    · obtain ⟨q1, q2, q3, q4, q5⟩ := all_show (fun _ _ q => Th.show (ms := r) q) h3
      have e1 : ds.length * sizeB r ≤ m * sizeB r := Nat.mul_le_mul_right _ h2
      have e2 : m * (sizeB r + 2) = m * sizeB r + m * 2 := Nat.mul_add _ _ _
      have e3 := PySem.tupleText_len_le (PyData.shownAll ds)
      have e4 := PySem.listText_len_le (PyData.shownAll ds)
      rcases h4 with ⟨e, _⟩ | ⟨_, e, _⟩ <;> rw [e]
      · refine ⟨q1, q2, ?_, ?_⟩
        · show PyData.depthAll ds + 1 ≤ r.length + 1
          omega
        · show (tupleText (PyData.shownAll ds)).length ≤ 1010 + m * (sizeB r + 2) + 3
          omega
      · refine ⟨q1, q2, ?_, ?_⟩
        · show PyData.depthAll ds + 1 ≤ r.length + 1
          omega
        · show (listText (PyData.shownAll ds)).length ≤ 1010 + m * (sizeB r + 2) + 3
          omega
end Sea
namespace Sea
open PySem PySem.Spec PyProof.Rows L2
/-! the small defs of the program at things of any kind -/
abbrev LET : Str := Str.ofString "abcdefghijklmnopqrstuvwxyz"
theorem let_cp : cp LET = (List.range 26).map (· + 97) := by decide +kernel
theorem in_let {c : Nat} : c ∈ cp LET ↔ 97 ≤ c ∧ c ≤ 122 := by
  rw [let_cp, List.mem_map]
  constructor
  · rintro ⟨a, ha, rfl⟩
    have := List.mem_range.mp ha
    omega
  · intro h
    exact ⟨c - 97, List.mem_range.mpr (by omega), by omega⟩
structure NameW (l : List Nat) : Prop where
  some : 1 ≤ l.length
  most : l.length ≤ 8
  sign : ∀ c ∈ l, 97 ≤ c ∧ c ≤ 122
open Classical in
noncomputable def nameV : V → Bool
  | .str z => decide (NameW (cp z))
  | _ => false
open Classical in
theorem nameV_no {z : Str} (h : ¬ NameW (cp z)) : nameV (.str z) = false := decide_eq_false h
open Classical in
theorem nameV_yes {z : Str} (h : NameW (cp z)) : nameV (.str z) = true := decide_eq_true h
def spIsIntA : Sp := fun vs H Q _ => ∃ x, vs = [x] ∧ AnyV H x ∧ Q (.bl (isInt x)) H
def spWithinA : Sp := fun vs H Q _ => ∃ x lo hi, vs = [x, .int lo, .int hi] ∧ AnyV H x ∧ Q (.bl (inside x lo hi)) H
/-- the empty tuple that stands for a default, in the written part -/
def DfT (K : PySem.W.Frag) (a : Addr) : Prop := ∃ o n, K.lookup a = some o ∧ o.cls = .type "tuple" ∧ o.data = .seq #[] n
theorem DfT.sq {K : PySem.W.Frag} {H : Hp} {a : Addr} (h : DfT K a) : SqT K H a [] := by
  obtain ⟨o, n, h1, h2, h3⟩ := h
  exact .inr ⟨o, #[], n, h1, h2, h3, Nat.zero_le _, .nil⟩
theorem DfT.ty {K : PySem.W.Frag} {H : Hp} {a : Addr} (h : DfT K a) : TyX K H (.ref a) (.type "tuple") := by
  obtain ⟨o, n, h1, h2, h3⟩ := h
  exact .kTuple h1 h2
def spItemsA (K : PySem.W.Frag) : Sp := fun vs H Q _ => ∃ x, vs = [x] ∧ ((Plain x ∧ ∀ H', Same H H' → Q .non H') ∨ (∃ a, x = .ref a ∧ DfT K a ∧ ∀ H', Same H H' → Q (.ref a) H') ∨ ∃ a xs, x = .ref a ∧ (H a = some (.tup xs) ∨ H a = some (.lst xs)) ∧ ∀ H' t, Same H H' → H' t = some (.tup xs) → Q (.ref t) H')
def spPartsA : Sp := fun vs H Q _ => ∃ x n, vs = [x, .int n] ∧ ((Plain x ∧ ∀ H', Same H H' → Q .non H') ∨ ∃ a xs, x = .ref a ∧ (H a = some (.tup xs) ∨ H a = some (.lst xs)) ∧ xs.length ≤ 1000 ∧
  ((xs.length : Int) = n → ∀ H' t, Same H H' → H' t = some (.tup xs) → Q (.ref t) H') ∧ ((xs.length : Int) ≠ n → ∀ H', Same H H' → Q .non H'))
noncomputable def spNameA : Sp := fun vs H Q _ => ∃ x, vs = [x] ∧ AnyV H x ∧ (∀ z, x = .str z → z.length ≤ 2000) ∧ ∀ H', Same H H' → Q (.bl (nameV x)) H'
theorem small3 {n : Nat} (h : n ≤ 2000) : n ≤ sizeLine := by
  rw [sizeLine_eq]
  omega
theorem all_reps (l : List Nat) (p : Nat → Bool) : ((l.map fun c => p c).all id) = l.all p := by
  rw [List.all_map]
  rfl
section
variable {P : Program} {w : World} {K : PySem.W.Frag} {mg : Str → Option Value} {base : Heap}
theorem ok_is_integerA {f : Addr} {fd : FuncData} (F : Fun K "is_integer" "is_integer" s_is_integer f fd)
    (m_isinstance : mg "isinstance" = none) (m_int : mg "int" = none) (m_bool : mg "bool" = none) : FnOk P w K mg base CX0 1 f fd ["thing"] spIsIntA := by
  refine F.ok sc_is_integer (fun vs H Q E h => ?_) (fun cdv A outer s H vs Q E hr h => ?_)
  · obtain ⟨x, rfl, _⟩ := h
    rfl
  · obtain ⟨x, rfl, hp, q⟩ := h
    refine ⟨_, (pss_one (ps_ret (pe_and (pe_callB call_isi (by rfl) m_isinstance (by decide +kernel) (pa_cons (pv 0) (pa_cons (pe_bltn (v := .ty "int") (by rfl) m_int (by decide +kernel) rfl) pa_nil))) (pe_one (pe_not (pe_callB call_isi (by rfl) m_isinstance (by decide +kernel) (pa_cons (pv 0) (pa_cons (pe_bltn (v := .ty "bool") (by rfl) m_bool (by decide +kernel) rfl) pa_nil)))))))), ?_⟩
    cases x with
    | int i => exact ⟨_, rfl, _, _, _, _, true, rfl, .ty _, .base (.int i), kit_ty (by decide +kernel), true, rfl, iteT ⟨_, rfl, _, _, _, _, false, rfl, .ty _, .base (.int i), kit_ty (by decide +kernel), false, rfl, q⟩⟩
    | bl b => exact ⟨_, rfl, _, _, _, _, true, rfl, .ty _, .base (.bl b), kit_ty (by decide +kernel), true, rfl, iteT ⟨_, rfl, _, _, _, _, true, rfl, .ty _, .base (.bl b), kit_ty (by decide +kernel), true, rfl, q⟩⟩
    | non => exact ⟨_, rfl, _, _, _, _, false, rfl, .ty _, .base .non, kit_ty (by decide +kernel), false, rfl, iteF q⟩
    | str z => exact ⟨_, rfl, _, _, _, _, false, rfl, .ty _, .base (.str z), kit_ty (by decide +kernel), false, rfl, iteF q⟩
    | ref a =>
      rcases hp with hp | ⟨a', xs, ea, hl | hl⟩
      · exact hp.elim
      · cases ea
        exact ⟨_, rfl, _, _, _, _, false, rfl, .ty _, .base (.lst hl), kit_ty (by decide +kernel), false, rfl, iteF q⟩
      · cases ea
        exact ⟨_, rfl, _, _, _, _, false, rfl, .ty _, .base (.tup hl), kit_ty (by decide +kernel), false, rfl, iteF q⟩
    | byt z => rcases hp with hp | ⟨a', xs, ea, _⟩ <;> first | exact hp.elim | cases ea
    | flt z => rcases hp with hp | ⟨a', xs, ea, _⟩ <;> first | exact hp.elim | cases ea
    | ty z => rcases hp with hp | ⟨a', xs, ea, _⟩ <;> first | exact hp.elim | cases ea
theorem ok_is_withinA {f : Addr} {fd : FuncData} (F : Fun K "is_within" "is_within" s_is_within f fd)
    (c_is_integer : Cal P w K mg base 1 "is_integer" spIsIntA) : FnOk P w K mg base CX0 2 f fd ["thing", "low", "high"] spWithinA := by
  refine F.ok sc_is_within (fun vs H Q E h => ?_) (fun cdv A outer s H vs Q E hr h => ?_)
  · obtain ⟨x, lo, hi, rfl, _⟩ := h
    rfl
  · obtain ⟨x, lo, hi, rfl, hp, q⟩ := h
    refine ⟨_, (pss_one (ps_ret (pe_and (pe_c c_is_integer hr (by decide) rfl (pa_cons (pv 0) pa_nil)) (pe_one (pe_chain op_le op_le (pv 1) (pv 0) (pv 2)))))), ?_⟩
    refine ⟨_, rfl, x, rfl, hp, ?_⟩
    cases x with
    | int i =>
      refine ⟨true, rfl, iteT ⟨_, rfl, _, rfl, _, _, rfl, rfl, _, rfl, ?_⟩⟩
      refine ite2 (fun e => ?_) (fun e => ?_)
      · refine ⟨_, rfl, _, _, rfl, rfl, ?_⟩
        have q' : Q (.bl (decide (lo ≤ i) && decide (i ≤ hi))) H := q
        rw [e, Bool.true_and] at q'
        exact q'
      · have q' : Q (.bl (decide (lo ≤ i) && decide (i ≤ hi))) H := q
        rw [Bool.eq_false_iff.mpr e, Bool.false_and] at q'
        exact q'
    | _ => exact ⟨false, rfl, iteF q⟩
theorem ok_items_ofA {f : Addr} {fd : FuncData} (F : Fun K "items_of" "items_of" s_items_of f fd) (m_isinstance : mg "isinstance" = none) (m_tuple : mg "tuple" = none) (m_list : mg "list" = none) :
    FnOk P w K mg base CX0 1 f fd ["thing"] (spItemsA K) := by
  refine F.ok sc_items_of (fun vs H Q E h => ?_) (fun cdv A outer s H vs Q E hr h => ?_)
  · obtain ⟨x, rfl, _⟩ := h
    rfl
  · obtain ⟨x, rfl, hx⟩ := h
    refine ⟨_, (pss_cons (ps_if (pt_val (pe_callB call_isiT (by rfl) m_isinstance (by decide +kernel) (pa_cons (pv 0) (pa_cons (pe_tup (pa_cons (pe_bltn (v := .ty "tuple") (by rfl) m_tuple (by decide +kernel) rfl) (pa_cons (pe_bltn (v := .ty "list") (by rfl) m_list (by decide +kernel) rfl) pa_nil))) pa_nil))))
    (pss_one (ps_ret (pe_callTy call_tuple_of (by rfl) m_tuple (by decide +kernel) (pa_cons (pv 0) pa_nil))))
    pss_nil)
    (pss_one (ps_ret (pe_non)))), ?_⟩
    refine ⟨_, rfl, (by show 2 ≤ sizeLine; decide), fun p hp => ?_⟩
    have sp := same_new (o := .tup [V.ty "tuple", V.ty "list"]) hp
    have noB : ∀ {t : String}, kitB t "tuple" = some false → kitB t "list" = some false → PySem.W.kitAny K (.type t) [.type "tuple", .type "list"] = some false := fun {t} h1 h2 =>
      kitAny_cons (b := false) (kit_ty h1) (fun _ => kitAny_cons (b := false) (kit_ty h2) (fun _ => rfl) (fun z => nomatch z)) (fun z => nomatch z)
    rcases hx with ⟨hx, q⟩ | ⟨a, rfl, hdf, q⟩ | ⟨a, xs, rfl, ha | ha, q⟩
    · have q' := q _ sp
      cases x with
      | int i => exact ⟨_, p, _, _, _, false, rfl, upd_same, .cons (.ty _) (.cons (.ty _) .nil), .base (.int i), noB (by decide +kernel) (by decide +kernel), false, rfl, q'⟩
      | bl b => exact ⟨_, p, _, _, _, false, rfl, upd_same, .cons (.ty _) (.cons (.ty _) .nil), .base (.bl b), noB (by decide +kernel) (by decide +kernel), false, rfl, q'⟩
      | non => exact ⟨_, p, _, _, _, false, rfl, upd_same, .cons (.ty _) (.cons (.ty _) .nil), .base .non, noB (by decide +kernel) (by decide +kernel), false, rfl, q'⟩
      | str z => exact ⟨_, p, _, _, _, false, rfl, upd_same, .cons (.ty _) (.cons (.ty _) .nil), .base (.str z), noB (by decide +kernel) (by decide +kernel), false, rfl, q'⟩
      | ref a => exact hx.elim
      | byt z => exact hx.elim
      | flt z => exact hx.elim
      | ty z => exact hx.elim
    · exact ⟨_, p, _, _, _, true, rfl, upd_same, .cons (.ty _) (.cons (.ty _) .nil), hdf.ty, kitAny_cons (b := true) (kit_ty (by decide +kernel)) (fun z => nomatch z) (fun _ => rfl), true, rfl,
        _, rfl, a, [], rfl, .inr ⟨hdf.sq, q _ sp⟩⟩
    · exact ⟨_, p, _, _, _, true, rfl, upd_same, .cons (.ty _) (.cons (.ty _) .nil), .base (.tup (sp _ _ ha)), kitAny_cons (b := true) (kit_ty (by decide +kernel)) (fun z => nomatch z) (fun _ => rfl), true, rfl,
        _, rfl, a, xs, rfl, .inr ⟨SqT.of (sp _ _ ha), q _ a sp (sp _ _ ha)⟩⟩
    · exact ⟨_, p, _, _, _, true, rfl, upd_same, .cons (.ty _) (.cons (.ty _) .nil), .base (.lst (sp _ _ ha)), kitAny_cons (b := false) (kit_ty (by decide +kernel)) (fun _ => kitAny_cons (b := true) (kit_ty (by decide +kernel)) (fun z => nomatch z) (fun _ => rfl)) (fun z => nomatch z), true, rfl,
        _, rfl, a, xs, rfl, .inl ⟨SqL.of (sp _ _ ha), fun l hl => q _ l (sp.trans (same_new hl)) upd_same⟩⟩
theorem ok_parts_ofA {f : Addr} {fd : FuncData} (F : Fun K "parts_of" "parts_of" s_parts_of f fd) (m_len : mg "len" = none) (c_items_of : Cal P w K mg base 1 "items_of" (spItemsA K)) :
    FnOk P w K mg base CX0 2 f fd ["thing", "many"] spPartsA := by
  refine F.ok sc_parts_of (fun vs H Q E h => ?_) (fun cdv A outer s H vs Q E hr h => ?_)
  · obtain ⟨x, n, rfl, _⟩ := h
    rfl
  · obtain ⟨x, n, rfl, hx⟩ := h
    refine ⟨_, (pss_cons (ps_set (i := 2) sc_parts_of.nd rfl (Or.inl rfl) (pe_c c_items_of hr (by decide) rfl (pa_cons (pv 0) pa_nil)))
    (pss_cons (ps_if (PW.pt (pw_or (pt_cmpR op_isN (pv 2) (pe_non) (nomark _)) (pw_or1 (pt_cmpR op_ne (pe_callB call_len (by rfl) m_len (by decide +kernel) (pa_cons (pv 2) pa_nil)) (pv 1) (nomark _)))))
    (pss_one (ps_ret (pe_non)))
    pss_nil)
    (pss_one (ps_ret (pv 2))))), ?_⟩
    rcases hx with ⟨hx, q⟩ | ⟨a, xs, rfl, ha, hl, q1, q2⟩
    · exact ⟨_, rfl, x, rfl, .inl ⟨hx, fun H1 s1 => ⟨_, rfl, rfl, _, rfl, q H1 s1⟩⟩⟩
    · refine ⟨_, rfl, .ref a, rfl, .inr (.inr ⟨a, xs, rfl, ha, fun H1 t s1 h1 => ?_⟩)⟩
      refine ⟨_, rfl, rfl, _, rfl, _, rfl, _, xs.length, rfl, .inr ⟨_, SqT.of h1, rfl⟩, _, rfl, rfl, _, rfl, ?_⟩
      by_cases e : (xs.length : Int) = n
      · rw [e, decide_eq_true rfl]
        exact ⟨_, rfl, q1 e H1 t s1 h1⟩
      · rw [decide_eq_false (fun z => e (V.int.inj z))]
        exact q2 e H1 s1
theorem ok_is_nameA {f : Addr} {fd : FuncData} (F : Fun K "is_name" "is_name" s_is_name f fd) (m_isinstance : mg "isinstance" = none) (m_str : mg "str" = none) (m_len : mg "len" = none) (m_all : mg "all" = none)
    {t : Tok} (g_LETTERS : mg "LETTERS" = some (.str LET t)) : FnOk P w K mg base CX0 1 f fd ["thing"] spNameA := by
  refine F.ok sc_is_name (fun vs H Q E h => ?_) (fun cdv A outer s H vs Q E hr h => ?_)
  · obtain ⟨x, rfl, _⟩ := h
    rfl
  · obtain ⟨x, rfl, hany, hsz, q⟩ := h
    refine ⟨_, (pss_cons (ps_if (PW.pt (pw_or (pt_not (pt_val (pe_callB call_isi (by rfl) m_isinstance (by decide +kernel) (pa_cons (pv 0) (pa_cons (pe_bltn (v := .ty "str") (by rfl) m_str (by decide +kernel) rfl) pa_nil))))) (pw_or1 (pt_not (pt_chain op_le op_le (pe_int) (pe_callB call_len (by rfl) m_len (by decide +kernel) (pa_cons (pv 0) pa_nil)) (pe_int))))))
    (pss_one (ps_ret (pe_bl)))
    pss_nil)
    (pss_one (ps_ret (pe_callB (cr_all rfl) (by rfl) m_all (by decide +kernel) (pa_cons (pe_lc (own := [("sign", 1)]) rfl sc_is_name.nd (pi_str (pv 0)) (blkOk_by (N := N_is_name) (sc := defScope s_is_name) (by decide +kernel)) (fun _ _ _ _ _ => (pg_name (i := 1) sc_is_name.nd rfl (Or.inl rfl))) (fun _ _ _ _ _ => pts_nil) (fun _ _ _ _ _ => (pe_cmpR op_in_sign (pv 1) (pe_glob (v := .str LET) rfl g_LETTERS ⟨_, rfl⟩) rfl))) pa_nil))))), ?_⟩
    cases x with
    | int i => exact ⟨_, rfl, _, _, _, _, false, rfl, .ty _, .base (.int i), kit_ty (by decide +kernel), false, rfl, q H (Same.refl H)⟩
    | bl b => exact ⟨_, rfl, _, _, _, _, false, rfl, .ty _, .base (.bl b), kit_ty (by decide +kernel), false, rfl, q H (Same.refl H)⟩
    | non => exact ⟨_, rfl, _, _, _, _, false, rfl, .ty _, .base .non, kit_ty (by decide +kernel), false, rfl, q H (Same.refl H)⟩
    | ref a =>
      rcases hany with hp | ⟨a', xs, ea, hl | hl⟩
      · exact hp.elim
      · cases ea
        exact ⟨_, rfl, _, _, _, _, false, rfl, .ty _, .base (.lst hl), kit_ty (by decide +kernel), false, rfl, q H (Same.refl H)⟩
      · cases ea
        exact ⟨_, rfl, _, _, _, _, false, rfl, .ty _, .base (.tup hl), kit_ty (by decide +kernel), false, rfl, q H (Same.refl H)⟩
    | byt z => rcases hany with hp | ⟨a', xs, ea, _⟩ <;> first | exact hp.elim | cases ea
    | flt z => rcases hany with hp | ⟨a', xs, ea, _⟩ <;> first | exact hp.elim | cases ea
    | ty z => rcases hany with hp | ⟨a', xs, ea, _⟩ <;> first | exact hp.elim | cases ea
    | str z =>
      have hz : z.length ≤ 2000 := hsz z rfl
      have hzl := small3 hz
      have no : ∀ H', Same H H' → ¬ NameW (cp z) → Q (.bl false) H' := fun H' hs hg => by
        have q' := q H' hs
        rw [nameV_no hg] at q'
        exact q'
      refine ⟨_, rfl, _, _, _, _, true, rfl, .ty _, .base (.str z), kit_ty (by decide +kernel), true, rfl, ?_⟩
      refine ⟨_, rfl, _, z.length, rfl, ⟨hzl, rfl⟩, _, _, rfl, rfl, _, rfl, ite2 (fun h1 => ⟨_, _, rfl, rfl, _, rfl, ?_⟩) (fun h1 => ⟨_, rfl, no H (Same.refl H) fun g => ?_⟩)⟩
      · by_cases h8 : ((z.length : Nat) : Int) ≤ 8
        · rw [decide_eq_true h8]
          refine ⟨_, rfl, z, rfl, fun D hD => ?_⟩
          refine lc_it walk_str (fun i H' => Same H H' ∧ H' D = some (.lst ((((cp z).take i).map fun c => decide (c ∈ cp LET)).map V.bl))) ⟨same_new hD, by rw [List.take_zero]; exact upd_same⟩ (fun _ _ _ _ => trivial) ?_ ?_
          · rintro i x Ha Hb hi ⟨hs, hd⟩ ⟨rfl, c, hc, rfl⟩
            have hc' : (cp z)[i]? = some c := by rw [Array.getElem?_toList]; exact hc
            refine ⟨rfl, _, rfl, c, LET, rfl, rfl, _, hd, ?_, same_over hs hD, ?_⟩
            · rw [List.length_map, List.length_map, List.length_take]
              have hi' : i < z.length := hi
              exact small_line (by omega)
            · rw [upd_same, List.take_add_one, hc', List.map_append, List.map_append]
              rfl
          · rintro H' ⟨hs, hd⟩
            have e0 : (cp z).take z.cps.size = cp z := List.take_of_length_le (by rw [cp_len]; exact Nat.le_refl _)
            rw [e0] at hd
            have q' := q H' hs
            have e : ((cp z).map fun c => decide (c ∈ cp LET)).all id = nameV (.str z) := by
              rw [all_reps]
              by_cases g : NameW (cp z)
              · rw [nameV_yes g]
                exact List.all_eq_true.mpr fun c hc => decide_eq_true (in_let.mpr (g.sign c hc))
              · rw [nameV_no g, Bool.eq_false_iff]
                intro t
                refine g ⟨?_, ?_, fun c hc => in_let.mp (of_decide_eq_true (List.all_eq_true.mp t c hc))⟩
                · rw [cp_len]
                  have := of_decide_eq_true h1
                  omega
                · rw [cp_len]
                  omega
            refine ⟨D, _, rfl, SqL.of hd, ?_⟩
            rw [e]
            exact q'
        · rw [decide_eq_false h8]
          refine no H (Same.refl H) fun g => h8 ?_
          have := g.most
          rw [cp_len] at this
          omega
      · have := g.some
        rw [cp_len] at this
        exact h1 (decide_eq_true (by omega))
end
end Sea
namespace Sea
open PySem PySem.Spec PyProof.Rows L2
/-! cues of any kind -/
structure Cue where
  s : Int
  e : Int
  nm : Str
  tx : Str
  deriving DecidableEq
def Cue.vs (c : Cue) : List V := [.int c.s, .int c.e, .str c.nm, .str c.tx]
/-- the items of a tuple or a list -/
def seqD : PyData → Option (List PyData)
  | .tuple ds => some ds
  | .list ds => some ds
  | _ => none
/-- a thing's parts, as a cue's -/
def cueD (d : PyData) : Option Cue :=
  match seqD d with
  | some [.int s, .int e, .str n, .str t] => some ⟨s, e, n, t⟩
  | _ => none
structure GoodC (lo len : Int) (c : Cue) : Prop where
  nm : NameW (cp c.nm)
  tx : Good (cp c.tx)
  lo : lo ≤ c.s
  lt : c.s < c.e
  hi : c.e ≤ len
open Classical in
/-- whether a thing can stand as a cue from lo on in a reel of this length -/
noncomputable def okD (lo len : Int) (d : PyData) : Bool :=
  match cueD d with
  | some c => decide (GoodC lo len c)
  | none => false
def endD (d : PyData) : Int :=
  match cueD d with
  | some c => c.e
  | none => 0
/-- the number of the first thing that can't stand -/
noncomputable def judgeD (len : Int) : Int → List PyData → Option Nat
  | _, [] => none
  | lo, d :: r => if okD lo len d = true then (judgeD len (endD d) r).map (· + 1) else some 0
open Classical in
theorem okD_good {lo len : Int} {d : PyData} (h : okD lo len d = true) : ∃ c, cueD d = some c ∧ GoodC lo len c := by
  unfold okD at h
  cases e : cueD d with
  | none => rw [e] at h; cases h
  | some c => rw [e] at h; exact ⟨c, rfl, of_decide_eq_true h⟩
open Classical in
theorem okD_of {lo len : Int} {d : PyData} {c : Cue} (h : cueD d = some c) (g : GoodC lo len c) : okD lo len d = true := by
  unfold okD
  rw [h]
  exact decide_eq_true g
theorem cueD_parts {d : PyData} {c : Cue} (h : cueD d = some c) : seqD d = some [.int c.s, .int c.e, .str c.nm, .str c.tx] := by
  unfold cueD at h
  split at h
  · rename_i e
    have := Option.some.inj h
    subst this
    exact e
  · cases h
theorem Th.int {l : Bool} {ms : List Nat} {H : Hp} {x : V} {i : Int} (h : Th l ms H x (.int i)) : x = .int i := by
  cases ms with
  | nil => exact h.1
  | cons m r =>
    rcases h with h | ⟨a, xs, ds, h1, h2, h3, ⟨e, _⟩ | ⟨_, e, _⟩⟩
    · exact h.1
    · cases e
    · cases e
theorem Th.str {l : Bool} {ms : List Nat} {H : Hp} {x : V} {z : Str} (h : Th l ms H x (.str z)) : x = .str z ∧ z.length ≤ 100 ∧ AscP z := by
  cases ms with
  | nil => exact h
  | cons m r =>
    rcases h with h | ⟨a, xs, ds, h1, h2, h3, ⟨e, _⟩ | ⟨_, e, _⟩⟩
    · exact h
    · cases e
    · cases e
theorem Sc.seq {x : V} {d : PyData} (h : Sc x d) : seqD d = none := by
  cases d with
  | tuple ds => exact h.elim
  | list ds => exact h.elim
  | _ => rfl
theorem Th.lenS {l : Bool} {ms : List Nat} {H : Hp} {x : V} {d : PyData} (h : Th l ms H x d) : ∀ z, x = .str z → z.length ≤ 100 := by
  intro z e
  subst e
  have := h.sc trivial
  cases d with
  | none => cases (show V.str z = .non from this)
  | bool b => cases (show V.str z = .bl b from this)
  | int i => cases this.1
  | str y => cases this.1; exact this.2.1
  | tuple ds => exact this.elim
  | list ds => exact this.elim
  | dict ds => exact this.elim
theorem isInt_int {l : Bool} {ms : List Nat} {H : Hp} {x : V} {d : PyData} (h : Th l ms H x d) (e : isInt x = true) : ∃ i, x = .int i ∧ d = .int i := by
  cases x with
  | int i =>
    have := h.sc trivial
    cases d with
    | none => cases (show V.int i = .non from this)
    | bool b => cases (show V.int i = .bl b from this)
    | int j => cases this.1; exact ⟨i, rfl, rfl⟩
    | str y => cases this.1
    | tuple ds => exact this.elim
    | list ds => exact this.elim
    | dict ds => exact this.elim
  | _ => cases e
theorem is_str {l : Bool} {ms : List Nat} {H : Hp} {z : Str} {d : PyData} (h : Th l ms H (.str z) d) : d = .str z := by
  have := h.sc trivial
  cases d with
  | none => cases (show V.str z = .non from this)
  | bool b => cases (show V.str z = .bl b from this)
  | int j => cases this.1
  | str y => cases this.1; rfl
  | tuple ds => exact this.elim
  | list ds => exact this.elim
  | dict ds => exact this.elim
open Classical in
theorem nameV_good {x : V} (h : nameV x = true) : ∃ z, x = .str z ∧ NameW (cp z) := by
  cases x with
  | str z => exact ⟨z, rfl, of_decide_eq_true h⟩
  | _ => cases h
open Classical in
theorem textV_good {x : V} (h : textV x = true) : ∃ z, x = .str z ∧ Good (cp z) := by
  cases x with
  | str z => exact ⟨z, rfl, of_decide_eq_true h⟩
  | _ => cases h
theorem paired4 {R : V → PyData → Prop} {xs : List V} {ds : List PyData} (h : Paired R xs ds) (e : xs.length = 4) : ∃ a b c d a' b' c' d', xs = [a, b, c, d] ∧ ds = [a', b', c', d'] ∧ R a a' ∧ R b b' ∧ R c c' ∧ R d d' := by
  cases h with
  | nil => cases e
  | cons h1 h =>
    cases h with
    | nil => cases e
    | cons h2 h =>
      cases h with
      | nil => cases e
      | cons h3 h =>
        cases h with
        | nil => cases e
        | cons h4 h =>
          cases h with
          | nil => exact ⟨_, _, _, _, _, _, _, _, rfl, rfl, h1, h2, h3, h4⟩
          | cons h5 h => simp only [List.length_cons] at e; omega
theorem paired_len {α β : Type} {R : α → β → Prop} : ∀ {l : List α} {r : List β}, Paired R l r → l.length = r.length
  | _, _, .nil => rfl
  | _, _, .cons _ t => congrArg (· + 1) (paired_len t)
noncomputable def spCueA : Sp := fun vs H Q _ => ∃ (x : V) (d : PyData) (lo len : Int), vs = [x, .int lo, .int len] ∧ Th true [5, 1] H x d ∧
  (∀ c, cueD d = some c → GoodC lo len c → ∀ H' t, Same H H' → H' t = some (.tup c.vs) → Q (.ref t) H') ∧ (okD lo len d = false → ∀ H', Same H H' → Q .non H')
section
variable {P : Program} {w : World} {K : PySem.W.Frag} {mg : Str → Option Value} {base : Heap}
theorem ok_cue_ofA {f : Addr} {fd : FuncData} (F : Fun K "cue_of" "cue_of" s_cue_of f fd) (c_parts_of : Cal P w K mg base 2 "parts_of" spPartsA) (c_is_integer : Cal P w K mg base 1 "is_integer" spIsIntA)
    (c_is_name : Cal P w K mg base 1 "is_name" spNameA) (c_is_text : Cal P w K mg base 2 "is_text" spIsText) : FnOk P w K mg base CX0 3 f fd ["thing", "earliest", "length"] spCueA := by
  refine F.ok sc_cue_of (fun vs H Q E h => ?_) (fun cdv A outer s H vs Q E hr h => ?_)
  · obtain ⟨x, d, lo, len, rfl, _⟩ := h
    rfl
  · obtain ⟨x, d, lo, len, rfl, hx, qy, qn⟩ := h
    refine ⟨_, (pss_cons (ps_set (i := 3) sc_cue_of.nd rfl (Or.inl rfl) (pe_c c_parts_of hr (by decide) rfl (pa_cons (pv 0) (pa_cons (pe_int) pa_nil))))
    (pss_cons (ps_if (pt_cmpR op_isN (pv 3) (pe_non) (nomark _))
    (pss_one (ps_ret (pe_non)))
    pss_nil)
    (pss_cons (ps_asg (pv 3) (pg_tup rfl (pgs_cons (pg_name (i := 4) sc_cue_of.nd rfl (Or.inl rfl)) (pgs_cons (pg_name (i := 5) sc_cue_of.nd rfl (Or.inl rfl)) (pgs_cons (pg_name (i := 6) sc_cue_of.nd rfl (Or.inl rfl)) (pgs_cons (pg_name (i := 7) sc_cue_of.nd rfl (Or.inl rfl)) pgs_nil))))))
    (pss_cons (ps_if (PW.pt (pw_or (pt_not (pt_val (pe_c c_is_integer hr (by decide) rfl (pa_cons (pv 4) pa_nil)))) (pw_or (pt_not (pt_val (pe_c c_is_integer hr (by decide) rfl (pa_cons (pv 5) pa_nil)))) (pw_or (pt_not (pt_val (pe_c c_is_name hr (by decide) rfl (pa_cons (pv 6) pa_nil)))) (pw_or1 (pt_not (pt_val (pe_c c_is_text hr (by decide) rfl (pa_cons (pv 7) pa_nil)))))))))
    (pss_one (ps_ret (pe_non)))
    pss_nil)
    (pss_cons (ps_if (pt_not (pt_chain3 op_le op_lt op_le (pv 1) (pv 4) (pv 5) (pv 2)))
    (pss_one (ps_ret (pe_non)))
    pss_nil)
    (pss_one (ps_ret (pv 3)))))))), ?_⟩
    rcases hx with hx | ⟨a, xs, ds, rfl, hm, hp, hd⟩
    · -- no tuple and no list
      have no : okD lo len d = false := by
        rw [Bool.eq_false_iff]
        intro t
        obtain ⟨c, e, _⟩ := okD_good t
        have e2 := cueD_parts e
        rw [hx.seq] at e2
        cases e2
      exact ⟨_, rfl, x, 4, rfl, .inl ⟨hx.plain, fun H1 s1 => ⟨_, rfl, rfl, _, rfl, qn no H1 s1⟩⟩⟩
    have hs : seqD d = some ds ∧ (H a = some (.tup xs) ∨ H a = some (.lst xs)) := by
      rcases hd with ⟨e, h⟩ | ⟨_, e, h⟩
      · rw [e]; exact ⟨rfl, .inl h⟩
      · rw [e]; exact ⟨rfl, .inr h⟩
    have le := paired_len hp
    refine ⟨_, rfl, .ref a, 4, rfl, .inr ⟨a, xs, rfl, hs.2, by omega, fun e4 H1 t s1 h1 => ?_, fun e4 H1 s1 => ?_⟩⟩
    rotate_left
    · have no : okD lo len d = false := by
        rw [Bool.eq_false_iff]
        intro t
        obtain ⟨c, e, _⟩ := okD_good t
        have e2 := cueD_parts e
        rw [hs.1] at e2
        have e3 := congrArg List.length (Option.some.inj e2)
        have : ds.length = 4 := e3
        omega
      exact ⟨_, rfl, rfl, _, rfl, qn no H1 s1⟩
    obtain ⟨va, vb, vc, ve, da, db, dc, de, rfl, rfl, ra, rb, rc, re⟩ := paired4 hp (by omega)
    -- what a good one is
    have good : okD lo len d = true → ∃ i j n z, va = .int i ∧ vb = .int j ∧ vc = .str n ∧ ve = .str z ∧ cueD d = some ⟨i, j, n, z⟩ ∧ GoodC lo len ⟨i, j, n, z⟩ := fun t => by
      obtain ⟨c, e, g⟩ := okD_good t
      have e2 := cueD_parts e
      rw [hs.1] at e2
      have e3 := Option.some.inj e2
      obtain ⟨e31, e32⟩ := List.cons.inj e3
      obtain ⟨e41, e42⟩ := List.cons.inj e32
      obtain ⟨e51, e52⟩ := List.cons.inj e42
      obtain ⟨e61, e62⟩ := List.cons.inj e52
      subst e31 e41 e51 e61
      exact ⟨c.s, c.e, c.nm, c.tx, ra.int, rb.int, rc.str.1, re.str.1, e, g⟩
    have no : ∀ H', Same H H' → (okD lo len d = true → False) → Q .non H' := fun H' s t => qn (Bool.eq_false_iff.mpr t) H' s
    refine ⟨_, rfl, rfl, _, rfl, _, rfl, t, _, rfl, SqT.of h1, rfl, _, _, rfl, _, _, rfl, _, _, rfl, _, _, rfl, rfl, ?_⟩
    refine ⟨_, rfl, va, rfl, (ra.keep s1).any, _, rfl, ?_⟩
    cases ia : isInt va with
    | false => exact no H1 s1 fun g => by obtain ⟨i, j, n, z, e, _⟩ := good g; rw [e] at ia; cases ia
    | true =>
    obtain ⟨i, rfl, rfl⟩ := isInt_int ra ia
    refine ⟨_, rfl, vb, rfl, (rb.keep s1).any, _, rfl, ?_⟩
    cases ib : isInt vb with
    | false => exact no H1 s1 fun g => by obtain ⟨i, j, n, z, _, e, _⟩ := good g; rw [e] at ib; cases ib
    | true =>
    obtain ⟨j, rfl, rfl⟩ := isInt_int rb ib
    refine ⟨_, rfl, vc, rfl, (rc.keep s1).any, fun z e => Nat.le_trans (rc.lenS z e) (by decide), fun H2 s2 => ⟨_, rfl, ?_⟩⟩
    have s12 := s1.trans s2
    cases ic : nameV vc with
    | false => exact no H2 s12 fun g => by obtain ⟨i, j, n, z, _, _, e, _, _, gg⟩ := good g; rw [e, nameV_yes gg.nm] at ic; cases ic
    | true =>
    obtain ⟨n, rfl, hn⟩ := nameV_good ic
    have en := is_str rc
    subst en
    refine ⟨_, rfl, ve, rfl, (re.keep s12).any, fun z e => Nat.le_trans (re.lenS z e) (by decide), fun H3 s3 => ⟨_, rfl, ?_⟩⟩
    have s13 := s12.trans s3
    cases ie : textV ve with
    | false => exact no H3 s13 fun g => by obtain ⟨i, j, n, z, _, _, _, e, _, gg⟩ := good g; rw [e, textV_yes gg.tx] at ie; cases ie
    | true =>
    obtain ⟨z, rfl, hz⟩ := textV_good ie
    have ez := is_str re
    subst ez
    have ec : cueD d = some ⟨i, j, n, z⟩ := by
      unfold cueD
      rw [hs.1]
    have bad : ¬ GoodC lo len ⟨i, j, n, z⟩ → okD lo len d = true → False := fun ng g => by
      obtain ⟨c, e, gg⟩ := okD_good g
      rw [ec] at e
      cases e
      exact ng gg
    refine ⟨_, rfl, _, rfl, _, _, rfl, rfl, _, rfl, ?_⟩
    by_cases h1' : lo ≤ i
    · rw [decide_eq_true h1']
      refine iteT ⟨_, rfl, _, _, rfl, rfl, _, rfl, ?_⟩
      by_cases h2' : i < j
      · rw [decide_eq_true h2']
        refine iteT ⟨_, rfl, _, _, rfl, rfl, _, rfl, ?_⟩
        by_cases h3' : j ≤ len
        · rw [decide_eq_true h3']
          exact ⟨_, rfl, qy _ ec ⟨hn, hz, h1', h2', h3'⟩ H3 t s13 (s3 _ _ (s2 _ _ h1))⟩
        · rw [decide_eq_false h3']
          exact no H3 s13 (bad fun g => h3' g.hi)
      · rw [decide_eq_false h2']
        exact iteF (no H3 s13 (bad fun g => h2' g.lt))
    · rw [decide_eq_false h1']
      exact iteF (no H3 s13 (bad fun g => h1' g.lo))
end
end Sea
namespace Sea
open PySem PySem.Spec PyProof.Rows L2
/-! the cues of a reel, of any kind -/
structure XI (P : Program) (w : World) (K : PySem.W.Frag) (mg : Str → Option Value) (base : Heap) (nm fld : Str) (C : Addr) : Prop where
  ex : ∃ (fI : Addr) (fd : FuncData), XC K mg nm fld C fI ∧ FnOk P w K mg base CX0 1 fI fd ["self", fld] (spIni K C fld) ∧ Binds K fd ["self", fld] []
/-- a cue at its place -/
def At (H : Hp) (e : Addr × Cue) : Prop := H e.1 = some (.tup e.2.vs)
abbrev refsC (L : List (Addr × Cue)) : List V := L.map fun e => V.ref e.1
abbrev cuesC (L : List (Addr × Cue)) : List Cue := L.map (·.2)
theorem refs_app (a b : List (Addr × Cue)) : refsC (a ++ b) = refsC a ++ refsC b := List.map_append
theorem cues_app (a b : List (Addr × Cue)) : cuesC (a ++ b) = cuesC a ++ cuesC b := List.map_append
theorem At.keep {H H' : Hp} {e : Addr × Cue} (h : At H e) (s : Same H H') : At H' e := s _ _ h
structure CueG (c : Cue) : Prop where
  nm : NameW (cp c.nm)
  tx : Good (cp c.tx)
/-- cues that are handed, or the default -/
def ArgC (K : PySem.W.Frag) (H : Hp) (x : V) (d : PyData) : Prop := Th true [60, 5, 1] H x d ∨ (d = .tuple [] ∧ ∃ a, x = .ref a ∧ DfT K a)
theorem ArgC.keep {K : PySem.W.Frag} {H H' : Hp} {x : V} {d : PyData} (h : ArgC K H x d) (s : Same H H') : ArgC K H' x d := h.imp (fun h => h.keep s) fun h => h
noncomputable def spJudgedA (K : PySem.W.Frag) (CB CM : Addr) : Sp := fun vs H Q E => ∃ (x : V) (d : PyData) (len : Int), vs = [.int len, x] ∧ ArgC K H x d ∧
  (seqD d = none → ∀ H' q, Same H H' → H' q = none → E (.ref CB) (some q) (upd H' q (.xd [(("number" : Str), .int (-1))]))) ∧
  (∀ ds k, seqD d = some ds → judgeD len 0 ds = some k → ∀ H' q, Same H H' → H' q = none → E (.ref CB) (some q) (upd H' q (.xd [(("number" : Str), .int (k : Nat))]))) ∧
  (∀ ds, seqD d = some ds → judgeD len 0 ds = none → 40 < ds.length → ∀ H' q, Same H H' → H' q = none → E (.ref CM) (some q) (upd H' q (.xd [(("word" : Str), .str (Str.ofString "cue"))]))) ∧
  (∀ ds, seqD d = some ds → judgeD len 0 ds = none → ds.length ≤ 40 → ∀ H' t L, Same H H' → H' t = some (.tup (refsC L)) → (cuesC L).map some = ds.map cueD → (∀ e ∈ L, At H' e) → (∀ c ∈ cuesC L, CueG c) → Q (.ref t) H')
theorem paired_get' {α β : Type} {R : α → β → Prop} : ∀ {l : List α} {r : List β}, Paired R l r → ∀ {i : Nat} {u : α}, l[i]? = some u → ∃ v, r[i]? = some v ∧ R u v
  | _, _, .nil, i, v, h => by cases h
  | _, _, .cons a t, 0, v, h => by
    cases h
    exact ⟨_, rfl, a⟩
  | _, _, .cons a t, i + 1, v, h => paired_get' t h
theorem drop_at {α : Type} {l : List α} {i : Nat} {x : α} (h : l[i]? = some x) : l.drop i = x :: l.drop (i + 1) := by
  obtain ⟨hlt, e⟩ := List.getElem?_eq_some_iff.mp h
  rw [List.drop_eq_getElem_cons hlt, e]
section
variable {P : Program} {w : World} {K : PySem.W.Frag} {mg : Str → Option Value} {base : Heap} {CB CM : Addr}
theorem ok_judged_cuesA {f : Addr} {fd : FuncData} (F : Fun K "judged_cues" "judged_cues" s_judged_cues f fd) (m_enumerate : mg "enumerate" = none) (m_len : mg "len" = none) (m_tuple : mg "tuple" = none)
    {t : Tok} (g_MOST_CUES : mg "MOST_CUES" = some (.int 40 t)) (xB : XI P w K mg base "BadCue" "number" CB) (xM : XI P w K mg base "TooMany" "word" CM)
    (c_items_of : Cal P w K mg base 1 "items_of" (spItemsA K)) (c_cue_of : Cal P w K mg base 3 "cue_of" spCueA) : FnOk P w K mg base (L2.CX P w) 4 f fd ["length", "cues"] (spJudgedA K CB CM) := by
  obtain ⟨fIB, fdB, XB, FB, bB⟩ := xB.ex
  obtain ⟨fIM, fdM, XM, FM, bM⟩ := xM.ex
  refine F.okX sc_judged_cues (fun vs H Q E h => ?_) (fun cdv A outer s H vs Q E hr h => ?_)
  · obtain ⟨x, d, len, rfl, _⟩ := h
    rfl
  · obtain ⟨x, d, len, rfl, hx, qs, qb, qm, qy⟩ := h
    refine ⟨_, (pss_cons (ps_set (i := 2) sc_judged_cues.nd rfl (Or.inl rfl) (pe_c c_items_of hr (by decide) rfl (pa_cons (pv 1) pa_nil)))
    (pss_cons (ps_if (pt_cmpR op_isN (pv 2) (pe_non) (nomark _))
    (pss_one (ps_raise rfl (takes_of rfl rfl rfl rfl) (pmk_oex XB.ox XB.iC XB.tI FB (hr.mono (by decide)) bB .nil pass0 rfl XB.gC (pa_cons (pe_un un_neg (pe_int)) pa_nil))))
    pss_nil)
    (pss_cons (ps_set (i := 3) sc_judged_cues.nd rfl (Or.inl rfl) (pe_lst pa_nil))
    (pss_cons (ps_set (i := 4) sc_judged_cues.nd rfl (Or.inl rfl) (pe_int))
    (pss_cons (ps_for (passes_of rfl) rfl (pi_enT (by rfl) m_enumerate (pa_cons (pv 2) pa_nil)) (pg_tup rfl (pgs_cons (pg_name (i := 5) sc_judged_cues.nd rfl (Or.inl rfl)) (pgs_cons (pg_name (i := 6) sc_judged_cues.nd rfl (Or.inl rfl)) pgs_nil)))
    (pss_cons (ps_set (i := 7) sc_judged_cues.nd rfl (Or.inl rfl) (pe_c c_cue_of hr (by decide) rfl (pa_cons (pv 6) (pa_cons (pv 4) (pa_cons (pv 0) pa_nil)))))
    (pss_cons (ps_if (pt_cmpR op_isN (pv 7) (pe_non) (nomark _))
    (pss_one (ps_raise rfl (takes_of rfl rfl rfl rfl) (pmk_oex XB.ox XB.iC XB.tI FB (hr.mono (by decide)) bB .nil pass0 rfl XB.gC (pa_cons (pv 5) pa_nil))))
    pss_nil)
    (pss_cons (ps_expr (pe_bm PySem.F.plainAttrs_list PySem.F.slot_list_append PySem.F.type_list_append mt_append (pv 3) (pa_cons (pv 7) pa_nil)))
    (pss_one (ps_set (i := 4) sc_judged_cues.nd rfl (Or.inl rfl) (pe_ix ix_tup (pv 7) (pe_int) (fun _ _ => rfl))))))))
    (pss_cons (ps_if (pt_cmpR op_gt (pe_callB call_len (by rfl) m_len (by decide +kernel) (pa_cons (pv 3) pa_nil)) (pe_glob (v := .int 40) rfl g_MOST_CUES ⟨_, rfl⟩) (nomark _))
    (pss_one (ps_raise rfl (takes_of rfl rfl rfl rfl) (pmk_oex XM.ox XM.iC XM.tI FM (hr.mono (by decide)) bM .nil pass0 rfl XM.gC (pa_cons (pe_str) pa_nil))))
    pss_nil)
    (pss_one (ps_ret (pe_callTy call_tuple_of (by rfl) m_tuple (by decide +kernel) (pa_cons (pv 3) pa_nil)))))))))), ?_⟩
    rcases hx with hx | ⟨rfl, a, rfl, hdf⟩
    rotate_left
    · refine ⟨_, rfl, .ref a, rfl, .inr (.inl ⟨a, rfl, hdf, fun H1 s1 => ?_⟩)⟩
      refine ⟨_, rfl, rfl, _, rfl, Nat.zero_le _, fun D hD => ⟨_, rfl, a, [], rfl, hdf.sq, ?_⟩⟩
      refine for_it walk_enT (fun i σ H' => ∃ (k5 k6 k7 : Option V), σ = [some (.int len), some (.ref a), some (.ref a), some (.ref D), some (.int 0), k5, k6, k7] ∧ Same H1 H' ∧ H' D = some (.lst [])) ⟨none, none, none, rfl, same_new hD, upd_same⟩ (fun _ _ _ _ _ => hdf.sq) (fun i x σ Ha Hb hi => absurd hi (Nat.not_lt_zero _)) ?_
      rintro σ H' ⟨k5, k6, k7, rfl, hs, hd⟩
      refine ⟨_, rfl, _, 0, rfl, .inl ⟨_, SqL.of hd, rfl⟩, _, _, rfl, rfl, _, rfl, ite2 (fun k => absurd (of_decide_eq_true k) (by decide)) (fun k => ?_)⟩
      refine ⟨_, rfl, D, _, rfl, .inl ⟨SqL.of hd, fun l hl3 => ?_⟩⟩
      exact qy [] rfl rfl (Nat.zero_le _) _ l [] ((s1.trans hs).trans (same_new hl3)) upd_same rfl (fun _ h => nomatch h) (fun _ h => nomatch h)
    rcases hx with hx | ⟨a, xs, ds, rfl, hm, hp, hd⟩
    · refine ⟨_, rfl, x, rfl, .inl ⟨hx.plain, fun H1 s1 => ⟨_, rfl, rfl, _, rfl, 1, rfl, mk_fin XB.ox XB.no fun q hq => qs hx.seq H1 q s1 hq⟩⟩⟩
    have hs : seqD d = some ds ∧ (H a = some (.tup xs) ∨ H a = some (.lst xs)) := by
      rcases hd with ⟨e, h⟩ | ⟨_, e, h⟩
      · rw [e]; exact ⟨rfl, .inl h⟩
      · rw [e]; exact ⟨rfl, .inr h⟩
    have le := paired_len hp
    refine ⟨_, rfl, .ref a, rfl, .inr (.inr ⟨a, xs, rfl, hs.2, fun H1 it s1 h1 => ?_⟩)⟩
    refine ⟨_, rfl, rfl, _, rfl, (Nat.zero_le _), fun D hD => ?_⟩
    have h1D : (upd H1 D (.lst [])) it = some (.tup xs) := (same_new hD) _ _ h1
    refine ⟨_, rfl, it, xs, rfl, SqT.of h1D, ?_⟩
    refine for_it walk_enT (fun i σ H' => ∃ (lo : Int) (k5 k6 k7 : Option V) (L' : List (Addr × Cue)), σ = [some (.int len), some (.ref a), some (.ref it), some (.ref D), some (.int lo), k5, k6, k7] ∧ Same H1 H' ∧
      H' D = some (.lst (refsC L')) ∧ (cuesC L').map some = (ds.take i).map cueD ∧ (∀ e ∈ L', At H' e) ∧ (∀ c ∈ cuesC L', CueG c) ∧ judgeD len 0 ds = (judgeD len lo (ds.drop i)).map (· + i))
      ⟨0, none, none, none, [], rfl, same_new hD, upd_same, rfl, (fun _ h => nomatch h), (fun _ h => nomatch h), by simp⟩ (fun i σ H' _ ⟨_, _, _, _, _, _, hs, _⟩ => SqT.of (hs _ _ h1)) ?_ ?_
    · rintro i x σ Ha Hb hi ⟨lo, k5, k6, k7, L', rfl, hss, hd', hc, hat, hg, hj⟩ ⟨T, y, rfl, hT, hy, rfl⟩
      obtain ⟨dy, hdy, ry⟩ := paired_get' hp hy
      have sT := same_new (o := .tup [.int (i : Nat), y]) hT
      have s1b : Same H1 (upd Ha T (.tup [.int (i : Nat), y])) := hss.trans sT
      have dr := drop_at hdy
      have llen : L'.length ≤ i := by
        have := congrArg List.length hc
        rw [List.length_map, List.length_map, List.length_map, List.length_take] at this
        omega
      have hi60 : i < 60 := by
        have := (List.getElem?_eq_some_iff.mp hdy).1
        omega
      refine ⟨T, _, rfl, SqT.of upd_same, rfl, _, _, rfl, _, _, rfl, rfl, ?_⟩
      refine ⟨_, rfl, _, rfl, _, rfl, y, dy, lo, len, rfl, ry.keep (s1.trans s1b), fun c hc1 gc H2 t2 s2 h2 => ?_, fun no H2 s2 => ?_⟩
      · -- it stands
        refine ⟨_, rfl, rfl, _, rfl, ?_⟩
        have hd2 : H2 D = some (.lst (refsC L')) := s2 _ _ (sT _ _ hd')
        refine ⟨_, rfl, .inl ⟨rfl, _, SqL.of hd2⟩, _, rfl, D, _, _, rfl, rfl, hd2, (by rw [List.length_map]; exact small_line (by omega)), ?_⟩
        have nDt : t2 ≠ D := fun z => by rw [z, hd2] at h2; cases h2
        have h3 : (upd H2 D (.lst (refsC L' ++ [V.ref t2]))) t2 = some (.tup c.vs) := by rw [upd_ne nDt]; exact h2
        refine ⟨_, rfl, t2, _, 1, _, rfl, rfl, SqT.of h3, atI_nat (j := 1) rfl, c.e, _, _, _, L' ++ [(t2, c)], rfl, same_over (s1b.trans s2) hD, ?_, ?_, ?_, ?_, ?_⟩
        · rw [upd_same, refs_app]
          rfl
        · rw [cues_app, List.map_append, hc, List.take_add_one, hdy, List.map_append]
          show _ ++ [some c] = _ ++ [cueD dy]
          rw [hc1]
        · intro e' he'
          rcases List.mem_append.mp he' with h | h
          · have q1 := hat e' h
            have ne : e'.1 ≠ D := fun z => by
              have q2 : Ha e'.1 = some (.tup e'.2.vs) := q1
              rw [z, hd'] at q2
              cases q2
            show (upd H2 D _) e'.1 = _
            rw [upd_ne ne]
            exact s2 _ _ (sT _ _ q1)
          · rw [List.mem_singleton.mp h]
            exact h3
        · intro c' hc'
          rw [cues_app] at hc'
          rcases List.mem_append.mp hc' with h | h
          · exact hg c' h
          · rw [List.mem_singleton.mp h]
            exact ⟨gc.nm, gc.tx⟩
        · rw [hj, dr]
          show ((if okD lo len dy = true then _ else _) : Option Nat).map _ = _
          rw [if_pos (okD_of hc1 gc), Option.map_map]
          have ee : endD dy = c.e := by
            unfold endD
            rw [hc1]
          rw [ee]
          congr 1
          funext n
          show n + 1 + i = n + (i + 1)
          omega
      · -- it does not
        refine ⟨_, rfl, rfl, _, rfl, _, rfl, mk_fin XB.ox XB.no fun q hd3 => ?_⟩
        have r := qb ds i hs.1 (by
          rw [hj, dr]
          show ((if okD lo len dy = true then _ else _) : Option Nat).map _ = _
          rw [if_neg (by rw [no]; exact Bool.false_ne_true)]
          show some (0 + i) = some i
          rw [Nat.zero_add]) H2 q ((s1.trans s1b).trans s2) hd3
        exact r
    · rintro σ H' ⟨lo, k5, k6, k7, L', rfl, hss, hd', hc, hat, hg, hj⟩
      rw [le, List.drop_length] at hj
      have hj' : judgeD len 0 ds = none := hj
      rw [le, List.take_length] at hc
      have len' : L'.length = ds.length := by
        have := congrArg List.length hc
        rw [List.length_map, List.length_map, List.length_map] at this
        exact this
      refine ⟨_, rfl, _, L'.length, rfl, .inl ⟨_, SqL.of hd', (List.length_map ..).symm⟩, _, _, rfl, rfl, _, rfl, ite2 (fun k => ?_) (fun k => ?_)⟩
      · refine mk_fin XM.ox XM.no fun q hd3 => qm ds hs.1 hj' ?_ H' q (s1.trans hss) hd3
        have : (40 : Int) < (L'.length : Nat) := of_decide_eq_true k
        omega
      · refine ⟨_, rfl, D, _, rfl, .inl ⟨SqL.of hd', fun l hl3 => ?_⟩⟩
        refine qy ds hs.1 hj' ?_ _ l L' ((s1.trans hss).trans (same_new hl3)) upd_same hc (fun e he => (hat e he).keep (same_new hl3)) hg
        have : ¬ (40 : Int) < (L'.length : Nat) := fun z => k (decide_eq_true z)
        omega
end
end Sea
namespace Sea
open PySem PySem.Spec PyProof.Rows L2
/-! a reel is made, of anything -/
theorem putF_len (f : Str) (v : V) : ∀ fs : List (Str × V), (putF f v fs).length ≤ fs.length + 1
  | [] => Nat.le_refl _
  | (g, x) :: r => by
    show (if g = f then (g, v) :: r else (g, x) :: putF f v r).length ≤ _
    by_cases h : g = f
    · rw [if_pos h]
      exact Nat.le_succ _
    · rw [if_neg h]
      exact Nat.succ_le_succ (putF_len f v r)
def reelF (a b c d : V) : List (Str × V) := putF "_naming" d (putF "_speakers" c (putF "cues" b (putF "length" a [])))
theorem reel_length (a b c d : V) : (reelF a b c d).lookup ("length" : Str) = some a := by
  unfold reelF
  rw [lookup_putF, if_neg (by decide +kernel), lookup_putF, if_neg (by decide +kernel), lookup_putF, if_neg (by decide +kernel), lookup_putF, if_pos rfl]
theorem reel_cues (a b c d : V) : (reelF a b c d).lookup ("cues" : Str) = some b := by
  unfold reelF
  rw [lookup_putF, if_neg (by decide +kernel), lookup_putF, if_neg (by decide +kernel), lookup_putF, if_pos rfl]
theorem cues3 (a b c : V) : (putF "_speakers" c (putF "cues" b (putF "length" a []))).lookup ("cues" : Str) = some b := by
  rw [lookup_putF, if_neg (by decide +kernel), lookup_putF, if_pos rfl]
theorem cues2 (a b : V) : (putF "cues" b (putF "length" a [])).lookup ("cues" : Str) = some b := by
  rw [lookup_putF, if_pos rfl]
theorem ne_ins {H : Hp} {x p C dx : Addr} {fs : List (Str × V)} {o : HO} (hx : H x = some (.ins C dx fs)) (hp : H p = some o) (ho : ∀ z, o ≠ .ins C dx z) : p ≠ x := fun e => by
  rw [e, hx] at hp
  exact ho fs (Option.some.inj hp).symm
theorem few_put {f : Str} {v : V} {fs : List (Str × V)} {n : Nat} (h : fs.length ≤ n) (h2 : n + 1 ≤ 100) : (putF f v fs).length < 1000 := by
  have := putF_len f v fs
  omega
/-- a def with one default, as it stands behind the top -/
structure FunV (K : PySem.W.Frag) (x qual : Str) (st : Stmt) (f : Addr) (fd : FuncData) : Prop where
  ex : ∃ (oc : Value) (od : Option Addr) (TD : Addr) (kV doc pm : Value) (an : Option Addr) (cdv ct : Value) (osl : Array (Option Value)) (o : Obj) (d0 : Value) (n : Nat),
    fd = PySem.W.fnOf x qual (defArgs st) (defBody st) (defScope st) (.ref TD) kV doc pm an cdv ct ∧ K.lookup f = some ⟨oc, od, .func fd, osl⟩ ∧ PySem.W.codeIn K cdv qual = true ∧ K.lookup TD = some o ∧ o.data = .seq #[d0] n
theorem FunV.okX {P : Program} {w : World} {K : PySem.W.Frag} {mg : Str → Option Value} {base : Heap} {x qual : Str} {st : Stmt} {f : Addr} {fd : FuncData} {N ps : List Str} {k : Nat} {sp : Sp} (F : FunV K x qual st f fd) (S : FnScope N ps (defScope st)) (len : ∀ vs H Q E, sp vs H Q E → vs.length = ps.length)
    (hbody : ∀ (cdv : Value) (A : Around) (outer : List Env) (s : Shared) (H : Hp) (vs : List V) (Q : VK) (E : XK), Room k (A.deeper (envOfC qual (defScope st) s.heap.objs.size f cdv)) → sp vs H Q E →
      ∃ t, PSs (cxOf (L2.CX P w) P w K mg base N qual (defScope st) f cdv A outer s H E) (defBody st) t ∧ t { nx := fun _ H' => Q .non H', rt := Q } (start N vs) H) : FnOk P w K mg base (L2.CX P w) (k + 1) f fd ps sp := by
  obtain ⟨oc, od, TD, kV, doc, pm, an, cdv, ct, osl, o, d0, n, rfl, lk, hcd, _⟩ := F.ex
  exact fn_of lk hcd S len fun A outer s H vs Q E hr hsp => hbody cdv A outer s H vs Q E hr hsp
theorem reel_binds {K : PySem.W.Frag} {f : Addr} {fd : FuncData} (F : FunV K "__init__" "Reel.__init__" s_Reel___init__ f fd) : Binds K fd ["self", "length", "cues"] [] := by
  obtain ⟨oc, od, TD, kV, doc, pm, an, cdv, ct, osl, o, d0, n, rfl, lk, hcd, lT, oT⟩ := F.ex
  intro s us X hl
  rw [List.append_nil] at hl ⊢
  obtain ⟨a, b, c, rfl⟩ : ∃ a b c, us = [a, b, c] := match us, hl with | [a, b, c], _ => ⟨a, b, c, rfl⟩
  have e : ∃ k, bindArgs (PySem.W.fnOf "__init__" "Reel.__init__" (defArgs s_Reel___init__) (defBody s_Reel___init__) (defScope s_Reel___init__) (.ref TD) kV doc pm an cdv ct) ⟨[a, b, c], []⟩ = seqItems? (.ref TD) >>= k ∧
      k (some #[d0]) = pure ((["self", "length", "cues"] : List Str).zip [a, b, c]) := ⟨_, rfl, rfl⟩
  obtain ⟨k, e1, e2⟩ := e
  refine BindsTo.of_looks fun M => ?_
  rw [e1]
  exact looks_items X lT oT (.of_pure e2)
/-- a def whose one default is the empty tuple -/
structure FunVE (K : PySem.W.Frag) (x qual : Str) (st : Stmt) (f : Addr) (fd : FuncData) (aE : Addr) : Prop where
  ex : ∃ (oc : Value) (od : Option Addr) (TD : Addr) (kV doc pm : Value) (an : Option Addr) (cdv ct : Value) (osl : Array (Option Value)) (o : Obj) (n : Nat),
    fd = PySem.W.fnOf x qual (defArgs st) (defBody st) (defScope st) (.ref TD) kV doc pm an cdv ct ∧ K.lookup f = some ⟨oc, od, .func fd, osl⟩ ∧ PySem.W.codeIn K cdv qual = true ∧ K.lookup TD = some o ∧ o.data = .seq #[.ref aE] n
  df : DfT K aE
theorem FunVE.v {K : PySem.W.Frag} {x qual : Str} {st : Stmt} {f aE : Addr} {fd : FuncData} (F : FunVE K x qual st f fd aE) : FunV K x qual st f fd := by
  obtain ⟨oc, od, TD, kV, doc, pm, an, cdv, ct, osl, o, n, h⟩ := F.ex
  exact ⟨⟨oc, od, TD, kV, doc, pm, an, cdv, ct, osl, o, .ref aE, n, h⟩⟩
theorem reel_binds1 {K : PySem.W.Frag} {f aE : Addr} {fd : FuncData} (F : FunVE K "__init__" "Reel.__init__" s_Reel___init__ f fd aE) : Binds K fd ["self", "length", "cues"] [.ref aE] := by
  obtain ⟨oc, od, TD, kV, doc, pm, an, cdv, ct, osl, o, n, rfl, lk, hcd, lT, oT⟩ := F.ex
  intro s us X hl
  have hl2 : us.length = 2 := by
    rw [List.length_append] at hl
    exact Nat.succ.inj hl
  obtain ⟨a, b, rfl⟩ : ∃ a b, us = [a, b] := match us, hl2 with | [a, b], _ => ⟨a, b, rfl⟩
  have e : ∃ k, bindArgs (PySem.W.fnOf "__init__" "Reel.__init__" (defArgs s_Reel___init__) (defBody s_Reel___init__) (defScope s_Reel___init__) (.ref TD) kV doc pm an cdv ct) ⟨[a, b], []⟩ = seqItems? (.ref TD) >>= k ∧
      k (some #[.ref aE]) = pure ((["self", "length", "cues"] : List Str).zip ([a, b] ++ [.ref aE])) := ⟨_, rfl, rfl⟩
  obtain ⟨k, e1, e2⟩ := e
  refine BindsTo.of_looks fun M => ?_
  rw [e1]
  exact looks_items X lT oT (.of_pure e2)
/-- what the top has written of Reel -/
structure RC (K : PySem.W.Frag) (mg : Str → Option Value) (CR fI : Addr) : Prop where
  cl : Cls K CR
  made : Mk K CR fI
  g : mg "Reel" = some (.ref CR)
  nL : NoAttr K CR "length"
  nC : NoAttr K CR "cues"
  nS : NoAttr K CR "_speakers"
  nN : NoAttr K CR "_naming"
  kl : PySem.W.findIn K (.ref CR) "__class__" = some (some (.builtin "object.__class__"))
  gt : PySem.W.specialIn K (.builtin "object.__class__") "__get__" = some (some (.builtin "getset_descriptor.__get__"))
  tk : PySem.W.takesIn K (.builtin "object.__class__") = some true
  mr : PySem.W.mroIn K CR (.type "object") = some true
/-- lists and tuples stay -/
def KS (H H' : Hp) : Prop := ∀ a xs, (H a = some (.lst xs) → H' a = some (.lst xs)) ∧ (H a = some (.tup xs) → H' a = some (.tup xs))
theorem KS.of_kb {x C dx : Addr} {fs : List (Str × V)} {H H' : Hp} (hx : H x = some (.ins C dx fs)) (k : KB x H H') : KS H H' := fun a xs =>
  ⟨fun h => k _ _ (ne_ins hx h fun z e => by cases e) h, fun h => k _ _ (ne_ins hx h fun z e => by cases e) h⟩
theorem Th.ks {l : Bool} : ∀ {ms : List Nat} {H H' : Hp} {x : V} {d : PyData}, Th l ms H x d → KS H H' → Th l ms H' x d
  | [], _, _, _, _, h, _ => h
  | m :: r, H, H', x, d, h, s => by
    rcases h with h | ⟨a, xs, ds, h1, h2, h3, h4⟩
    · exact .inl h
    · refine .inr ⟨a, xs, ds, h1, h2, paired_imp (fun _ _ q => q.ks s) h3, ?_⟩
      rcases h4 with ⟨e, h⟩ | ⟨e1, e, h⟩
      · exact .inl ⟨e, (s _ _).2 h⟩
      · exact .inr ⟨e1, e, (s _ _).1 h⟩
structure SpeakS (cs : List Cue) (zs : List Str) : Prop where
  nd : zs.Nodup
  st : sortedS zs = true
  mem : ∀ k, k ∈ zs ↔ k ∈ cs.map (·.nm)
def nameB (c : Cue) : Bool := Txt.startswith c.tx (c.nm ++ Str.ofString ":")
def namesAt (cs : List Cue) (i : Nat) : Bool :=
  match cs[i]? with
  | some c => nameB c
  | none => false
def namingTo (cs : List Cue) (n : Nat) : List Nat := (List.range n).filter (namesAt cs)
/-- the reel at x -/
def ReelAt (H : Hp) (CR x : Addr) (len : Int) (L : List (Addr × Cue)) : Prop := ∃ (dx t sp nm : Addr) (zs : List Str), H x = some (.ins CR dx (reelF (.int len) (.ref t) (.ref sp) (.ref nm))) ∧ H t = some (.tup (refsC L)) ∧ (∀ e ∈ L, At H e) ∧
  H sp = some (.tup (zs.map V.str)) ∧ SpeakS (cuesC L) zs ∧ H nm = some (.tup ((namingTo (cuesC L) L.length).map fun n => V.int (n : Nat)))
theorem ReelAt.keep {H H' : Hp} {CR x : Addr} {len : Int} {L : List (Addr × Cue)} (h : ReelAt H CR x len L) (s : Same H H') : ReelAt H' CR x len L := by
  obtain ⟨dx, t, sp, nm, zs, h1, h2, h3, h4, h5, h6⟩ := h
  exact ⟨dx, t, sp, nm, zs, s _ _ h1, s _ _ h2, fun e he => (h3 e he).keep s, s _ _ h4, h5, s _ _ h6⟩
noncomputable def spReelA (K : PySem.W.Frag) (CR CB CM CLn : Addr) : Sp := fun vs H Q E => ∃ (x dx : Addr) (lx cx : V) (ld cd : PyData), vs = [.ref x, lx, cx] ∧ H x = some (.ins CR dx []) ∧ Th true [1] H lx ld ∧ ArgC K H cx cd ∧
  (inside lx 1 2000 = false → ∀ H' q, KB x H H' → H' q = none → E (.ref CLn) (some q) (upd H' q (.xd [(("length" : Str), lx)]))) ∧
  (∀ len, lx = .int len → 1 ≤ len → len ≤ 2000 →
    (seqD cd = none → ∀ H' q, KB x H H' → H' q = none → E (.ref CB) (some q) (upd H' q (.xd [(("number" : Str), .int (-1))]))) ∧
    (∀ ds k, seqD cd = some ds → judgeD len 0 ds = some k → ∀ H' q, KB x H H' → H' q = none → E (.ref CB) (some q) (upd H' q (.xd [(("number" : Str), .int (k : Nat))]))) ∧
    (∀ ds, seqD cd = some ds → judgeD len 0 ds = none → 40 < ds.length → ∀ H' q, KB x H H' → H' q = none → E (.ref CM) (some q) (upd H' q (.xd [(("word" : Str), .str (Str.ofString "cue"))]))) ∧
    (∀ ds, seqD cd = some ds → judgeD len 0 ds = none → ds.length ≤ 40 → ∀ H' L, KB x H H' → ReelAt H' CR x len L → (cuesC L).map some = ds.map cueD → (∀ c ∈ cuesC L, CueG c) → Q .non H'))
section
variable {P : Program} {w : World} {K : PySem.W.Frag} {mg : Str → Option Value} {base : Heap} {CB CM CR CLn fI : Addr}
theorem ok_reelA {f : Addr} {fd : FuncData} (F : FunV K "__init__" "Reel.__init__" s_Reel___init__ f fd) (m_enumerate : mg "enumerate" = none) (m_tuple : mg "tuple" = none) (m_sorted : mg "sorted" = none) (m_set : mg "set" = none)
    {t : Tok} (g_MOST_TICKS : mg "MOST_TICKS" = some (.int 2000 t)) (T : RC K mg CR fI) (xL : XI P w K mg base "BadLength" "length" CLn) (c_is_within : Cal P w K mg base 2 "is_within" spWithinA) (c_judged_cues : CalX P w K mg base 4 "judged_cues" (spJudgedA K CB CM)) :
    FnOk P w K mg base (L2.CX P w) 5 f fd ["self", "length", "cues"] (spReelA K CR CB CM CLn) := by
  obtain ⟨fIL, fdL, XL, FL, bL⟩ := xL.ex
  refine F.okX sc_Reel___init__ (fun vs H Q E h => ?_) (fun cdv A outer s H vs Q E hr h => ?_)
  · obtain ⟨x, dx, lx, cx, ld, cd, rfl, _⟩ := h
    rfl
  · obtain ⟨x, dx, lx, cx, ld, cd, rfl, hx, hl, hc, qL, qq⟩ := h
    refine ⟨_, (pss_cons (ps_if (pt_not (pt_val (pe_c c_is_within hr (by decide) rfl (pa_cons (pv 1) (pa_cons (pe_int) (pa_cons (pe_glob (v := .int 2000) rfl g_MOST_TICKS ⟨_, rfl⟩) pa_nil))))))
    (pss_one (ps_raise rfl (takes_of rfl rfl rfl rfl) (pmk_oex XL.ox XL.iC XL.tI FL (hr.mono (by decide)) bL .nil pass0 rfl XL.gC (pa_cons (pv 1) pa_nil))))
    pss_nil)
    (pss_cons (ps_fld (pv 0) (pv 1) rfl)
    (pss_cons (ps_fld (tv := tCallSD (spJudgedA K CB CM) [] (WE fun cls d _ H => E cls d H) (tCons (tVar 1) (tCons (tVar 2) tNil))) (pv 0) (by
          refine pe_cX (k := 4) (j := 4) (sp := spJudgedA K CB CM) ?_ ?_ ?_ ?_ ?_ ?_
          · exact c_judged_cues
          · exact hr
          · decide
          · rfl
          · exact (fun σ => passAt (takes_of rfl rfl rfl rfl) σ)
          · exact (pa_cons (pv 1) (pa_cons (pv 2) pa_nil))) rfl)
    (pss_cons (ps_fld (pv 0) (pe_callTy call_tuple_of (by rfl) m_tuple (by decide +kernel) (pa_cons (pe_callB (cr_sortedSetT rfl) (by rfl) m_sorted (by decide +kernel) (pa_cons (pe_callTy (cr_setT rfl) (by rfl) m_set (by decide +kernel) (pa_cons (pe_lc (own := [("cue", 3)]) rfl sc_Reel___init__.nd (pi_tup (pe_fld (pv 0) rfl)) (blkOk_by (N := N_Reel___init__) (sc := defScope s_Reel___init__) (by decide +kernel)) (fun _ _ _ _ _ => (pg_name (i := 3) sc_Reel___init__.nd rfl (Or.inl rfl))) (fun _ _ _ _ _ => pts_nil) (fun _ _ _ _ _ => (pe_ix (show IxR _ (rIxT K) from ix_tup) (pv 3) (pe_int) (fun _ _ => rfl)))) pa_nil)) pa_nil)) pa_nil)) rfl)
    (pss_one (ps_fld (pv 0) (pe_callTy call_tuple_of (by rfl) m_tuple (by decide +kernel) (pa_cons (pe_lc (own := [("number", 4), ("cue", 3)]) (g := gTup K 2 (gCons (gName 4) (gCons (gName 3) gNil))) rfl sc_Reel___init__.nd (pi_enT (by rfl) m_enumerate (pa_cons (pe_fld (pv 0) rfl) pa_nil)) (blkOk_by (N := N_Reel___init__) (sc := defScope s_Reel___init__) (by decide +kernel)) (fun _ _ _ _ _ => by exact (pg_tup rfl (pgs_cons (pg_name (i := 4) sc_Reel___init__.nd rfl (Or.inl rfl)) (pgs_cons (pg_name (i := 3) sc_Reel___init__.nd rfl (Or.inl rfl)) pgs_nil)))) (fun _ _ _ _ _ => pts_one (pt_val (show PE _ _ (tBM K "str" _ _ _) from pe_bm PySem.F.plainAttrs_str PySem.F.slot_str_startswith PySem.F.type_str_startswith mt_startswith (pe_ix (show IxR _ (rIxT K) from ix_tup) (pv 3) (pe_int) (fun _ _ => rfl)) (pa_cons (pe_op op_add_str (pe_ix (show IxR _ (rIxT K) from ix_tup) (pv 3) (pe_int) (fun _ _ => rfl)) (pe_str)) pa_nil)))) (fun _ _ _ _ _ => (pv 4))) pa_nil)) rfl)))))), ?_⟩
    refine ⟨_, rfl, lx, 1, 2000, rfl, hl.any, _, rfl, ?_⟩
    cases hI : inside lx 1 2000 with
    | false => exact ⟨_, rfl, mk_fin XL.ox XL.no fun q hq => qL hI H q (KB.refl x H) hq⟩
    | true =>
    obtain ⟨len, rfl, l1, l2⟩ : ∃ len, lx = .int len ∧ 1 ≤ len ∧ len ≤ 2000 := by
      cases lx with
      | int i =>
        have : (decide (1 ≤ i) && decide (i ≤ 2000)) = true := hI
        rw [Bool.and_eq_true] at this
        exact ⟨i, rfl, of_decide_eq_true this.1, of_decide_eq_true this.2⟩
      | _ => cases hI
    obtain ⟨qs, qb, qm, qy⟩ := qq len rfl l1 l2
    refine ⟨_, rfl, _, rfl, x, CR, dx, [], rfl, hx, T.cl, T.nL, (by decide : 0 < 1000), ?_⟩
    have k1 : KB x H (upd H x (.ins CR dx (putF "length" (.int len) []))) := (KB.refl x H).set
    refine ⟨_, rfl, _, rfl, cx, cd, len, rfl, hc.imp (fun h => h.ks (.of_kb hx k1)) (fun h => h), fun hn H' q s2 hq => qs hn H' q (k1.trans (.of_same s2)) hq, fun ds k hs hk H' q s2 hq => qb ds k hs hk H' q (k1.trans (.of_same s2)) hq, fun ds hs hk hm H' q s2 hq => qm ds hs hk hm H' q (k1.trans (.of_same s2)) hq, fun ds hs hj hle H2 t2 L2 s2 h2 hcs hat hg => ?_⟩
    have k2 := k1.trans (.of_same s2)
    have hx2 := s2 x _ upd_same
    have nt2 : t2 ≠ x := ne_ins hx2 h2 fun z e => by cases e
    have nL2 : ∀ e ∈ L2, e.1 ≠ x := fun e he => ne_ins hx2 (hat e he) fun z q => by cases q
    have lds : L2.length = ds.length := by
      have := congrArg List.length hcs
      rw [List.length_map, List.length_map, List.length_map] at this
      exact this
    have lL2 : L2.length ≤ 40 := by omega
    refine ⟨_, rfl, x, CR, dx, _, rfl, hx2, T.cl, T.nC, few_put (n := 0) (Nat.le_refl 0) (by decide), ?_⟩
    have k3 : KB x H2 (upd H2 x (.ins CR dx (putF "cues" (.ref t2) (putF "length" (.int len) [])))) := (KB.refl x H2).set
    have h3 := k3 t2 _ nt2 h2
    have at3 : ∀ e ∈ L2, At (upd H2 x (.ins CR dx (putF "cues" (.ref t2) (putF "length" (.int len) [])))) e := fun e he => k3 _ _ (nL2 e he) (hat e he)
    generalize hH3 : (upd H2 x (.ins CR dx (putF "cues" (.ref t2) (putF "length" (.int len) [])))) = H3 at k3 h3 at3 ⊢
    have hx3 : H3 x = some (.ins CR dx (putF "cues" (.ref t2) (putF "length" (.int len) []))) := by rw [← hH3]; exact upd_same
    have k03 := k2.trans k3
    -- the speakers
    refine ⟨_, rfl, x, CR, dx, _, _, rfl, hx3, T.cl, T.nC, cues2 _ _, t2, rfl, ⟨_, SqT.of h3⟩, fun D hD => ?_⟩
    refine lc_it walk_tup (fun i H' => Same H3 H' ∧ H' D = some (.lst ((((cuesC L2).take i).map (·.nm)).map V.str))) ⟨same_new hD, upd_same⟩ (fun i H' _ hq => SqT.of (hq.1 _ _ h3)) ?_ ?_
    · rintro i y Ha Hb hi ⟨hs, hd⟩ ⟨rfl, hy⟩
      have hi' : i < L2.length := by rw [List.length_map] at hi; exact hi
      obtain ⟨e, he, rfl⟩ : ∃ e, L2[i]? = some e ∧ y = V.ref e.1 := by
        rw [List.getElem?_map, List.getElem?_eq_getElem hi'] at hy
        exact ⟨L2[i], List.getElem?_eq_getElem hi', (Option.some.inj hy).symm⟩
      have hA := hs _ _ (at3 e (List.mem_of_getElem? he))
      have he2 : (cuesC L2)[i]? = some e.2 := by rw [List.getElem?_map, he]; rfl
      refine ⟨rfl, _, rfl, e.1, _, 2, _, rfl, rfl, SqT.of hA, atI_nat (j := 2) rfl, _, hd, ?_, same_over hs hD, ?_⟩
      · rw [List.length_map, List.length_map, List.length_take, List.length_map]
        exact small_line (by omega)
      · rw [upd_same, List.take_add_one, he2, List.map_append, List.map_append]
        rfl
    rintro H4 ⟨s4, hd⟩
    have lr : (refsC L2).length = (cuesC L2).length := by rw [List.length_map, List.length_map]
    have lc2 : (cuesC L2).length = L2.length := List.length_map ..
    rw [lr, List.take_length] at hd
    have l64 : ((cuesC L2).map (·.nm)).length < 64 := by rw [List.length_map, lc2]; omega
    refine ⟨D, _, rfl, SqL.of hd, by omega, fun p hp => ⟨p, _, rfl, upd_same, l64, fun zs p2 z1 z2 z3 z4 hp2 => ⟨p2, _, rfl, .inl ⟨SqL.of upd_same, fun l hl => ?_⟩⟩⟩⟩
    have s5 := ((s4.trans (same_new hp)).trans (same_new hp2)).trans (same_new (o := .tup (zs.map V.str)) hl)
    have hx5 := s5 _ _ hx3
    generalize hH5 : (upd _ l (.tup (zs.map V.str))) = H5 at s5 hx5 ⊢
    have hl5 : H5 l = some (.tup (zs.map V.str)) := by rw [← hH5]; exact upd_same
    have nlx : l ≠ x := ne_ins hx5 hl5 fun z e => by cases e
    refine ⟨_, rfl, x, CR, dx, _, rfl, hx5, T.cl, T.nS, few_put (n := 1) (putF_len _ _ _) (by decide), ?_⟩
    have k6 := (KB.of_same s5 : KB x H3 _).set (o := .ins CR dx (putF "_speakers" (.ref l) (putF "cues" (.ref t2) (putF "length" (.int len) []))))
    have h6 := k6 t2 _ nt2 h3
    have at6 := fun e (he : e ∈ L2) => k6 _ _ (nL2 e he) (at3 e he)
    have hl6 : (upd H5 x (.ins CR dx (putF "_speakers" (.ref l) (putF "cues" (.ref t2) (putF "length" (.int len) []))))) l = some (.tup (zs.map V.str)) := by
      rw [upd_ne nlx]
      exact hl5
    generalize hH6 : (upd _ x (.ins CR dx (putF "_speakers" (.ref l) (putF "cues" (.ref t2) (putF "length" (.int len) []))))) = H6 at k6 h6 at6 hl6 ⊢
    have hx6 : H6 x = some (.ins CR dx (putF "_speakers" (.ref l) (putF "cues" (.ref t2) (putF "length" (.int len) [])))) := by rw [← hH6]; exact upd_same
    -- who is named
    refine ⟨_, rfl, x, CR, dx, _, _, rfl, hx6, T.cl, T.nC, cues3 _ _ _, t2, _, rfl, SqT.of h6, fun D2 hD2 => ?_⟩
    refine lc_it walk_enT (fun i H' => Same H6 H' ∧ H' D2 = some (.lst ((namingTo (cuesC L2) i).map fun n => V.int (n : Nat)))) ⟨same_new hD2, upd_same⟩ (fun i H' _ hq => SqT.of (hq.1 _ _ h6)) ?_ ?_
    · rintro i y Ha Hb hi ⟨hs, hd2⟩ ⟨T2, v, rfl, hT2, hv, rfl⟩
      have hi' : i < L2.length := by rw [List.length_map] at hi; exact hi
      obtain ⟨e, he, rfl⟩ : ∃ e, L2[i]? = some e ∧ v = V.ref e.1 := by
        rw [List.getElem?_map, List.getElem?_eq_getElem hi'] at hv
        exact ⟨L2[i], List.getElem?_eq_getElem hi', (Option.some.inj hv).symm⟩
      have hme := List.mem_of_getElem? he
      have sT := same_new (o := .tup [.int (i : Nat), V.ref e.1]) hT2
      have hA := sT _ _ (hs _ _ (at6 e hme))
      have hd3 := sT _ _ hd2
      have s7 := hs.trans sT
      have he2 : (cuesC L2)[i]? = some e.2 := by rw [List.getElem?_map, he]; rfl
      have na : namesAt (cuesC L2) i = nameB e.2 := by
        unfold namesAt
        rw [he2]
      have up : namingTo (cuesC L2) (i + 1) = namingTo (cuesC L2) i ++ (if nameB e.2 = true then [i] else []) := by
        unfold namingTo
        rw [List.range_succ, List.filter_append]
        congr 1
        show (List.filter (namesAt (cuesC L2)) [i]) = _
        rw [List.filter_cons, na]
        rfl
      have few : (namingTo (cuesC L2) i).length ≤ i := by
        have := List.length_filter_le (namesAt (cuesC L2)) (List.range i)
        rw [List.length_range] at this
        exact this
      refine ⟨T2, _, rfl, SqT.of upd_same, rfl, _, _, rfl, _, _, rfl, rfl, rfl, _, rfl, e.1, _, 3, _, rfl, rfl, SqT.of hA, atI_nat (j := 3) rfl, rfl, _, rfl, e.1, _, 2, _, rfl, rfl, SqT.of hA, atI_nat (j := 2) rfl, _, _, rfl, rfl, ?_, _, _, rfl, rfl, _, rfl, ite2 (fun nb => ?_) (fun nb => ?_)⟩
      · have W := hg e.2 (List.mem_of_getElem? he2)
        have m8 := W.nm.most
        rw [cp_len] at m8
        have c1 : (Str.ofString ":").length = 1 := by decide +kernel
        rw [c1]
        exact Nat.le_of_lt (small1000 (by omega))
      · refine ⟨_, rfl, _, hd3, small_line (by rw [List.length_map]; omega), same_over s7 hD2, ?_⟩
        have nb' : nameB e.2 = true := nb
        rw [upd_same, up, if_pos nb', List.map_append]
        rfl
      · refine ⟨s7, ?_⟩
        have nb' : ¬ nameB e.2 = true := nb
        rw [up, if_neg nb', List.append_nil]
        exact hd3
    rintro H7 ⟨s7, hd2⟩
    have lr3 : (refsC L2).length = L2.length := List.length_map ..
    rw [lr3] at hd2
    refine ⟨D2, _, rfl, .inl ⟨SqL.of hd2, fun l2 hl2 => ?_⟩⟩
    have s8 := s7.trans (same_new (o := .tup ((namingTo (cuesC L2) L2.length).map fun n => V.int (n : Nat))) hl2)
    have hx8 := s8 _ _ hx6
    have hl8 : (upd H7 l2 (.tup ((namingTo (cuesC L2) L2.length).map fun n => V.int (n : Nat)))) l2 = some (.tup ((namingTo (cuesC L2) L2.length).map fun n => V.int (n : Nat))) := upd_same
    have nl2 : l2 ≠ x := ne_ins hx8 hl8 fun z e => by cases e
    refine ⟨_, rfl, x, CR, dx, _, rfl, hx8, T.cl, T.nN, few_put (n := 2) (Nat.le_trans (putF_len _ _ _) (Nat.succ_le_succ (putF_len _ _ _))) (by decide), ?_⟩
    have k9 : KB x H6 _ := (KB.of_same s8).set (o := .ins CR dx (reelF (.int len) (.ref t2) (.ref l) (.ref l2)))
    refine qy ds hs hj hle _ L2 ((k03.trans k6).trans k9) ⟨dx, t2, l, l2, zs, upd_same, k9 _ _ nt2 h6, fun e he => k9 _ _ (nL2 e he) (at6 e he), k9 _ _ nlx hl6, ⟨z1, z2, z3⟩, ?_⟩ hcs hg
    show (upd _ x _) l2 = _
    rw [upd_ne nl2]
    exact hl8
end
end Sea
namespace Sea
open PySem PySem.Spec PyProof.Rows L2
/-! the data of cues -/
def cuP (c : Cue) : PyData := .tuple [.int c.s, .int c.e, .str c.nm, .str c.tx]
def cusP (cs : List Cue) : PyData := .tuple (cs.map cuP)
/-- what a text's signs are -/
def AscS (z : Str) : Prop := ∀ c ∈ cp z, c < 1114112
theorem asc_ok {z : Str} (h : AscS z) : (PyData.str z).canLay0 = true := by
  show (z.cps.all (· < 0x110000)) = true
  rw [Array.all_eq_true_iff_forall_mem]
  intro c hc
  exact decide_eq_true (h c (Array.mem_toList_iff.mpr hc))
theorem cue_lay {c : Cue} (h1 : AscS c.nm) (h2 : AscS c.tx) : (cuP c).canLay0 = true := by
  show (PyData.canLay0 (.int c.s) && (PyData.canLay0 (.int c.e) && (PyData.canLay0 (.str c.nm) && (PyData.canLay0 (.str c.tx) && true)))) = true
  rw [asc_ok h1, asc_ok h2]
  rfl
theorem cues_lay : ∀ {cs : List Cue}, (∀ c ∈ cs, AscS c.nm ∧ AscS c.tx) → PyData.canLayAll0 (cs.map cuP) = true
  | [], _ => rfl
  | c :: r, h => by
    show (PyData.canLay0 (cuP c) && PyData.canLayAll0 (r.map cuP)) = true
    rw [cue_lay (h c List.mem_cons_self).1 (h c List.mem_cons_self).2, cues_lay fun d hd => h d (List.mem_cons_of_mem _ hd)]
    rfl
theorem cues_depth : ∀ cs : List Cue, PyData.depthAll (cs.map cuP) ≤ 1
  | [] => Nat.zero_le _
  | c :: r => by
    show max (PyData.depth (cuP c)) (PyData.depthAll (r.map cuP)) ≤ 1
    have h1 : PyData.depth (cuP c) = 1 := rfl
    have h2 := cues_depth r
    omega
theorem cues_shaped {cs : List Cue} (h : ∀ c ∈ cs, AscS c.nm ∧ AscS c.tx) : SeqAt.shaped (cusP cs) = true := by
  show (PyData.canLayAll0 (cs.map cuP) && decide (PyData.depthAll (cs.map cuP) + 1 ≤ 64)) = true
  have := cues_depth cs
  rw [cues_lay h, decide_eq_true (by omega)]
  rfl
theorem cue_eqv (c d : Cue) : PyData.eqv (cuP c) (cuP d) = decide (c = d) := by
  show ((c.s == d.s) && ((c.e == d.e) && ((c.nm == d.nm) && ((c.tx == d.tx) && true)))) = _
  obtain ⟨a1, a2, a3, a4⟩ := c
  obtain ⟨b1, b2, b3, b4⟩ := d
  by_cases h : (⟨a1, a2, a3, a4⟩ : Cue) = ⟨b1, b2, b3, b4⟩
  · cases h
    simp
  · rw [decide_eq_false h, Bool.eq_false_iff]
    intro q
    simp only [Bool.and_true, Bool.and_eq_true, beq_iff_eq] at q
    exact h (by rw [q.1, q.2.1, q.2.2.1, q.2.2.2])
open Classical in
theorem cues_eqv : ∀ cs ds : List Cue, PyData.eqvAll (cs.map cuP) (ds.map cuP) = decide (cs = ds)
  | [], [] => rfl
  | [], d :: r => (decide_eq_false (by simp)).symm
  | c :: r, [] => (decide_eq_false (by simp)).symm
  | c :: r, d :: q => by
    show (PyData.eqv (cuP c) (cuP d) && PyData.eqvAll (r.map cuP) (q.map cuP)) = _
    rw [cue_eqv, cues_eqv r q]
    by_cases h1 : c = d
    · by_cases h2 : r = q
      · subst h1 h2
        simp
      · rw [decide_eq_false h2, Bool.and_false, decide_eq_false (fun e => h2 (List.cons.inj e).2)]
    · rw [decide_eq_false h1, Bool.false_and, decide_eq_false (fun e => h1 (List.cons.inj e).1)]
theorem dp_cues {K : PySem.W.Frag} {H : Hp} : ∀ {L : List (Addr × Cue)}, (∀ e ∈ L, At H e) → DpAll K H (refsC L) ((cuesC L).map cuP)
  | [], _ => .nil
  | e :: r, h => .cons (.tup (SqT.of (h e List.mem_cons_self)) (.cons (.int _) (.cons (.int _) (.cons (.str _) (.cons (.str _) .nil))))) (dp_cues fun d hd => h d (List.mem_cons_of_mem _ hd))
theorem dp_strs {K : PySem.W.Frag} {H : Hp} : ∀ ss : List Str, DpAll K H (ss.map V.str) (ss.map .str)
  | [] => .nil
  | a :: r => .cons (.str a) (dp_strs r)
/-! what a reel tells -/
theorem asc_nmG {c : Cue} (W : CueG c) : AscS c.nm := fun k hk => by
  have := W.nm.sign k hk
  omega
theorem asc_txG {c : Cue} (W : CueG c) : AscS c.tx := fun k hk => by
  have := W.tx.sign k hk
  omega
def spReelEq (CR : Addr) : Sp := fun vs H Q _ => ∃ (a b : Addr) (la lb : Int) (La Lb : List (Addr × Cue)), vs = [.ref a, .ref b] ∧ ReelAt H CR a la La ∧ ReelAt H CR b lb Lb ∧ (∀ c ∈ cuesC La, CueG c) ∧ (∀ c ∈ cuesC Lb, CueG c) ∧
  Q (.bl (decide (la = lb ∧ cuesC La = cuesC Lb))) H
section
variable {P : Program} {w : World} {K : PySem.W.Frag} {mg : Str → Option Value} {base : Heap} {CR CB fR : Addr}
theorem ok_reel_eqA {f : Addr} {fd : FuncData} (F : Fun K "__eq__" "Reel.__eq__" s_Reel___eq__ f fd) (T : RC K mg CR fR) (m_isinstance : mg "isinstance" = none) : FnOk P w K mg base CX0 1 f fd ["self", "other"] (spReelEq CR) := by
  refine F.ok sc_Reel___eq__ (fun vs H Q E h => ?_) (fun cdv A outer s H vs Q E hr h => ?_)
  · obtain ⟨a, b, la, lb, La, Lb, rfl, _⟩ := h
    rfl
  · obtain ⟨a, b, la, lb, La, Lb, rfl, ⟨dx, t, c, d, zs, hx, ht, hat, _⟩, ⟨dy, u, c', d', ys, hy, hu, hbt, _⟩, ga, gb, q⟩ := h
    have sa : ∀ c ∈ cuesC La, AscS c.nm ∧ AscS c.tx := fun c hc => ⟨asc_nmG (ga c hc), asc_txG (ga c hc)⟩
    have sb : ∀ c ∈ cuesC Lb, AscS c.nm ∧ AscS c.tx := fun c hc => ⟨asc_nmG (gb c hc), asc_txG (gb c hc)⟩
    refine ⟨_, (pss_one (ps_ret (pe_and (pe_callB call_isi (by rfl) m_isinstance (by decide +kernel) (pa_cons (pv 1) (pa_cons (pe_glob (v := .ref CR) rfl T.g rfl) pa_nil))) (pe_and (pe_cmpR op_eq (pe_fld (pv 0) rfl) (pe_fld (pv 1) rfl) (nomark _)) (pe_one (pe_cmpR (op_eqD hr.units) (pe_fld (pv 0) rfl) (pe_fld (pv 1) rfl) (nomark _))))))), ?_⟩
    refine ⟨_, rfl, _, _, _, _, true, rfl, .own CR, .base (.ins hy T.cl T.kl T.gt T.tk T.mr), if_pos (beq_self_eq_true _), true, rfl, iteT ?_⟩
    refine ⟨_, rfl, a, CR, dx, _, _, rfl, hx, T.cl, T.nL, reel_length _ _ _ _, _, rfl, b, CR, dy, _, _, rfl, hy, T.cl, T.nL, reel_length _ _ _ _, rfl, ?_⟩
    by_cases hl : la = lb
    · rw [decide_eq_true (congrArg V.int hl)]
      refine ⟨true, rfl, iteT ⟨_, rfl, a, CR, dx, _, _, rfl, hx, T.cl, T.nC, reel_cues _ _ _ _, _, rfl, b, CR, dy, _, _, rfl, hy, T.cl, T.nC, reel_cues _ _ _ _, cusP (cuesC La), cusP (cuesC Lb), .tup (SqT.of ht) (dp_cues hat), .tup (SqT.of hu) (dp_cues hbt), cues_shaped sa, cues_shaped sb, ?_⟩⟩
      have e : PyData.eqv (cusP (cuesC La)) (cusP (cuesC Lb)) = decide (la = lb ∧ cuesC La = cuesC Lb) := by
        show PyData.eqvAll _ _ = _
        rw [cues_eqv]
        by_cases h : cuesC La = cuesC Lb
        · rw [decide_eq_true h, decide_eq_true ⟨hl, h⟩]
        · rw [decide_eq_false h, decide_eq_false fun z => h z.2]
      rw [e]
      exact q
    · rw [decide_eq_false (fun z => hl (V.int.inj z))]
      rw [decide_eq_false (fun z : la = lb ∧ _ => hl z.1)] at q
      exact ⟨false, rfl, iteF q⟩
end
end Sea
namespace Sea
open PySem PySem.Spec PyProof.Rows L2
/-! a reel made of good cues -/
mutual
def tupD : PyData → PyData
  | .list xs => .tuple (tupDs xs)
  | .tuple xs => .tuple (tupDs xs)
  | .dict kvs => .dict kvs
  | .none => .none
  | .bool b => .bool b
  | .int i => .int i
  | .str z => .str z
def tupDs : List PyData → List PyData
  | [] => []
  | x :: xs => tupD x :: tupDs xs
end
theorem tupDs_map : ∀ ds : List PyData, tupDs ds = ds.map tupD
  | [] => rfl
  | d :: r => congrArg (tupD d :: ·) (tupDs_map r)
theorem tupD_seq {d : PyData} {ds : List PyData} (h : seqD d = some ds) : tupD d = .tuple (ds.map tupD) := by
  cases d with
  | tuple xs => rw [← tupDs_map]; cases h; rfl
  | list xs => rw [← tupDs_map]; cases h; rfl
  | _ => cases h
theorem tupD_int {d : PyData} {i : Int} (h : tupD d = .int i) : d = .int i := by
  cases d with
  | int j => exact h
  | tuple ds => cases h
  | list ds => cases h
  | dict ds => cases h
  | none => cases h
  | bool b => cases h
  | str z => cases h
theorem tupD_str {d : PyData} {i : Str} (h : tupD d = .str i) : d = .str i := by
  cases d with
  | int j => cases h
  | tuple ds => cases h
  | list ds => cases h
  | dict ds => cases h
  | none => cases h
  | bool b => cases h
  | str z => exact h
theorem cueD_tup {d : PyData} {c : Cue} : cueD d = some c ↔ tupD d = cuP c := by
  constructor
  · intro h
    rw [tupD_seq (cueD_parts h)]
    rfl
  · intro h
    have hs : ∃ ds, seqD d = some ds := by
      cases d with
      | tuple ds => exact ⟨ds, rfl⟩
      | list ds => exact ⟨ds, rfl⟩
      | int j => cases h
      | dict ds => cases h
      | none => cases h
      | bool b => cases h
      | str z => cases h
    obtain ⟨ds, hs⟩ := hs
    rw [tupD_seq hs] at h
    have h2 : ds.map tupD = [.int c.s, .int c.e, .str c.nm, .str c.tx] := PyData.tuple.inj h
    have l4 : ds.length = 4 := by
      have := congrArg List.length h2
      rw [List.length_map] at this
      exact this
    obtain ⟨a, b, n, t, rfl⟩ : ∃ a b n t, ds = [a, b, n, t] := match ds, l4 with | [a, b, n, t], _ => ⟨a, b, n, t, rfl⟩
    obtain ⟨e1, h2⟩ := List.cons.inj h2
    obtain ⟨e2, h2⟩ := List.cons.inj h2
    obtain ⟨e3, h2⟩ := List.cons.inj h2
    obtain ⟨e4, h2⟩ := List.cons.inj h2
    have e1 := tupD_int e1
    have e2 := tupD_int e2
    have e3 := tupD_str e3
    have e4 := tupD_str e4
    subst e1 e2 e3 e4
    unfold cueD
    rw [hs]
theorem same_none {H H' : Hp} {a : Addr} (s : Same H H') (h : H' a = none) : H a = none := by
  cases e : H a with
  | none => rfl
  | some o => rw [s _ _ e] at h; cases h
def lenOf : V → Int
  | .int i => i
  | _ => 0
/-- what is due: which error, what it is told with -/
noncomputable def dueK (lx : V) (cd : PyData) : Option (Nat × V) :=
  if inside lx 1 2000 = false then some (0, lx) else
    match seqD cd with
    | none => some (1, .int (-1))
    | some ds =>
      match judgeD (lenOf lx) 0 ds with
      | some k => some (1, .int (k : Nat))
      | none => if 40 < ds.length then some (2, .str (Str.ofString "cue")) else none
theorem due_len {lx : V} {cd : PyData} (h : inside lx 1 2000 = false) : dueK lx cd = some (0, lx) := if_pos h
theorem due_not {i : Int} {cd : PyData} (h : inside (.int i) 1 2000 = true) (hs : seqD cd = none) : dueK (.int i) cd = some (1, .int (-1)) := by
  unfold dueK
  rw [if_neg (by rw [h]; simp), hs]
theorem due_cue {i : Int} {cd : PyData} {ds : List PyData} {k : Nat} (h : inside (.int i) 1 2000 = true) (hs : seqD cd = some ds) (hj : judgeD i 0 ds = some k) : dueK (.int i) cd = some (1, .int (k : Nat)) := by
  unfold dueK
  rw [if_neg (by rw [h]; simp), hs]
  show (match judgeD i 0 ds with | some k => _ | none => _) = _
  rw [hj]
theorem due_many {i : Int} {cd : PyData} {ds : List PyData} (h : inside (.int i) 1 2000 = true) (hs : seqD cd = some ds) (hj : judgeD i 0 ds = none) (hl : 40 < ds.length) : dueK (.int i) cd = some (2, .str (Str.ofString "cue")) := by
  unfold dueK
  rw [if_neg (by rw [h]; simp), hs]
  show (match judgeD i 0 ds with | some k => _ | none => _) = _
  rw [hj]
  exact if_pos hl
theorem due_none {i : Int} {cd : PyData} {ds : List PyData} (h : inside (.int i) 1 2000 = true) (hs : seqD cd = some ds) (hj : judgeD i 0 ds = none) (hl : ds.length ≤ 40) : dueK (.int i) cd = none := by
  unfold dueK
  rw [if_neg (by rw [h]; simp), hs]
  show (match judgeD i 0 ds with | some k => _ | none => _) = _
  rw [hj]
  exact if_neg (by omega)
/-- Reel(lx, cx) -/
theorem reel_reads {K : PySem.W.Frag} {CR CB CM CLn : Addr} {H1 : Hp} {lx cx : V} {ld cd : PyData} {Qr : Addr → Hp → Prop} {E : XK} (hl : Th true [1] H1 lx ld) (hc : ArgC K H1 cx cd)
    (bad0 : ∀ H2 q, dueK lx cd = some (0, lx) → Same H1 H2 → H2 q = none → E (.ref CLn) (some q) (upd H2 q (.xd [(("length" : Str), lx)])))
    (bad1 : ∀ v H2 q, dueK lx cd = some (1, v) → Plain v → Same H1 H2 → H2 q = none → E (.ref CB) (some q) (upd H2 q (.xd [(("number" : Str), v)])))
    (bad2 : ∀ v H2 q, dueK lx cd = some (2, v) → Plain v → Same H1 H2 → H2 q = none → E (.ref CM) (some q) (upd H2 q (.xd [(("word" : Str), v)])))
    (good : ∀ len ds H2 x L, lx = .int len → 1 ≤ len → len ≤ 2000 → seqD cd = some ds → judgeD len 0 ds = none → ds.length ≤ 40 → dueK lx cd = none → Same H1 H2 → ReelAt H2 CR x len L → (cuesC L).map some = ds.map cueD → (∀ c ∈ cuesC L, CueG c) → Qr x H2) :
    ∀ x dx, H1 x = none → H1 dx = none → dx ≠ x → spReelA K CR CB CM CLn (.ref x :: ([lx, cx] ++ [])) (upd (upd H1 dx (.own x)) x (.ins CR dx [])) (fun v H2 => v = .non ∧ Qr x H2) E := by
  intro x dx hx hdx ne
  have sN : Same H1 (upd (upd H1 dx (.own x)) x (.ins CR dx [])) := fun c o e => by
    rw [upd_ne (ne_of_none e hx), upd_ne (ne_of_none e hdx)]
    exact e
  have sk : ∀ {H2}, KB x (upd (upd H1 dx (.own x)) x (.ins CR dx [])) H2 → Same H1 H2 := fun {H2} k c o e => k c o (ne_of_none e hx) (sN _ _ e)
  refine ⟨x, dx, lx, cx, ld, cd, rfl, upd_same, hl.keep sN, hc.keep sN, fun hI H' q kb hq => bad0 H' q (due_len hI) (sk kb) hq, fun len e h1 h2 => ?_⟩
  have hI : inside (.int len) 1 2000 = true := by
    show (decide (1 ≤ len) && decide (len ≤ 2000)) = true
    rw [decide_eq_true h1, decide_eq_true h2]
    rfl
  subst e
  exact ⟨fun hs H' q kb hq => bad1 _ H' q (due_not hI hs) trivial (sk kb) hq, fun ds k hs hj H' q kb hq => bad1 _ H' q (due_cue hI hs hj) trivial (sk kb) hq, fun ds hs hj hm H' q kb hq => bad2 _ H' q (due_many hI hs hj hm) trivial (sk kb) hq,
    fun ds hs hj hm H' L kb hR hcs hg => ⟨rfl, good len ds H' x L rfl h1 h2 hs hj hm (due_none hI hs hj hm) (sk kb) hR hcs hg⟩⟩
theorem okD_cong {lo len : Int} {d e : PyData} (h : cueD d = cueD e) : okD lo len d = okD lo len e := by
  unfold okD
  rw [h]
theorem endD_cong {d e : PyData} (h : cueD d = cueD e) : endD d = endD e := by
  unfold endD
  rw [h]
theorem judge_cong {len : Int} : ∀ {ds es : List PyData} {lo : Int}, ds.map cueD = es.map cueD → judgeD len lo ds = judgeD len lo es
  | [], [], _, _ => rfl
  | [], _ :: _, _, h => by cases h
  | _ :: _, [], _, h => by cases h
  | d :: r, e :: q, lo, h => by
    have h1 := (List.cons.inj h).1
    show (if okD lo len d = true then (judgeD len (endD d) r).map (· + 1) else some 0) = (if okD lo len e = true then (judgeD len (endD e) q).map (· + 1) else some 0)
    rw [okD_cong h1, endD_cong h1, judge_cong (List.cons.inj h).2]
theorem cus_cueD (cs : List Cue) : (cs.map cuP).map cueD = cs.map some := by
  rw [List.map_map]
  exact List.map_congr_left fun c _ => cueD_tup.mpr rfl
theorem some_inj {α : Type} : ∀ {l r : List α}, l.map some = r.map some → l = r
  | [], [], _ => rfl
  | [], _ :: _, h => by cases h
  | _ :: _, [], h => by cases h
  | a :: l, b :: r, h => by
    rw [Option.some.inj (List.cons.inj h).1, some_inj (List.cons.inj h).2]
theorem due_ok {len : Int} {d : PyData} {cs : List Cue} (h1 : 1 ≤ len) (h2 : len ≤ 2000) (e : tupD d = cusP cs) (hj : judgeD len 0 (cs.map cuP) = none) (h40 : cs.length ≤ 40) :
    ∃ ds, seqD d = some ds ∧ ds.map cueD = cs.map some ∧ dueK (.int len) d = none := by
  have hI : inside (.int len) 1 2000 = true := by
    show (decide (1 ≤ len) && decide (len ≤ 2000)) = true
    rw [decide_eq_true h1, decide_eq_true h2]
    rfl
  have hs : ∃ ds, seqD d = some ds := by
    cases d with
    | tuple ds => exact ⟨ds, rfl⟩
    | list ds => exact ⟨ds, rfl⟩
    | int j => cases e
    | dict ds => cases e
    | none => cases e
    | bool b => cases e
    | str z => cases e
  obtain ⟨ds, hs⟩ := hs
  rw [tupD_seq hs] at e
  have e2 : ds.map tupD = cs.map cuP := PyData.tuple.inj e
  have e3 : ds.map cueD = cs.map some := by
    refine List.ext_getElem? fun i => ?_
    have := congrArg (·[i]?) e2
    simp only [List.getElem?_map] at this ⊢
    cases h3 : ds[i]? with
    | none =>
      rw [h3] at this
      cases h4 : cs[i]? with
      | none => rfl
      | some c => rw [h4] at this; cases this
    | some d =>
      rw [h3] at this
      cases h4 : cs[i]? with
      | none => rw [h4] at this; cases this
      | some c =>
        rw [h4] at this
        have h5 : tupD d = cuP c := Option.some.inj this
        show some (cueD d) = some (some c)
        rw [cueD_tup.mpr h5]
  have el : ds.length = cs.length := by
    have := congrArg List.length e2
    rw [List.length_map, List.length_map] at this
    exact this
  refine ⟨ds, hs, e3, due_none hI hs ?_ (by omega)⟩
  rw [judge_cong (es := cs.map cuP) (by rw [cus_cueD]; exact e3)]
  exact hj
/-- Reel(len, cx), all good -/
theorem reel_good {K : PySem.W.Frag} {CR CB CM CLn : Addr} {H1 : Hp} {len : Int} {cx : V} {cd : PyData} {cs : List Cue} {Qr : Addr → Hp → Prop} {E : XK} (h1 : 1 ≤ len) (h2 : len ≤ 2000) (hc : ArgC K H1 cx cd) (e : tupD cd = cusP cs)
    (hj : judgeD len 0 (cs.map cuP) = none) (h40 : cs.length ≤ 40)
    (good : ∀ H2 x L, Same H1 H2 → ReelAt H2 CR x len L → cuesC L = cs → (∀ c ∈ cs, CueG c) → Qr x H2) :
    ∀ x dx, H1 x = none → H1 dx = none → dx ≠ x → spReelA K CR CB CM CLn (.ref x :: ([V.int len, cx] ++ [])) (upd (upd H1 dx (.own x)) x (.ins CR dx [])) (fun v H2 => v = .non ∧ Qr x H2) E := by
  obtain ⟨ds, hs, e3, ed⟩ := due_ok h1 h2 e hj h40
  have hl : Th true [1] H1 (.int len) (.int len) := Sc.th ⟨rfl, Nat.lt_of_le_of_lt (by omega : len.natAbs ≤ 2000) (by decide)⟩
  refine reel_reads hl hc (fun H2 q h => ?_) (fun v H2 q h => ?_) (fun v H2 q h => ?_) (fun len' ds' H2 x L el l1 l2 hs' hj' hm ek s hR hcs hg => ?_)
  · rw [ed] at h
    cases h
  · rw [ed] at h
    cases h
  · rw [ed] at h
    cases h
  · cases el
    rw [hs] at hs'
    cases hs'
    have ec : cuesC L = cs := some_inj (hcs.trans e3)
    exact good H2 x L s hR ec (by rw [← ec]; exact hg)
end Sea
namespace Sea
open PySem PySem.Spec PyProof.Rows L2
/-! pieces of a plan -/
structure Piece where
  nm : Str
  s : Int
  e : Int
  up : Int
  dn : Int
  on : Bool
def wayS (b : Bool) : Str := if b = true then Str.ofString "on" else Str.ofString "back"
def Piece.vs (p : Piece) : List V := [.str p.nm, .int p.s, .int p.e, .int p.up, .int p.dn, .str (wayS p.on)]
structure GoodP (len : Int) (p : Piece) : Prop where
  nm : NameW (cp p.nm)
  s0 : 0 ≤ p.s
  lt : p.s < p.e
  el : p.e ≤ len
  u1 : 1 ≤ p.up
  u6 : p.up ≤ 6
  d1 : 1 ≤ p.dn
  d6 : p.dn ≤ 6
  g : Nat.gcd p.up.natAbs p.dn.natAbs ≤ 1
def PAt (H : Hp) (e : Addr × Piece) : Prop := H e.1 = some (.tup e.2.vs)
abbrev refsP (L : List (Addr × Piece)) : List V := L.map fun e => V.ref e.1
abbrev pcs (L : List (Addr × Piece)) : List Piece := L.map (·.2)
theorem PAt.keep {H H' : Hp} {e : Addr × Piece} (h : PAt H e) (s : Same H H') : PAt H' e := s _ _ h
theorem PAt.kt {H H' : Hp} {e : Addr × Piece} (h : PAt H e) (s : KT H H') : PAt H' e := s _ _ h
/-- what the top has written of Plan -/
structure PlC (K : PySem.W.Frag) (mg : Str → Option Value) (CP fI : Addr) : Prop where
  cl : Cls K CP
  made : Mk K CP fI
  g : mg "Plan" = some (.ref CP)
  nR : NoAttr K CP "reel"
  nP : NoAttr K CP "pieces"
  nN : NoAttr K CP "_names"
  nA : NoAttr K CP "arrows"
  nS : NoAttr K CP "starts"
  nE : NoAttr K CP "ends"
  nG : NoAttr K CP "_grain"
  nQ : NoAttr K CP "_pieces"
  nZ : NoAttr K CP "_sends"
  nF : NoAttr K CP "_factors"
  nH : NoAttr K CP "_shown"
  nB : NoAttr K CP "_behind"
  nT : NoAttr K CP "_strips"
  nD : NoAttr K CP "_sends"
  ways : ∃ (mc : Value) (aW : Addr) (u : Value), ClX.CRead K CP mc ∧ ClX.CVal K CP mc "WAYS" (.ref aW) u ∧ ∀ H, SqT K H aW [V.str (Str.ofString "on"), V.str (Str.ofString "back")]
def spForm (CR : Addr) : Sp := fun vs H Q _ => ∃ (xr a : Addr) (len : Int) (L : List (Addr × Cue)) (p : Piece), vs = [.ref xr, .ref a] ∧ ReelAt H CR xr len L ∧ H a = some (.tup p.vs) ∧ GoodP len p ∧ ∀ H' t, Same H H' → PAt H' (t, p) → Q (.ref t) H'
theorem inV_strs (z : Str) : ∀ ss : List Str, inV (.str z) (ss.map V.str) = decide (z ∈ ss)
  | [] => rfl
  | a :: r => by
    show (eqV (.str a) (.str z) || inV (.str z) (r.map V.str)) = _
    rw [inV_strs z r]
    show ((a == z) || decide (z ∈ r)) = decide (z ∈ a :: r)
    by_cases h : a = z
    · subst h
      simp
    · rw [beq_eq_false_iff_ne.mpr h, Bool.false_or]
      by_cases h2 : z ∈ r
      · simp [h2]
      · rw [decide_eq_false h2, decide_eq_false]
        intro q
        rcases List.mem_cons.mp q with e | e
        · exact h e.symm
        · exact h2 e
theorem flat_strs (ss : List Str) : (ss.map V.str).all flatV = true := by
  induction ss with
  | nil => rfl
  | cons a r ih => exact ih
section
variable {P : Program} {w : World} {K : PySem.W.Frag} {mg : Str → Option Value} {base : Heap} {CR CP fR fP : Addr}
theorem ok_piece_form {f : Addr} {fd : FuncData} (F : Fun K "piece_of_form" "piece_of_form" s_piece_of_form f fd) (m_isinstance : mg "isinstance" = none) (m_str : mg "str" = none) (g_gcd : mg "gcd" = some (.builtin "math.gcd")) {t : Tok} (g_MOST_RATE : mg "MOST_RATE" = some (.int 6 t)) (TR : RC K mg CR fR) (TP : PlC K mg CP fP)
    (c_parts_of : Cal P w K mg base 2 "parts_of" spPartsA) (c_is_name : Cal P w K mg base 1 "is_name" spNameA) (c_is_integer : Cal P w K mg base 1 "is_integer" spIsIntA) (c_is_within : Cal P w K mg base 2 "is_within" spWithinA) :
    FnOk P w K mg base CX0 3 f fd ["reel", "thing"] (spForm CR) := by
  refine F.ok sc_piece_of_form (fun vs H Q E h => ?_) (fun cdv A outer s H vs Q E hr h => ?_)
  · obtain ⟨xr, a, len, L, p, rfl, _⟩ := h
    rfl
  · obtain ⟨xr, a, len, L, p, rfl, hR, ha, gp, q⟩ := h
    refine ⟨_, (pss_cons (ps_set (i := 2) sc_piece_of_form.nd rfl (Or.inl rfl) (pe_c c_parts_of hr (by decide) rfl (pa_cons (pv 1) (pa_cons (pe_int) pa_nil))))
    (pss_cons (ps_if (pt_cmpR op_isN (pv 2) (pe_non) (nomark _))
    (pss_one (ps_ret (pe_non)))
    pss_nil)
    (pss_cons (ps_asg (pv 2) (pg_tup rfl (pgs_cons (pg_name (i := 3) sc_piece_of_form.nd rfl (Or.inl rfl)) (pgs_cons (pg_name (i := 4) sc_piece_of_form.nd rfl (Or.inl rfl)) (pgs_cons (pg_name (i := 5) sc_piece_of_form.nd rfl (Or.inl rfl)) (pgs_cons (pg_name (i := 6) sc_piece_of_form.nd rfl (Or.inl rfl)) (pgs_cons (pg_name (i := 7) sc_piece_of_form.nd rfl (Or.inl rfl)) (pgs_cons (pg_name (i := 8) sc_piece_of_form.nd rfl (Or.inl rfl)) pgs_nil))))))))
    (pss_cons (ps_if (PW.pt (pw_or (pt_not (pt_val (pe_c c_is_name hr (by decide) rfl (pa_cons (pv 3) pa_nil)))) (pw_or (pt_not (pt_val (pe_c c_is_integer hr (by decide) rfl (pa_cons (pv 4) pa_nil)))) (pw_or1 (pt_not (pt_val (pe_c c_is_integer hr (by decide) rfl (pa_cons (pv 5) pa_nil))))))))
    (pss_one (ps_ret (pe_non)))
    pss_nil)
    (pss_cons (ps_if (pt_not (pt_chain3 op_le op_lt op_le (pe_int) (pv 4) (pv 5) (pe_fld (pv 0) rfl)))
    (pss_one (ps_ret (pe_non)))
    pss_nil)
    (pss_cons (ps_if (PW.pt (pw_or (pt_not (pt_val (pe_c c_is_within hr (by decide) rfl (pa_cons (pv 6) (pa_cons (pe_int) (pa_cons (pe_glob (v := .int 6) rfl g_MOST_RATE ⟨_, rfl⟩) pa_nil)))))) (pw_or (pt_not (pt_val (pe_c c_is_within hr (by decide) rfl (pa_cons (pv 7) (pa_cons (pe_int) (pa_cons (pe_glob (v := .int 6) rfl g_MOST_RATE ⟨_, rfl⟩) pa_nil)))))) (pw_or1 (pt_cmpR op_gt (pe_callBfun cr_gcd rfl g_gcd (pa_cons (pv 6) (pa_cons (pv 7) pa_nil))) (pe_int) (nomark _))))))
    (pss_one (ps_ret (pe_non)))
    pss_nil)
    (pss_cons (ps_if (PW.pt (pw_or (pt_not (pt_val (pe_callB call_isi (by rfl) m_isinstance (by decide +kernel) (pa_cons (pv 8) (pa_cons (pe_bltn (v := .ty "str") (by rfl) m_str (by decide +kernel) rfl) pa_nil))))) (pw_or1 (pt_cmpR op_notIn_seq (pv 8) (ClX.pe_cval (pe_glob (v := .ref CP) rfl TP.g rfl) rfl) rfl))))
    (pss_one (ps_ret (pe_non)))
    pss_nil)
    (pss_one (ps_ret (pv 2)))))))))), ?_⟩
    obtain ⟨dx, _, _, _, _, hx, _⟩ := id hR
    obtain ⟨mc, aW, u, w1, w2, w3⟩ := TP.ways
    refine ⟨_, rfl, .ref a, 6, rfl, .inr ⟨a, p.vs, rfl, .inl ha, (by show 6 ≤ 1000; decide), fun _ H1 t s1 h1 => ?_, fun h => absurd rfl h⟩⟩
    refine ⟨_, rfl, rfl, _, rfl, _, rfl, t, _, rfl, SqT.of h1, rfl, _, _, rfl, _, _, rfl, _, _, rfl, _, _, rfl, _, _, rfl, _, _, rfl, rfl, ?_⟩
    refine ⟨_, rfl, .str p.nm, rfl, .inl trivial, fun z e => by cases e; have := gp.nm.most; rw [cp_len] at this; omega, fun H2 s2 => ⟨_, rfl, ?_⟩⟩
    rw [nameV_yes gp.nm]
    refine ⟨_, rfl, .int p.s, rfl, .inl trivial, _, rfl, _, rfl, .int p.e, rfl, .inl trivial, _, rfl, ?_⟩
    have S2 := s1.trans s2
    refine ⟨_, rfl, _, _, rfl, rfl, _, rfl, ?_⟩
    rw [decide_eq_true gp.s0]
    refine iteT ⟨_, rfl, _, _, rfl, rfl, _, rfl, ?_⟩
    rw [decide_eq_true gp.lt]
    refine iteT ⟨_, rfl, xr, CR, dx, _, _, rfl, S2 _ _ hx, TR.cl, TR.nL, reel_length _ _ _ _, _, _, rfl, rfl, _, rfl, ?_⟩
    rw [decide_eq_true gp.el]
    have iu : inside (.int p.up) 1 6 = true := by
      show (decide (1 ≤ p.up) && decide (p.up ≤ 6)) = true
      rw [decide_eq_true gp.u1, decide_eq_true gp.u6]
      rfl
    have id' : inside (.int p.dn) 1 6 = true := by
      show (decide (1 ≤ p.dn) && decide (p.dn ≤ 6)) = true
      rw [decide_eq_true gp.d1, decide_eq_true gp.d6]
      rfl
    refine ⟨_, rfl, .int p.up, 1, 6, rfl, .inl trivial, _, rfl, ?_⟩
    rw [iu]
    refine ⟨_, rfl, .int p.dn, 1, 6, rfl, .inl trivial, _, rfl, ?_⟩
    rw [id']
    refine ⟨_, rfl, _, rfl, _, _, rfl, _, _, rfl, rfl, _, rfl, ?_⟩
    have ng : ¬ (1 : Int) < ((Nat.gcd p.up.natAbs p.dn.natAbs : Nat) : Int) := by
      have := gp.g
      omega
    rw [decide_eq_false ng]
    refine ⟨_, rfl, _, _, _, _, true, rfl, .ty _, .base (.str _), kit_ty (by decide +kernel), true, rfl, _, rfl, CP, mc, _, u, rfl, w1, w2, aW, _, rfl, .inr (w3 H2), rfl, rfl, _, rfl, ?_⟩
    have ew : inV (.str (wayS p.on)) [V.str (Str.ofString "on"), V.str (Str.ofString "back")] = true := by
      rw [show [V.str (Str.ofString "on"), V.str (Str.ofString "back")] = [Str.ofString "on", Str.ofString "back"].map V.str from rfl, inV_strs]
      unfold wayS
      cases p.on <;> simp
    show (if (!inV (.str (wayS p.on)) [V.str (Str.ofString "on"), V.str (Str.ofString "back")]) = true then _ else _)
    rw [ew]
    exact ⟨_, rfl, q H2 t S2 (s2 _ _ h1)⟩
end
end Sea
namespace Sea
open PySem PySem.Spec PyProof.Rows L2
/-! the pieces, arrows, starts and ends of a good plan -/
theorem ref_at {α : Type} {L : List (Addr × α)} {i : Nat} {v : V} (h : (L.map fun e => V.ref e.1)[i]? = some v) : ∃ e, L[i]? = some e ∧ v = .ref e.1 := by
  rw [List.getElem?_map] at h
  cases e : L[i]? with
  | none => rw [e] at h; cases h
  | some d => rw [e] at h; exact ⟨d, rfl, (Option.some.inj h).symm⟩
theorem take_snd {α : Type} {L M : List (Addr × α)} {i : Nat} {e d : Addr × α} (h : (M.map (·.2)) = (L.map (·.2)).take i) (he : L[i]? = some e) (hd : d.2 = e.2) : ((M ++ [d]).map (·.2)) = (L.map (·.2)).take (i + 1) := by
  rw [List.map_append, h, List.take_add_one, List.getElem?_map, he, List.map_cons, List.map_nil, hd]
  rfl
theorem len_take {α : Type} {L M : List (Addr × α)} {i : Nat} (h : (M.map (·.2)) = (L.map (·.2)).take i) : M.length ≤ i := by
  have := congrArg List.length h
  rw [List.length_map, List.length_take] at this
  omega
def spPieces (CR : Addr) : Sp := fun vs H Q _ => ∃ (xr ap : Addr) (len : Int) (L : List (Addr × Cue)) (M : List (Addr × Piece)), vs = [.ref xr, .ref ap] ∧ ReelAt H CR xr len L ∧ (H ap = some (.tup (refsP M)) ∨ H ap = some (.lst (refsP M))) ∧ (∀ e ∈ M, PAt H e ∧ GoodP len e.2) ∧
  1 ≤ M.length ∧ M.length ≤ 12 ∧ ((pcs M).map (·.nm)).Nodup ∧ ∀ H' t M', Same H H' → H' t = some (.tup (refsP M')) → pcs M' = pcs M → (∀ e ∈ M', PAt H' e) → Q (.ref t) H'
section
variable {P : Program} {w : World} {K : PySem.W.Frag} {mg : Str → Option Value} {base : Heap} {CR CP fR fP : Addr}
theorem ok_pieces {f : Addr} {fd : FuncData} (F : Fun K "judged_pieces" "judged_pieces" s_judged_pieces f fd) (m_enumerate : mg "enumerate" = none) (m_len : mg "len" = none) (m_tuple : mg "tuple" = none) {t : Tok} (g_MOST_PIECES : mg "MOST_PIECES" = some (.int 12 t))
    (c_items_of : Cal P w K mg base 1 "items_of" (spItemsA K)) (c_piece_of_form : Cal P w K mg base 3 "piece_of_form" (spForm CR)) : FnOk P w K mg base CX0 4 f fd ["reel", "pieces"] (spPieces CR) := by
  refine F.ok sc_judged_pieces (fun vs H Q E h => ?_) (fun cdv A outer s H vs Q E hr h => ?_)
  · obtain ⟨xr, ap, len, L, M, rfl, _⟩ := h
    rfl
  · obtain ⟨xr, ap, len, L, M, rfl, hR, ha, hM, l1, l12, nd, q⟩ := h
    refine ⟨_, (pss_cons (ps_set (i := 2) sc_judged_pieces.nd rfl (Or.inl rfl) (pe_c c_items_of hr (by decide) rfl (pa_cons (pv 1) pa_nil)))
    (pss_cons (ps_if (pt_not (pt_truth (pv 2) (by intro _; rfl)))
    (pss_one ps_never)
    pss_nil)
    (pss_cons (ps_set (i := 3) sc_judged_pieces.nd rfl (Or.inl rfl) (pe_lst pa_nil))
    (pss_cons (ps_for PassesOwn.never rfl (pi_enT (by rfl) m_enumerate (pa_cons (pv 2) pa_nil)) (pg_tup rfl (pgs_cons (pg_name (i := 4) sc_judged_pieces.nd rfl (Or.inl rfl)) (pgs_cons (pg_name (i := 5) sc_judged_pieces.nd rfl (Or.inl rfl)) pgs_nil)))
    (pss_cons (ps_set (i := 6) sc_judged_pieces.nd rfl (Or.inl rfl) (pe_c c_piece_of_form hr (by decide) rfl (pa_cons (pv 0) (pa_cons (pv 5) pa_nil))))
    (pss_cons (ps_if (pt_cmpR op_isN (pv 6) (pe_non) (nomark _))
    (pss_one ps_never)
    pss_nil)
    (pss_one (ps_expr (pe_bm PySem.F.plainAttrs_list PySem.F.slot_list_append PySem.F.type_list_append mt_append (pv 3) (pa_cons (pv 6) pa_nil)))))))
    (pss_cons (ps_if (pt_cmpR op_gt (pe_callB call_len (by rfl) m_len (by decide +kernel) (pa_cons (pv 3) pa_nil)) (pe_glob (v := .int 12) rfl g_MOST_PIECES ⟨_, rfl⟩) (nomark _))
    (pss_one ps_never)
    pss_nil)
    (pss_cons (ps_set (i := 7) sc_judged_pieces.nd rfl (Or.inl rfl) (pe_dnewK))
    (pss_cons (ps_for PassesOwn.never rfl (pi_list (pv 3)) (pg_name (i := 6) sc_judged_pieces.nd rfl (Or.inl rfl))
    (pss_cons (ps_if (pt_cmp (pc_din (hu_of hr) (pe_ix ix_tup (pv 6) (pe_int) (fun _ _ => rfl)) (pv 7)))
    (pss_one ps_never)
    pss_nil)
    (pss_one (ps_dput (hu_of hr) (pv 7) (pe_ix ix_tup (pv 6) (pe_int) (fun _ _ => rfl)) (pe_bl) rfl))))
    (pss_one (ps_ret (pe_callTy call_tuple_of (by rfl) m_tuple (by decide +kernel) (pa_cons (pv 3) pa_nil))))))))))), ?_⟩
    have sl : sizeLine = 16777216 := sizeLine_eq
    refine ⟨_, rfl, .ref ap, rfl, .inr (.inr ⟨ap, _, rfl, ha, fun H1 it s1 h1 => ?_⟩)⟩
    have ne : (!(refsP M).isEmpty) = true := by
      cases M with
      | nil => exact absurd l1 (by decide)
      | cons e r => rfl
    refine ⟨_, rfl, _, .inr (.inl ⟨_, SqT.of h1, rfl⟩), ?_⟩
    rw [ne]
    refine ⟨Nat.zero_le _, fun D hD => ?_⟩
    have sD := same_new (o := .lst []) hD
    have h1D := sD _ _ h1
    refine ⟨_, rfl, it, _, rfl, SqT.of h1D, ?_⟩
    refine for_it walk_enT (fun i σ H' => ∃ (k4 k5 k6 : Option V) (N : List (Addr × Piece)), σ = [some (.ref xr), some (.ref ap), some (.ref it), some (.ref D), k4, k5, k6, none] ∧ Same H1 H' ∧ H' D = some (.lst (refsP N)) ∧ pcs N = (pcs M).take i ∧ ∀ e ∈ N, PAt H' e)
      ⟨none, none, none, [], rfl, sD, upd_same, rfl, fun _ h => nomatch h⟩ (fun i σ H' _ ⟨_, _, _, _, _, hs, _⟩ => SqT.of (hs _ _ h1)) ?_ ?_
    · rintro i x σ Ha Hb hi ⟨k4, k5, k6, N, rfl, hs, hd, hn, hN⟩ ⟨T, v, rfl, hT, hv, rfl⟩
      obtain ⟨e, he, rfl⟩ := ref_at hv
      obtain ⟨eA, eG⟩ := hM e (List.mem_of_getElem? he)
      have sT := same_new (o := .tup [.int (i : Nat), V.ref e.1]) hT
      have S := (s1.trans hs).trans sT
      have lN : N.length ≤ i := len_take hn
      have hi' : i < M.length := (List.getElem?_eq_some_iff.mp he).1
      refine ⟨T, _, rfl, SqT.of upd_same, rfl, _, _, rfl, _, _, rfl, rfl, ?_⟩
      refine ⟨_, rfl, _, rfl, xr, e.1, len, L, e.2, rfl, hR.keep S, eA.keep S, eG, fun H2 t2 s2 h2 => ?_⟩
      have hd2 := s2 _ _ (sT _ _ hd)
      refine ⟨_, rfl, rfl, _, rfl, _, rfl, .inl ⟨rfl, _, SqL.of hd2⟩, _, rfl, D, _, _, rfl, rfl, hd2, small_line (by rw [List.length_map]; omega), _, _, _, N ++ [(t2, e.2)], rfl, ?_, ?_, take_snd hn he rfl, fun d hd' => ?_⟩
      · intro b o hb
        have nb : b ≠ D := ne_of_none hb hD
        rw [upd_ne nb]
        exact s2 _ _ (sT _ _ (hs _ _ hb))
      · rw [upd_same]
        show _ = some (HO.lst (List.map _ _))
        rw [List.map_append]
        rfl
      · have ko : KT H2 (upd H2 D (.lst (refsP N ++ [V.ref t2]))) := (KT.refl H2).over hd2
        rcases List.mem_append.mp hd' with h | h
        · exact (((hN d h).keep sT).keep s2).kt ko
        · rw [List.mem_singleton.mp h]
          exact h2.kt ko
    rintro σ H3 ⟨k4, k5, k6, N, rfl, s3, hd3, hn3, hN3⟩
    have lr : (refsP M).length = (pcs M).length := by rw [List.length_map, List.length_map]
    rw [lr, List.take_length] at hn3
    have lN : N.length = M.length := by
      have := congrArg List.length hn3
      rw [List.length_map, List.length_map] at this
      exact this
    refine ⟨_, rfl, _, N.length, rfl, .inl ⟨_, SqL.of hd3, (List.length_map ..).symm⟩, _, _, rfl, rfl, _, rfl, ite2 (fun h => ?_) (fun _ => ?_)⟩
    · have := of_decide_eq_true h
      omega
    refine fun kd hkd => ?_
    have skd := same_new (o := .dK []) hkd
    have ndk : D ≠ kd := ne_of_none hd3 hkd
    refine ⟨_, rfl, D, rfl, ⟨_, SqL.of (skd _ _ hd3)⟩, ?_⟩
    refine for_it walk_list (fun i σ H' => ∃ (k6 : Option V) (kvs : List (Key × V)), σ = [some (.ref xr), some (.ref ap), some (.ref it), some (.ref D), k4, k5, k6, some (.ref kd)] ∧ Same H3 H' ∧ H' kd = some (.dK kvs) ∧ kvs.length ≤ i ∧ ∀ z : Str, (valV kvs (Sum.inr z)).isSome = true → z ∈ ((pcs M).take i).map (·.nm))
      ⟨k6, [], rfl, skd, upd_same, Nat.le_refl _, fun z h => nomatch h⟩ (fun i σ H' _ ⟨_, _, _, hs, _⟩ => SqL.of (hs _ _ hd3)) ?_ ?_
    · rintro i x σ Ha Hb hi ⟨k6, kvs, rfl, hs, hk, hl, hz⟩ ⟨rfl, hy⟩
      obtain ⟨e, he, rfl⟩ := ref_at hy
      have eA : Hb e.1 = some (.tup e.2.vs) := (hN3 e (List.mem_of_getElem? he)).keep hs
      have hp : (pcs M)[i]? = some e.2 := by rw [← hn3, List.getElem?_map, he]; rfl
      have tk : ((pcs M).take (i + 1)).map (·.nm) = ((pcs M).take i).map (·.nm) ++ [e.2.nm] := by
        rw [List.take_add_one, hp, List.map_append]
        rfl
      have hnot : valV kvs (Sum.inr e.2.nm) = none := by
        cases ev : valV kvs (Sum.inr e.2.nm) with
        | none => rfl
        | some v =>
          have hin := hz e.2.nm (by rw [ev]; rfl)
          have nd2 : (((pcs M).take (i + 1)).map (·.nm)).Nodup := by
            rw [List.map_take]
            exact nd.sublist (List.take_sublist _ _)
          rw [tk] at nd2
          exact absurd rfl ((List.nodup_append.mp nd2).2.2 _ hin _ (List.mem_singleton.mpr rfl))
      have hi2 : i < N.length := (List.getElem?_eq_some_iff.mp he).1
      refine ⟨_, rfl, e.1, _, 0, _, rfl, rfl, SqT.of eA, atI_nat (j := 0) rfl, _, rfl, kd, _, rfl, DGet.k (k := Sum.inr e.2.nm) hk, _, rfl, ?_⟩
      rw [hnot]
      refine ⟨_, rfl, _, rfl, e.1, _, 0, _, rfl, rfl, SqT.of eA, atI_nat (j := 0) rfl, kd, _, rfl, DPut.k (k := Sum.inr e.2.nm) hk (by omega), _, _, rfl, ?_, upd_same, ?_, fun z h => ?_⟩
      · intro b o hb
        have nb : b ≠ kd := ne_of_none hb hkd
        rw [upd_ne nb]
        exact hs _ _ hb
      · have := length_putK kvs (Sum.inr e.2.nm) (V.bl true)
        omega
      · rw [valV_put] at h
        rw [tk]
        by_cases ez : (Sum.inr z : Key) = Sum.inr e.2.nm
        · cases ez
          exact List.mem_append_right _ (List.mem_singleton.mpr rfl)
        · rw [if_neg ez] at h
          exact List.mem_append_left _ (hz z h)
    rintro σ H4 ⟨k6', kvs, rfl, s4, hk4, _⟩
    refine ⟨_, rfl, D, _, rfl, .inl ⟨SqL.of (s4 _ _ hd3), fun l hl => ?_⟩⟩
    have sl' := same_new (o := .tup (refsP N)) hl
    exact q _ l N (((s1.trans s3).trans s4).trans sl') upd_same hn3 fun e he => ((hN3 e he).keep s4).keep sl'
end
end Sea
namespace Sea
open PySem PySem.Spec PyProof.Rows L2
/-! arrows, starts and ends -/
def AAt (H : Hp) (e : Addr × (Str × Str)) : Prop := H e.1 = some (.tup [.str e.2.1, .str e.2.2])
abbrev refsA (L : List (Addr × (Str × Str))) : List V := L.map fun e => V.ref e.1
abbrev prs (L : List (Addr × (Str × Str))) : List (Str × Str) := L.map (·.2)
theorem AAt.keep {H H' : Hp} {e : Addr × (Str × Str)} (h : AAt H e) (s : Same H H') : AAt H' e := s _ _ h
theorem AAt.kt {H H' : Hp} {e : Addr × (Str × Str)} (h : AAt H e) (s : KT H H') : AAt H' e := s _ _ h
theorem hu65 {A : Around} {k : Nat} (hr : Room k A) : A.units + 65 < cLine := by
  have := hr.un
  omega
def arP (a : Str × Str) : PyData := .tuple [.str a.1, .str a.2]
theorem nameS {z : Str} (h : NameW (cp z)) : AscS z := fun c hc => by
  have := h.sign c hc
  omega
theorem arP_shaped {a : Str × Str} (h1 : AscS a.1) (h2 : AscS a.2) : SeqAt.shaped (arP a) = true := by
  show ((PyData.canLay0 (.str a.1) && (PyData.canLay0 (.str a.2) && true)) && decide (_ ≤ 64)) = true
  rw [asc_ok h1, asc_ok h2]
  rfl
theorem arPs_shaped {as : List (Str × Str)} (h : ∀ a ∈ as, AscS a.1 ∧ AscS a.2) : SeqAt.shaped (.list (as.map arP)) = true := by
  have h1 : ∀ as : List (Str × Str), (∀ a ∈ as, AscS a.1 ∧ AscS a.2) → PyData.canLayAll0 (as.map arP) = true := fun as => by
    induction as with
    | nil => intro _; rfl
    | cons a r ih =>
      intro h
      show (PyData.canLay0 (arP a) && PyData.canLayAll0 (r.map arP)) = true
      have e : PyData.canLay0 (arP a) = true := by
        show (PyData.canLay0 (.str a.1) && (PyData.canLay0 (.str a.2) && true)) = true
        rw [asc_ok (h a List.mem_cons_self).1, asc_ok (h a List.mem_cons_self).2]
        rfl
      rw [e, ih fun z hz => h z (List.mem_cons_of_mem _ hz)]
      rfl
  have h2 : ∀ as : List (Str × Str), PyData.depthAll (as.map arP) ≤ 1 := fun as => by
    induction as with
    | nil => exact Nat.zero_le _
    | cons a r ih =>
      show max (PyData.depth (arP a)) (PyData.depthAll (r.map arP)) ≤ 1
      have : PyData.depth (arP a) = 1 := rfl
      omega
  have := h2 as
  show (PyData.canLayAll0 (as.map arP) && decide (PyData.depthAll (as.map arP) + 1 ≤ 64)) = true
  rw [h1 as h, decide_eq_true (by omega)]
  rfl
theorem arP_eqv (a b : Str × Str) : PyData.eqv (arP a) (arP b) = decide (a = b) := by
  show ((a.1 == b.1) && ((a.2 == b.2) && true)) = _
  obtain ⟨a1, a2⟩ := a
  obtain ⟨b1, b2⟩ := b
  by_cases h : ((a1, a2) : Str × Str) = (b1, b2)
  · cases h
    simp
  · rw [decide_eq_false h, Bool.eq_false_iff]
    intro q
    simp only [Bool.and_true, Bool.and_eq_true, beq_iff_eq] at q
    exact h (by rw [q.1, q.2])
theorem arP_any (a : Str × Str) (as : List (Str × Str)) : ((as.map arP).any fun z => PyData.eqv z (arP a)) = decide (a ∈ as) := by
  induction as with
  | nil => rfl
  | cons b r ih =>
    rw [List.map_cons, List.any_cons, ih, arP_eqv]
    by_cases h : b = a
    · subst h
      simp
    · rw [decide_eq_false h, Bool.false_or]
      by_cases h2 : a ∈ r
      · simp [h2]
      · rw [decide_eq_false h2, decide_eq_false]
        intro q
        rcases List.mem_cons.mp q with e | e
        · exact h e.symm
        · exact h2 e
theorem dp_arrows {K : PySem.W.Frag} {H : Hp} : ∀ {L : List (Addr × (Str × Str))}, (∀ e ∈ L, AAt H e) → DpAll K H (refsA L) ((prs L).map arP)
  | [], _ => .nil
  | e :: r, h => .cons (.tup (SqT.of (h e List.mem_cons_self)) (.cons (.str _) (.cons (.str _) .nil))) (dp_arrows fun d hd => h d (List.mem_cons_of_mem _ hd))
def spArrowsJ : Sp := fun vs H Q _ => ∃ (nt aa : Addr) (ns : List Str) (M : List (Addr × (Str × Str))), vs = [.ref nt, .ref aa] ∧ H nt = some (.tup (ns.map V.str)) ∧ (∀ n ∈ ns, NameW (cp n)) ∧ (H aa = some (.tup (refsA M)) ∨ H aa = some (.lst (refsA M))) ∧
  (∀ e ∈ M, AAt H e ∧ e.2.1 ∈ ns ∧ e.2.2 ∈ ns) ∧ (prs M).Nodup ∧ M.length ≤ 1000 ∧ ∀ H' t M', Same H H' → H' t = some (.tup (refsA M')) → prs M' = prs M → (∀ e ∈ M', AAt H' e) → Q (.ref t) H'
/-- names of pieces, chosen -/
structure Chosen (ns ss : List Str) : Prop where
  some : 1 ≤ ss.length
  most : ss.length ≤ 1000
  nd : ss.Nodup
  sub : ∀ z ∈ ss, z ∈ ns
def spWrong : Sp := fun vs H Q _ => ∃ (nt aa : Addr) (ns ss : List Str), vs = [.ref nt, .ref aa] ∧ H nt = some (.tup (ns.map V.str)) ∧ (H aa = some (.tup (ss.map V.str)) ∨ H aa = some (.lst (ss.map V.str))) ∧ Chosen ns ss ∧ ∀ H', Same H H' → Q .non H'
def spChosen : Sp := fun vs H Q _ => ∃ (nt aa : Addr) (ns ss : List Str), vs = [.ref nt, .ref aa] ∧ H nt = some (.tup (ns.map V.str)) ∧ (H aa = some (.tup (ss.map V.str)) ∨ H aa = some (.lst (ss.map V.str))) ∧ Chosen ns ss ∧ ∀ H' t, Same H H' → H' t = some (.tup (ss.map V.str)) → Q (.ref t) H'
section
variable {P : Program} {w : World} {K : PySem.W.Frag} {mg : Str → Option Value} {base : Heap} {CR CP fR fP : Addr}
theorem ok_arrowsJ {f : Addr} {fd : FuncData} (F : Fun K "judged_arrows" "judged_arrows" s_judged_arrows f fd) (m_enumerate : mg "enumerate" = none) (m_tuple : mg "tuple" = none)
    (c_items_of : Cal P w K mg base 1 "items_of" (spItemsA K)) (c_parts_of : Cal P w K mg base 2 "parts_of" spPartsA) : FnOk P w K mg base CX0 3 f fd ["names", "arrows"] spArrowsJ := by
  refine F.ok sc_judged_arrows (fun vs H Q E h => ?_) (fun cdv A outer s H vs Q E hr h => ?_)
  · obtain ⟨nt, aa, ns, M, rfl, _⟩ := h
    rfl
  · obtain ⟨nt, aa, ns, M, rfl, hnt, hns, ha, hM, nd, l1000, q⟩ := h
    refine ⟨_, (pss_cons (ps_set (i := 2) sc_judged_arrows.nd rfl (Or.inl rfl) (pe_c c_items_of hr (by decide) rfl (pa_cons (pv 1) pa_nil)))
    (pss_cons (ps_if (pt_cmpR op_isN (pv 2) (pe_non) (nomark _))
    (pss_one ps_never)
    pss_nil)
    (pss_cons (ps_set (i := 3) sc_judged_arrows.nd rfl (Or.inl rfl) (pe_lst pa_nil))
    (pss_cons (ps_for PassesOwn.never rfl (pi_enT (by rfl) m_enumerate (pa_cons (pv 2) pa_nil)) (pg_tup rfl (pgs_cons (pg_name (i := 4) sc_judged_arrows.nd rfl (Or.inl rfl)) (pgs_cons (pg_name (i := 5) sc_judged_arrows.nd rfl (Or.inl rfl)) pgs_nil)))
    (pss_cons (ps_set (i := 6) sc_judged_arrows.nd rfl (Or.inl rfl) (pe_c c_parts_of hr (by decide) rfl (pa_cons (pv 5) (pa_cons (pe_int) pa_nil))))
    (pss_cons (ps_if (PW.pt (pw_or (pt_cmpR op_isN (pv 6) (pe_non) (nomark _)) (pw_or (pt_cmpR op_notIn_seq (pe_ix ix_tup (pv 6) (pe_int) (fun _ _ => rfl)) (pv 0) rfl) (pw_or (pt_cmpR op_notIn_seq (pe_ix ix_tup (pv 6) (pe_int) (fun _ _ => rfl)) (pv 0) rfl) (pw_or1 (pt_cmpR (op_inD (hu65 hr)) (pv 6) (pv 3) rfl))))))
    (pss_one ps_never)
    pss_nil)
    (pss_one (ps_expr (pe_bm PySem.F.plainAttrs_list PySem.F.slot_list_append PySem.F.type_list_append mt_append (pv 3) (pa_cons (pv 6) pa_nil)))))))
    (pss_one (ps_ret (pe_callTy call_tuple_of (by rfl) m_tuple (by decide +kernel) (pa_cons (pv 3) pa_nil)))))))), ?_⟩
    refine ⟨_, rfl, .ref aa, rfl, .inr (.inr ⟨aa, _, rfl, ha, fun H1 it s1 h1 => ?_⟩)⟩
    refine ⟨_, rfl, rfl, _, rfl, Nat.zero_le _, fun D hD => ?_⟩
    have sD := same_new (o := .lst []) hD
    refine ⟨_, rfl, it, _, rfl, SqT.of (sD _ _ h1), ?_⟩
    refine for_it walk_enT (fun i σ H' => ∃ (k4 k5 k6 : Option V) (N : List (Addr × (Str × Str))), σ = [some (.ref nt), some (.ref aa), some (.ref it), some (.ref D), k4, k5, k6] ∧ Same H1 H' ∧ H' D = some (.lst (refsA N)) ∧ prs N = (prs M).take i ∧ ∀ e ∈ N, AAt H' e)
      ⟨none, none, none, [], rfl, sD, upd_same, rfl, fun _ h => nomatch h⟩ (fun i σ H' _ ⟨_, _, _, _, _, hs, _⟩ => SqT.of (hs _ _ h1)) ?_ ?_
    · rintro i x σ Ha Hb hi ⟨k4, k5, k6, N, rfl, hs, hd, hn, hN⟩ ⟨T, v, rfl, hT, hv, rfl⟩
      obtain ⟨e, he, rfl⟩ := ref_at hv
      obtain ⟨eA, e1, e2⟩ := hM e (List.mem_of_getElem? he)
      have sT := same_new (o := .tup [.int (i : Nat), V.ref e.1]) hT
      have S := (s1.trans hs).trans sT
      have lN : N.length ≤ i := len_take hn
      have hi' : i < M.length := (List.getElem?_eq_some_iff.mp he).1
      refine ⟨T, _, rfl, SqT.of upd_same, rfl, _, _, rfl, _, _, rfl, rfl, ?_⟩
      refine ⟨_, rfl, .ref e.1, 2, rfl, .inr ⟨e.1, _, rfl, .inl (S _ _ eA), (by show 2 ≤ 1000; decide), fun _ H2 t2 s2 h2 => ?_, fun h => absurd rfl h⟩⟩
      have S2 := S.trans s2
      have hd2 := s2 _ _ (sT _ _ hd)
      have hnt2 := S2 _ _ hnt
      have hN2 : ∀ d ∈ N, AAt H2 d := fun d hd' => ((hN d hd').keep sT).keep s2
      refine ⟨_, rfl, rfl, _, rfl, _, rfl, t2, _, 0, _, rfl, rfl, SqT.of h2, atI_nat (j := 0) rfl, _, rfl, nt, _, rfl, .inr (SqT.of hnt2), rfl, flat_strs ns, _, rfl, ?_⟩
      show (if (!inV (.str e.2.1) (ns.map V.str)) = true then _ else _)
      rw [inV_strs, decide_eq_true e1]
      refine ⟨_, rfl, t2, _, 1, _, rfl, rfl, SqT.of h2, atI_nat (j := 1) rfl, _, rfl, nt, _, rfl, .inr (SqT.of hnt2), rfl, flat_strs ns, _, rfl, ?_⟩
      show (if (!inV (.str e.2.2) (ns.map V.str)) = true then _ else _)
      rw [inV_strs, decide_eq_true e2]
      have hmem : ∀ a ∈ prs N, a ∈ (prs M).take i := fun a h => by rw [← hn]; exact h
      have asc : ∀ a ∈ prs M, AscS a.1 ∧ AscS a.2 := fun a h => by
        obtain ⟨d, hd', rfl⟩ := List.mem_map.mp h
        obtain ⟨_, q1, q2⟩ := hM d hd'
        exact ⟨nameS (hns _ q1), nameS (hns _ q2)⟩
      have heM : (prs M)[i]? = some e.2 := by rw [List.getElem?_map, he]; rfl
      have nin : ¬ e.2 ∈ prs N := fun h => by
        have h1 := hmem _ h
        have nd2 : ((prs M).take (i + 1)).Nodup := nd.sublist (List.take_sublist _ _)
        rw [List.take_add_one, heM] at nd2
        exact absurd rfl ((List.nodup_append.mp nd2).2.2 _ h1 _ (List.mem_singleton.mpr rfl))
      refine ⟨_, rfl, _, rfl, arP e.2, (prs N).map arP, .tup (SqT.of h2) (.cons (.str _) (.cons (.str _) .nil)), .lst (SqL.of hd2) (dp_arrows hN2), arP_shaped (asc _ (List.mem_of_getElem? heM)).1 (asc _ (List.mem_of_getElem? heM)).2, arPs_shaped (fun a h => asc a (List.mem_of_mem_take (hmem a h))), _, rfl, ?_⟩
      rw [arP_any, decide_eq_false nin]
      refine ⟨_, rfl, .inl ⟨rfl, _, SqL.of hd2⟩, _, rfl, D, _, _, rfl, rfl, hd2, small_line (by rw [List.length_map]; omega), _, _, _, N ++ [(t2, e.2)], rfl, ?_, ?_, take_snd hn he rfl, fun d hd' => ?_⟩
      · intro b o hb
        have nb : b ≠ D := ne_of_none hb hD
        rw [upd_ne nb]
        exact s2 _ _ (sT _ _ (hs _ _ hb))
      · rw [upd_same]
        show _ = some (HO.lst (List.map _ _))
        rw [List.map_append]
        rfl
      · have ko : KT H2 (upd H2 D (.lst (refsA N ++ [V.ref t2]))) := (KT.refl H2).over hd2
        rcases List.mem_append.mp hd' with h | h
        · exact (hN2 d h).kt ko
        · rw [List.mem_singleton.mp h]
          exact ko _ _ h2
    rintro σ H3 ⟨k4, k5, k6, N, rfl, s3, hd3, hn3, hN3⟩
    have lr : (refsA M).length = (prs M).length := by rw [List.length_map, List.length_map]
    rw [lr, List.take_length] at hn3
    refine ⟨_, rfl, D, _, rfl, .inl ⟨SqL.of hd3, fun l hl => ?_⟩⟩
    have sl' := same_new (o := .tup (refsA N)) hl
    exact q _ l N ((s1.trans s3).trans sl') upd_same hn3 fun e he => (hN3 e he).keep sl'
theorem ok_wrong {f : Addr} {fd : FuncData} (F : Fun K "wrong_name" "wrong_name" s_wrong_name f fd) (m_enumerate : mg "enumerate" = none)
    (c_items_of : Cal P w K mg base 1 "items_of" (spItemsA K)) : FnOk P w K mg base CX0 2 f fd ["names", "things"] spWrong := by
  refine F.ok sc_wrong_name (fun vs H Q E h => ?_) (fun cdv A outer s H vs Q E hr h => ?_)
  · obtain ⟨nt, aa, ns, ss, rfl, _⟩ := h
    rfl
  · obtain ⟨nt, aa, ns, ss, rfl, hnt, ha, hc, q⟩ := h
    refine ⟨_, (pss_cons (ps_set (i := 2) sc_wrong_name.nd rfl (Or.inl rfl) (pe_c c_items_of hr (by decide) rfl (pa_cons (pv 1) pa_nil)))
    (pss_cons (ps_if (pt_not (pt_truth (pv 2) (by intro _; rfl)))
    (pss_one (ps_ret (pe_un un_neg (pe_int))))
    pss_nil)
    (pss_cons (ps_for PassesOwn.never rfl (pi_enT (by rfl) m_enumerate (pa_cons (pv 2) pa_nil)) (pg_tup rfl (pgs_cons (pg_name (i := 3) sc_wrong_name.nd rfl (Or.inl rfl)) (pgs_cons (pg_name (i := 4) sc_wrong_name.nd rfl (Or.inl rfl)) pgs_nil)))
    (pss_one (ps_if (PW.pt (pw_or (pt_cmpR op_notIn_seq (pv 4) (pv 0) rfl) (pw_or1 (pt_cmpR op_in_seq (pv 4) (pe_slice sl_tup (pv 2) po_none (po_some (pv 3))) rfl))))
    (pss_one (ps_ret (pv 3)))
    pss_nil)))
    (pss_one (ps_ret (pe_non)))))), ?_⟩
    refine ⟨_, rfl, .ref aa, rfl, .inr (.inr ⟨aa, _, rfl, ha, fun H1 it s1 h1 => ?_⟩)⟩
    have ne : (!(ss.map V.str).isEmpty) = true := by
      cases ss with
      | nil => exact absurd hc.some (by decide)
      | cons e r => rfl
    refine ⟨_, rfl, _, .inr (.inl ⟨_, SqT.of h1, rfl⟩), ?_⟩
    rw [ne]
    refine ⟨_, rfl, it, _, rfl, SqT.of h1, ?_⟩
    refine for_it walk_enT (fun i σ H' => ∃ (k3 k4 : Option V), σ = [some (.ref nt), some (.ref aa), some (.ref it), k3, k4] ∧ Same H1 H') ⟨none, none, rfl, Same.refl H1⟩ (fun i σ H' _ ⟨_, _, _, hs⟩ => SqT.of (hs _ _ h1)) ?_ ?_
    · rintro i x σ Ha Hb hi ⟨k3, k4, rfl, hs⟩ ⟨T, v, rfl, hT, hv, rfl⟩
      have hi' : i < ss.length := by rw [List.length_map] at hi; exact hi
      obtain ⟨z, hz, rfl⟩ : ∃ z, ss[i]? = some z ∧ v = V.str z := by
        rw [List.getElem?_map, List.getElem?_eq_getElem hi'] at hv
        exact ⟨ss[i], List.getElem?_eq_getElem hi', (Option.some.inj hv).symm⟩
      have sT := same_new (o := .tup [.int (i : Nat), V.str z]) hT
      have S := hs.trans sT
      have hzm := List.mem_of_getElem? hz
      refine ⟨T, _, rfl, SqT.of upd_same, rfl, _, _, rfl, _, _, rfl, rfl, ?_⟩
      refine ⟨_, rfl, _, rfl, nt, _, rfl, .inr (SqT.of (S _ _ (s1 _ _ hnt))), rfl, flat_strs ns, _, rfl, ?_⟩
      show (if (!inV (.str z) (ns.map V.str)) = true then _ else _)
      rw [inV_strs, decide_eq_true (hc.sub z hzm)]
      refine ⟨_, rfl, _, rfl, _, rfl, _, rfl, it, _, rfl, SqT.of (S _ _ h1), ?_, fun p hp => ?_⟩
      · rintro ⟨_, z'⟩
        have z2 : HT.sIx (ss.map V.str).length (ss.map V.str).length (some ((i : Nat) : Int)) = (ss.map V.str).length := z'
        rw [HT.sIx_nat, List.length_map] at z2
        omega
      have ecut : cutV (ss.map V.str) none (some ((i : Nat) : Int)) = (ss.take i).map V.str := by
        unfold cutV
        rw [HT.sIx_nat, HT.sIx_none, List.drop_zero, Nat.sub_zero, List.length_map, List.map_take]
        rw [Nat.min_eq_left (Nat.le_of_lt hi')]
      rw [ecut]
      refine ⟨p, _, rfl, .inr (SqT.of upd_same), rfl, flat_strs _, _, rfl, ?_⟩
      show (if inV (.str z) ((ss.take i).map V.str) = true then _ else _)
      have nin : ¬ z ∈ ss.take i := fun h => by
        have nd2 : (ss.take (i + 1)).Nodup := hc.nd.sublist (List.take_sublist _ _)
        rw [List.take_add_one, hz] at nd2
        exact absurd rfl ((List.nodup_append.mp nd2).2.2 _ h _ (List.mem_singleton.mpr rfl))
      rw [inV_strs, decide_eq_false nin]
      exact ⟨_, _, rfl, S.trans (same_new hp)⟩
    · rintro σ H' ⟨k3, k4, rfl, hs⟩
      exact q H' (s1.trans hs)
theorem ok_startsJ {f : Addr} {fd : FuncData} (F : Fun K "judged_starts" "judged_starts" s_judged_starts f fd)
    (c_items_of : Cal P w K mg base 1 "items_of" (spItemsA K)) (c_wrong_name : Cal P w K mg base 2 "wrong_name" spWrong) : FnOk P w K mg base CX0 3 f fd ["names", "starts"] spChosen := by
  refine F.ok sc_judged_starts (fun vs H Q E h => ?_) (fun cdv A outer s H vs Q E hr h => ?_)
  · obtain ⟨nt, aa, ns, ss, rfl, _⟩ := h
    rfl
  · obtain ⟨nt, aa, ns, ss, rfl, hnt, ha, hc, q⟩ := h
    refine ⟨_, (pss_cons (ps_set (i := 2) sc_judged_starts.nd rfl (Or.inl rfl) (pe_c c_wrong_name hr (by decide) rfl (pa_cons (pv 0) (pa_cons (pv 1) pa_nil))))
    (pss_cons (ps_if (pt_cmpR op_notN (pv 2) (pe_non) (nomark _))
    (pss_one ps_never)
    pss_nil)
    (pss_one (ps_ret (pe_c c_items_of hr (by decide) rfl (pa_cons (pv 1) pa_nil)))))), ?_⟩
    refine ⟨_, rfl, _, rfl, nt, aa, ns, ss, rfl, hnt, ha, hc, fun H1 s1 => ⟨_, rfl, rfl, _, rfl, ?_⟩⟩
    exact ⟨_, rfl, .ref aa, rfl, .inr (.inr ⟨aa, _, rfl, ha.imp (s1 _ _) (s1 _ _), fun H2 it s2 h2 => q H2 it (s1.trans s2) h2⟩)⟩
theorem ok_endsJ {f : Addr} {fd : FuncData} (F : Fun K "judged_ends" "judged_ends" s_judged_ends f fd)
    (c_items_of : Cal P w K mg base 1 "items_of" (spItemsA K)) (c_wrong_name : Cal P w K mg base 2 "wrong_name" spWrong) : FnOk P w K mg base CX0 3 f fd ["names", "ends"] spChosen := by
  refine F.ok sc_judged_ends (fun vs H Q E h => ?_) (fun cdv A outer s H vs Q E hr h => ?_)
  · obtain ⟨nt, aa, ns, ss, rfl, _⟩ := h
    rfl
  · obtain ⟨nt, aa, ns, ss, rfl, hnt, ha, hc, q⟩ := h
    refine ⟨_, (pss_cons (ps_set (i := 2) sc_judged_ends.nd rfl (Or.inl rfl) (pe_c c_wrong_name hr (by decide) rfl (pa_cons (pv 0) (pa_cons (pv 1) pa_nil))))
    (pss_cons (ps_if (pt_cmpR op_notN (pv 2) (pe_non) (nomark _))
    (pss_one ps_never)
    pss_nil)
    (pss_one (ps_ret (pe_c c_items_of hr (by decide) rfl (pa_cons (pv 1) pa_nil)))))), ?_⟩
    refine ⟨_, rfl, _, rfl, nt, aa, ns, ss, rfl, hnt, ha, hc, fun H1 s1 => ⟨_, rfl, rfl, _, rfl, ?_⟩⟩
    exact ⟨_, rfl, .ref aa, rfl, .inr (.inr ⟨aa, _, rfl, ha.imp (s1 _ _) (s1 _ _), fun H2 it s2 h2 => q H2 it (s1.trans s2) h2⟩)⟩
end
end Sea
namespace Sea
open PySem PySem.Spec PyProof.Rows L2
/-! where arrows lead -/
inductive Led (as : List (Str × Str)) (ss : List Str) : Str → Prop
  | at {z : Str} : z ∈ ss → Led as ss z
  | on {a : Str × Str} : Led as ss a.1 → a ∈ as → Led as ss a.2
theorem nodup_le {α : Type} [DecidableEq α] : ∀ {xs ys : List α}, xs.Nodup → (∀ z ∈ xs, z ∈ ys) → xs.length ≤ ys.length
  | [], _, _, _ => Nat.zero_le _
  | x :: r, ys, nd, h => by
    have hx := h x List.mem_cons_self
    have nd' := List.nodup_cons.mp nd
    have l := nodup_le (ys := ys.erase x) nd'.2 fun z hz => (List.mem_erase_of_ne (fun e => by subst e; exact nd'.1 hz)).mpr (h z (List.mem_cons_of_mem _ hz))
    have e := List.length_erase_of_mem hx
    have p := List.length_pos_of_mem hx
    rw [List.length_cons]
    omega
def spLed : Sp := fun vs H Q _ => ∃ (nt aa : Addr) (ss ns : List Str) (M : List (Addr × (Str × Str))), vs = [.ref nt, .ref aa] ∧ H nt = some (.tup (ss.map V.str)) ∧ (H aa = some (.tup (refsA M)) ∨ H aa = some (.lst (refsA M))) ∧
  (∀ e ∈ M, AAt H e ∧ e.2.1 ∈ ns ∧ e.2.2 ∈ ns) ∧ (∀ z ∈ ss, z ∈ ns) ∧ ss.Nodup ∧ ns.length ≤ 1000 ∧
  ∀ (H' : Hp) (t : Addr) (fs : List Str), Same H H' → H' t = some (.lst (fs.map V.str)) → (∀ z, z ∈ fs ↔ Led (prs M) ss z) → Q (.ref t) H'
/-- a for over a list or a tuple -/
theorem lt_for {K : PySem.W.Frag} {a : Addr} {xs : List V} {g : TG} {tb : TS} {D : Ends} {σ : L2.St} {H : Hp} (Pv : Nat → L2.St → Hp → Prop) (h0 : Pv 0 σ H)
    (hk : (∀ i σ H, i ≤ xs.length → Pv i σ H → SqL K H a xs) ∨ (∀ i σ H, i ≤ xs.length → Pv i σ H → SqT K H a xs))
    (hs : ∀ i x σ H H', i < xs.length → Pv i σ H → YAt xs i H x H' → g x σ H' fun σ2 H2 => tb { D with nx := Pv (i + 1), ct := Pv (i + 1), bk := D.nx } σ2 H2) (hd : ∀ σ H, Pv xs.length σ H → D.nx σ H) :
    ((∃ xs, SqL K H a xs) ∧ ∃ W : Nat → Nat → L2.St → Hp → Prop, (∃ m, W 0 m σ H) ∧ ∀ i m σ H, W i m σ H →
      ((Itl K a).stop i H ∧ D.nx σ H) ∨ ((Itl K a).go i H ∧ ∃ N : L2.St → Hp → Prop, (∀ σ' H', N σ' H' → ∃ m', m' < m ∧ W (i + 1) m' σ' H') ∧ ∀ x H', (Itl K a).yld i H x H' → g x σ H' fun σ2 H2 => tb { D with nx := N, ct := N, bk := D.nx } σ2 H2)) ∨
    ((∃ xs, SqT K H a xs) ∧ ∃ W : Nat → Nat → L2.St → Hp → Prop, (∃ m, W 0 m σ H) ∧ ∀ i m σ H, W i m σ H →
      ((Itt K a).stop i H ∧ D.nx σ H) ∨ ((Itt K a).go i H ∧ ∃ N : L2.St → Hp → Prop, (∀ σ' H', N σ' H' → ∃ m', m' < m ∧ W (i + 1) m' σ' H') ∧ ∀ x H', (Itt K a).yld i H x H' → g x σ H' fun σ2 H2 => tb { D with nx := N, ct := N, bk := D.nx } σ2 H2)) := by
  rcases hk with hk | hk
  · exact .inl ⟨⟨xs, hk 0 σ H (Nat.zero_le _) h0⟩, for_it walk_list Pv h0 hk hs hd⟩
  · exact .inr ⟨⟨xs, hk 0 σ H (Nat.zero_le _) h0⟩, for_it walk_tup Pv h0 hk hs hd⟩
section
variable {P : Program} {w : World} {K : PySem.W.Frag} {mg : Str → Option Value} {base : Heap} {CR CP fR fP : Addr}
theorem ok_led_to {f : Addr} {fd : FuncData} (F : Fun K "led_to" "led_to" s_led_to f fd) (m_list : mg "list" = none) (m_len : mg "len" = none) : FnOk P w K mg base CX0 1 f fd ["names", "arrows"] spLed := by
  refine F.ok sc_led_to (fun vs H Q E h => ?_) (fun cdv A outer s H vs Q E hr h => ?_)
  · obtain ⟨nt, aa, ss, ns, M, rfl, _⟩ := h
    rfl
  · obtain ⟨nt, aa, ss, ns, M, rfl, hnt, ha, hM, sub, nd, ln, q⟩ := h
    refine ⟨_, (pss_cons (ps_set (i := 2) sc_led_to.nd rfl (Or.inl rfl) (pe_callTy call_list_of (by rfl) m_list (by decide +kernel) (pa_cons (pv 0) pa_nil)))
    (pss_cons (ps_set (i := 3) sc_led_to.nd rfl (Or.inl rfl) (pe_int))
    (pss_cons (ps_while PassesOwn.never (pt_cmpR op_lt (pv 3) (pe_callB call_len (by rfl) m_len (by decide +kernel) (pa_cons (pv 2) pa_nil)) (nomark _))
    (pss_cons (ps_for PassesOwn.never rfl (pi_lt (pv 1)) (pg_tup rfl (pgs_cons (pg_name (i := 4) sc_led_to.nd rfl (Or.inl rfl)) (pgs_cons (pg_name (i := 5) sc_led_to.nd rfl (Or.inl rfl)) pgs_nil)))
    (pss_one (ps_if (PW.pt (pw_and (pt_cmpR op_eq (pv 4) (pe_ix ix_list (pv 2) (pv 3) (fun _ _ => rfl)) (nomark _)) (pw_and1 (pt_cmpR op_notIn_seq (pv 5) (pv 2) rfl))))
    (pss_one (ps_expr (pe_bm PySem.F.plainAttrs_list PySem.F.slot_list_append PySem.F.type_list_append mt_append (pv 2) (pa_cons (pv 5) pa_nil))))
    pss_nil)))
    (pss_one (ps_aug (i := 3) sc_led_to.nd rfl (Or.inl rfl) (pe_int) ip_add))))
    (pss_one (ps_ret (pv 2)))))), ?_⟩
    refine ⟨_, rfl, nt, _, rfl, .inr (SqT.of hnt), fun D hD => ?_⟩
    have sD := same_new (o := .lst (ss.map V.str)) hD
    have sl : sizeLine = 16777216 := sizeLine_eq
    let Inv : Nat → List Str → L2.St → Hp → Prop := fun n fs σ H' => (∃ k4 k5 : Option V, σ = [some (.ref nt), some (.ref aa), some (.ref D), some (.int (n : Nat)), k4, k5]) ∧ Same H H' ∧ H' D = some (.lst (fs.map V.str)) ∧ fs.Nodup ∧ (∀ z ∈ fs, z ∈ ns) ∧ (∀ z ∈ ss, z ∈ fs) ∧ (∀ z ∈ fs, Led (prs M) ss z)
    refine ⟨fun m σ H' => ∃ n fs, m = ns.length - n ∧ n ≤ fs.length ∧ Inv n fs σ H' ∧ ∀ a ∈ prs M, a.1 ∈ fs.take n → a.2 ∈ fs,
      ⟨_, 0, ss, rfl, Nat.zero_le _, ⟨⟨none, none, rfl⟩, sD, upd_same, nd, sub, fun z h => h, fun z h => .at h⟩, fun a _ h => nomatch h⟩, ?_⟩
    rintro m σ H1 ⟨n, fs, rfl, hn, ⟨⟨k4, k5, rfl⟩, s1, hd1, nd1, sub1, st1, led1⟩, cl1⟩
    have lf : fs.length ≤ ns.length := nodup_le nd1 sub1
    refine ⟨_, rfl, _, rfl, _, fs.length, rfl, .inl ⟨_, SqL.of hd1, (List.length_map ..).symm⟩, _, _, rfl, rfl, _, rfl, ?_⟩
    by_cases hlt : n < fs.length
    · rw [decide_eq_true (show ((n : Nat) : Int) < ((fs.length : Nat) : Int) by omega)]
      refine iteT ⟨fun σ' H' => ∃ fs', Inv (n + 1) fs' σ' H' ∧ n + 1 ≤ fs'.length ∧ ∀ a ∈ prs M, a.1 ∈ fs'.take (n + 1) → a.2 ∈ fs', ?_, ?_⟩
      · rintro σ' H' ⟨fs', I, l', c'⟩
        have := nodup_le I.2.2.2.1 I.2.2.2.2.1
        exact ⟨ns.length - (n + 1), by omega, n + 1, fs', rfl, l', I, c'⟩
      have hz : fs[n]? = some fs[n] := List.getElem?_eq_getElem hlt
      -- one turn of the walk over the arrows
      let Pv : Nat → L2.St → Hp → Prop := fun i σ' H' => ∃ fs', Inv n fs' σ' H' ∧ (∃ mo, fs' = fs ++ mo) ∧ ∀ a ∈ (prs M).take i, a.1 = fs[n] → a.2 ∈ fs'
      have p0 : Pv 0 [some (.ref nt), some (.ref aa), some (.ref D), some (.int (n : Nat)), k4, k5] H1 := ⟨fs, ⟨⟨k4, k5, rfl⟩, s1, hd1, nd1, sub1, st1, led1⟩, ⟨[], (List.append_nil _).symm⟩, fun a h => nomatch h⟩
      refine ⟨_, rfl, aa, rfl, lt_for (xs := refsA M) Pv p0 ?_ ?_ ?_⟩
      · rcases ha with ha | ha
        · exact .inr fun i σ' H' _ ⟨_, I, _⟩ => SqT.of (I.2.1 _ _ ha)
        · exact .inl fun i σ' H' _ ⟨_, I, _⟩ => SqL.of (I.2.1 _ _ ha)
      · rintro i x σ' Ha Hb hi ⟨fs', ⟨⟨k4, k5, rfl⟩, s2, hd2, nd2, sub2, st2, led2⟩, ⟨mo, em⟩, cl2⟩ ⟨rfl, hy⟩
        obtain ⟨e, he, rfl⟩ := ref_at hy
        obtain ⟨eA, e1, e2⟩ := hM e (List.mem_of_getElem? he)
        have eA2 := s2 _ _ eA
        have hz2 : fs'[n]? = some fs[n] := by rw [em, List.getElem?_append_left hlt]; exact hz
        have hz3 : (fs'.map V.str)[n]? = some (V.str fs[n]) := by rw [List.getElem?_map, hz2]; rfl
        have hp : (prs M)[i]? = some e.2 := by rw [List.getElem?_map, he]; rfl
        have tk : (prs M).take (i + 1) = (prs M).take i ++ [e.2] := by rw [List.take_add_one, hp]; rfl
        refine ⟨e.1, _, rfl, SqT.of eA2, rfl, _, _, rfl, _, _, rfl, rfl, ?_⟩
        refine ⟨_, rfl, _, rfl, _, rfl, D, _, ((n : Nat) : Int), _, rfl, rfl, SqL.of hd2, atI_nat (j := n) hz3, rfl, _, rfl, ?_⟩
        have old : ∀ a ∈ (prs M).take (i + 1), (a.1 = fs[n] → a = e.2 → a.2 ∈ fs') → a.1 = fs[n] → a.2 ∈ fs' := fun a h h2 h3 => by
          rw [tk] at h
          rcases List.mem_append.mp h with h | h
          · exact cl2 a h h3
          · exact h2 h3 (List.mem_singleton.mp h)
        refine ite2 (fun hd => ?_) (fun hd => ?_)
        · have el : e.2.1 = fs[n] := V.str.inj (of_decide_eq_true hd)
          refine ⟨_, rfl, _, rfl, D, _, rfl, .inl (SqL.of hd2), rfl, flat_strs fs', _, rfl, ?_⟩
          show (if (!inV (.str e.2.2) (fs'.map V.str)) = true then _ else _)
          rw [inV_strs]
          by_cases hin : e.2.2 ∈ fs'
          · rw [decide_eq_true hin]
            exact ⟨fs', ⟨⟨_, _, rfl⟩, s2, hd2, nd2, sub2, st2, led2⟩, ⟨mo, em⟩, fun a h => old a h fun _ h2 => h2 ▸ hin⟩
          · rw [decide_eq_false hin]
            have lf2 := nodup_le nd2 sub2
            refine ⟨_, rfl, .inl ⟨rfl, _, SqL.of hd2⟩, _, rfl, D, _, _, rfl, rfl, hd2, small_line (by rw [List.length_map]; omega), fs' ++ [e.2.2], ⟨⟨_, _, rfl⟩, ?_, ?_, ?_, ?_, ?_, ?_⟩, ⟨mo ++ [e.2.2], by rw [em, List.append_assoc]⟩, fun a h h3 => ?_⟩
            · intro b o hb
              have nb : b ≠ D := ne_of_none hb hD
              rw [upd_ne nb]
              exact s2 _ _ hb
            · rw [upd_same, List.map_append]
              rfl
            · exact List.nodup_append.mpr ⟨nd2, List.nodup_cons.mpr ⟨List.not_mem_nil, List.nodup_nil⟩, fun a ha b hb => by
                rw [List.mem_singleton.mp hb]
                exact fun h => hin (h ▸ ha)⟩
            · intro z hz
              rcases List.mem_append.mp hz with h | h
              · exact sub2 z h
              · rw [List.mem_singleton.mp h]
                exact e2
            · exact fun z hz => List.mem_append_left _ (st2 z hz)
            · intro z hz
              rcases List.mem_append.mp hz with h | h
              · exact led2 z h
              · rw [List.mem_singleton.mp h]
                exact .on (by rw [el]; exact led2 _ (List.mem_of_getElem? hz2)) (List.mem_of_getElem? hp)
            · rw [tk] at h
              rcases List.mem_append.mp h with h | h
              · exact List.mem_append_left _ (cl2 a h h3)
              · rw [List.mem_singleton.mp h]
                exact List.mem_append_right _ (List.mem_singleton.mpr rfl)
        · refine ⟨fs', ⟨⟨_, _, rfl⟩, s2, hd2, nd2, sub2, st2, led2⟩, ⟨mo, em⟩, fun a h => old a h fun h3 h2 => ?_⟩
          exact absurd (decide_eq_true (congrArg V.str (by rw [← h3, h2]))) hd
      · rintro σ' H' ⟨fs', ⟨⟨k4, k5, rfl⟩, I⟩, ⟨mo, em⟩, c'⟩
        have c' : ∀ a ∈ prs M, a.1 = fs[n] → a.2 ∈ fs' := fun a h => c' a (by rw [List.take_of_length_le (by rw [List.length_map, List.length_map]; exact Nat.le_refl _)]; exact h)
        refine ⟨_, rfl, ?_⟩
        refine ⟨_, _, rfl, rfl, fs', ⟨⟨_, _, rfl⟩, I⟩, by rw [em, List.length_append]; omega, fun a h h2 => ?_⟩
        rw [em, List.take_append_of_le_length (by omega), List.take_add_one, hz] at h2
        rcases List.mem_append.mp h2 with h2 | h2
        · rw [em]
          exact List.mem_append_left _ (cl1 a h h2)
        · exact c' a h (List.mem_singleton.mp h2)
    · rw [decide_eq_false (show ¬ ((n : Nat) : Int) < ((fs.length : Nat) : Int) by omega)]
      have en : fs.take n = fs := List.take_of_length_le (by omega)
      rw [en] at cl1
      refine ⟨_, rfl, q _ D fs s1 hd1 fun z => ⟨led1 z, fun h => ?_⟩⟩
      induction h with
      | «at» h => exact st1 _ h
      | on _ h ih => exact cl1 _ h ih
end
end Sea
namespace Sea
open PySem PySem.Spec PyProof.Rows L2
/-! names that stand in no version -/
def rvA (as : List (Str × Str)) : List (Str × Str) := as.map fun a => (a.2, a.1)
/-- both ways -/
def Both (as : List (Str × Str)) (ss es : List Str) (z : Str) : Prop := Led as ss z ∧ Led (rvA as) es z
def spUnreach : Sp := fun vs H Q _ => ∃ (nt aa st et : Addr) (ns ss es : List Str) (M : List (Addr × (Str × Str))), vs = [.ref nt, .ref aa, .ref st, .ref et] ∧ H nt = some (.tup (ns.map V.str)) ∧ H aa = some (.tup (refsA M)) ∧ H st = some (.tup (ss.map V.str)) ∧ H et = some (.tup (es.map V.str)) ∧
  (∀ e ∈ M, AAt H e ∧ e.2.1 ∈ ns ∧ e.2.2 ∈ ns) ∧ M.length ≤ 1000 ∧ (∀ z ∈ ss, z ∈ ns) ∧ ss.Nodup ∧ (∀ z ∈ es, z ∈ ns) ∧ es.Nodup ∧ ns.length ≤ 1000 ∧
  (∀ H', Same H H' → (∀ z ∈ ns, Both (prs M) ss es z) → Q .non H') ∧ ∀ (H' : Hp) (k : Nat) (z : Str), Same H H' → ns[k]? = some z → (∀ y ∈ ns.take k, Both (prs M) ss es y) → ¬ Both (prs M) ss es z → Q (.str z) H'
section
variable {P : Program} {w : World} {K : PySem.W.Frag} {mg : Str → Option Value} {base : Heap} {CR CP fR fP : Addr}
theorem ok_unreach {f : Addr} {fd : FuncData} (F : Fun K "first_unreached" "first_unreached" s_first_unreached f fd) (c_led_to : Cal P w K mg base 1 "led_to" spLed) :
    FnOk P w K mg base CX0 2 f fd ["names", "arrows", "starts", "ends"] spUnreach := by
  refine F.ok sc_first_unreached (fun vs H Q E h => ?_) (fun cdv A outer s H vs Q E hr h => ?_)
  · obtain ⟨nt, aa, st, et, ns, ss, es, M, rfl, _⟩ := h
    rfl
  · obtain ⟨nt, aa, st, et, ns, ss, es, M, rfl, hnt, haa, hst, het, hM, lM, sub, nd, sub2, nd2, ln, q1, q2⟩ := h
    refine ⟨_, (pss_cons (ps_set (i := 4) sc_first_unreached.nd rfl (Or.inl rfl) (pe_c c_led_to hr (by decide) rfl (pa_cons (pv 2) (pa_cons (pv 1) pa_nil))))
    (pss_cons (ps_set (i := 5) sc_first_unreached.nd rfl (Or.inl rfl) (pe_c c_led_to hr (by decide) rfl (pa_cons (pv 3) (pa_cons (pe_lc (own := [("left", 7), ("right", 8)]) (g := gTup K 2 (gCons (gName 7) (gCons (gName 8) gNil))) rfl sc_first_unreached.nd (pi_tup (pv 1)) (blkOk_by (N := N_first_unreached) (sc := defScope s_first_unreached) (by decide +kernel)) (fun _ _ _ _ _ => by exact (pg_tup rfl (pgs_cons (pg_name (i := 7) sc_first_unreached.nd rfl (Or.inl rfl)) (pgs_cons (pg_name (i := 8) sc_first_unreached.nd rfl (Or.inl rfl)) pgs_nil)))) (fun _ _ _ _ _ => pts_nil) (fun _ _ _ _ _ => (pe_tup (pa_cons (pv 8) (pa_cons (pv 7) pa_nil))))) pa_nil))))
    (pss_cons (ps_for PassesOwn.never rfl (pi_tup (pv 0)) (pg_name (i := 6) sc_first_unreached.nd rfl (Or.inl rfl))
    (pss_one (ps_if (PW.pt (pw_or (pt_cmpR op_notIn_seq (pv 6) (pv 4) rfl) (pw_or1 (pt_cmpR op_notIn_seq (pv 6) (pv 5) rfl))))
    (pss_one (ps_ret (pv 6)))
    pss_nil)))
    (pss_one (ps_ret (pe_non)))))), ?_⟩
    refine ⟨_, rfl, _, rfl, st, aa, ss, ns, M, rfl, hst, .inl haa, hM, sub, nd, ln, fun H1 t1 fs s1 h1 l1 => ?_⟩
    refine ⟨_, rfl, _, rfl, aa, rfl, ⟨_, SqT.of (s1 _ _ haa)⟩, fun D hD => ?_⟩
    refine lc_it walk_tup (fun i H' => Same H1 H' ∧ ∃ N : List (Addr × (Str × Str)), H' D = some (.lst (refsA N)) ∧ prs N = (rvA (prs M)).take i ∧ ∀ e ∈ N, AAt H' e)
      ⟨same_new hD, [], upd_same, rfl, fun _ h => nomatch h⟩ (fun i H' _ hv => SqT.of (hv.1 _ _ (s1 _ _ haa))) ?_ ?_
    · rintro i x Ha Hb hi ⟨hs, N, hd, hn, hN⟩ ⟨rfl, hy⟩
      obtain ⟨e, he, rfl⟩ := ref_at hy
      have eA := hs _ _ (s1 _ _ (hM e (List.mem_of_getElem? he)).1)
      have hi' : i < M.length := (List.getElem?_eq_some_iff.mp he).1
      have lN : N.length ≤ i := by
        have := congrArg List.length hn
        rw [List.length_map, List.length_take] at this
        omega
      refine ⟨e.1, _, rfl, SqT.of eA, rfl, _, _, rfl, _, _, rfl, rfl, rfl, ?_⟩
      refine ⟨_, rfl, _, rfl, Nat.le_of_lt (small_line (by show 2 ≤ 100000; decide)), fun T hT => ?_⟩
      have sT := same_new (o := .tup [.str e.2.2, .str e.2.1]) hT
      refine ⟨_, sT _ _ hd, small_line (by rw [List.length_map]; omega), ?_, N ++ [(T, (e.2.2, e.2.1))], ?_, ?_, fun d hd' => ?_⟩
      · intro b o hb
        have nb : b ≠ D := ne_of_none hb hD
        rw [upd_ne nb]
        exact sT _ _ (hs _ _ hb)
      · rw [upd_same]
        show _ = some (HO.lst (List.map _ (N ++ [_])))
        rw [List.map_append]
        rfl
      · have hg : (rvA (prs M))[i]? = some (e.2.2, e.2.1) := by
          unfold rvA
          rw [List.getElem?_map, List.getElem?_map, he]
          rfl
        show List.map _ (N ++ [_]) = _
        rw [List.map_append, List.take_add_one, hg]
        show prs N ++ _ = _
        rw [hn]
        rfl
      · have ko : KT (upd Hb T (.tup [.str e.2.2, .str e.2.1])) (upd (upd Hb T (.tup [.str e.2.2, .str e.2.1])) D (.lst (refsA N ++ [V.ref T]))) := (KT.refl _).over (sT _ _ hd)
        rcases List.mem_append.mp hd' with h | h
        · exact ((hN d h).keep sT).kt ko
        · rw [List.mem_singleton.mp h]
          exact ko _ _ upd_same
    rintro H2 ⟨s2, N, hd, hn, hN⟩
    have lr : (refsA M).length = (rvA (prs M)).length := by unfold rvA; rw [List.length_map, List.length_map, List.length_map]
    rw [lr, List.take_length] at hn
    have S2 := s1.trans s2
    refine ⟨et, D, es, ns, N, rfl, S2 _ _ het, .inr hd, fun e he => ?_, sub2, nd2, ln, fun H3 t2 gs s3 h3 l3 => ?_⟩
    · have : e.2 ∈ rvA (prs M) := by rw [← hn]; exact List.mem_map.mpr ⟨e, he, rfl⟩
      obtain ⟨a, ha, ea⟩ := List.mem_map.mp this
      obtain ⟨d, hd', rfl⟩ := List.mem_map.mp ha
      obtain ⟨_, p1, p2⟩ := hM d hd'
      rw [← ea]
      exact ⟨hN e he, p2, p1⟩
    rw [hn] at l3
    have S3 := S2.trans s3
    have g1 := (s2.trans s3) _ _ h1
    refine ⟨_, rfl, nt, rfl, ⟨_, SqT.of (S3 _ _ hnt)⟩, ?_⟩
    refine for_it walk_tup (fun i σ H' => (∃ k6 k7 k8 : Option V, σ = [some (.ref nt), some (.ref aa), some (.ref st), some (.ref et), some (.ref t1), some (.ref t2), k6, k7, k8]) ∧ H' = H3 ∧ ∀ y ∈ ns.take i, Both (prs M) ss es y)
      ⟨⟨_, _, _, rfl⟩, rfl, fun _ h => nomatch h⟩ (fun i σ H' _ ⟨_, e, _⟩ => by subst e; exact SqT.of (S3 _ _ hnt)) ?_ ?_
    · rintro i x σ Ha Hb hi ⟨⟨k6, k7, k8, rfl⟩, rfl, hb⟩ ⟨rfl, hy⟩
      obtain ⟨z, hz, rfl⟩ : ∃ z, ns[i]? = some z ∧ x = V.str z := by
        have hi' : i < ns.length := by rw [List.length_map] at hi; exact hi
        rw [List.getElem?_map, List.getElem?_eq_getElem hi'] at hy
        exact ⟨ns[i], List.getElem?_eq_getElem hi', (Option.some.inj hy).symm⟩
      refine ⟨_, rfl, _, rfl, t1, _, rfl, .inl (SqL.of g1), rfl, flat_strs fs, _, rfl, ?_⟩
      show (if (!inV (.str z) (fs.map V.str)) = true then _ else _)
      rw [inV_strs]
      by_cases hf : z ∈ fs
      · rw [decide_eq_true hf]
        refine ⟨_, rfl, _, rfl, t2, _, rfl, .inl (SqL.of h3), rfl, flat_strs gs, _, rfl, ?_⟩
        show (if (!inV (.str z) (gs.map V.str)) = true then _ else _)
        rw [inV_strs]
        by_cases hg : z ∈ gs
        · rw [decide_eq_true hg]
          refine ⟨⟨_, _, _, rfl⟩, rfl, fun y hy => ?_⟩
          rw [List.take_add_one, hz] at hy
          rcases List.mem_append.mp hy with h | h
          · exact hb y h
          · rw [List.mem_singleton.mp h]
            exact ⟨(l1 z).mp hf, (l3 z).mp hg⟩
        · rw [decide_eq_false hg]
          exact ⟨_, rfl, q2 _ i z S3 hz hb fun h => hg ((l3 z).mpr h.2)⟩
      · rw [decide_eq_false hf]
        exact ⟨_, rfl, q2 _ i z S3 hz hb fun h => hf ((l1 z).mpr h.1)⟩
    · rintro σ H' ⟨_, rfl, hb⟩
      rw [List.take_of_length_le (by rw [List.length_map]; exact Nat.le_refl _)] at hb
      exact q1 _ S3 hb
end
end Sea
namespace Sea
open PySem PySem.Spec PyProof.Rows L2
/-! the strip of a piece -/
abbrev Tri := Int × Int × Int
def Tri.vs (t : Tri) : List V := [.int t.1, .int t.2.1, .int t.2.2]
def TAt (H : Hp) (e : Addr × Tri) : Prop := H e.1 = some (.tup (Tri.vs e.2))
abbrev refsT (L : List (Addr × Tri)) : List V := L.map fun e => V.ref e.1
abbrev tris (L : List (Addr × Tri)) : List Tri := L.map (·.2)
theorem TAt.keep {H H' : Hp} {e : Addr × Tri} (h : TAt H e) (s : Same H H') : TAt H' e := s _ _ h
theorem TAt.kt {H H' : Hp} {e : Addr × Tri} (h : TAt H e) (s : KT H H') : TAt H' e := s _ _ h
def lowOf (p : Piece) (c : Cue) : Int := if c.s > p.s then c.s else p.s
def highOf (p : Piece) (c : Cue) : Int := if c.e < p.e then c.e else p.e
def triOf (p : Piece) (k : Int) (i : Nat) (c : Cue) : Tri :=
  if p.on = true then ((i : Int), (lowOf p c - p.s) * k, (highOf p c - p.s) * k) else ((i : Int), (p.e - highOf p c) * k, (p.e - lowOf p c) * k)
def tri (p : Piece) (k : Int) (x : Cue × Nat) : Option Tri := if lowOf p x.1 < highOf p x.1 then some (triOf p k x.2 x.1) else none
def triUp (p : Piece) (k : Int) (cs : List Cue) : List Tri := cs.zipIdx.filterMap (tri p k)
def stripF (p : Piece) (k : Int) (cs : List Cue) : List Tri := if p.on = true then triUp p k cs else (triUp p k cs).reverse
theorem triUp_snoc (p : Piece) (k : Int) (cs : List Cue) (c : Cue) : triUp p k (cs ++ [c]) = triUp p k cs ++ (tri p k (c, cs.length)).toList := by
  unfold triUp
  rw [List.zipIdx_append, List.filterMap_append]
  congr 1
  show List.filterMap (tri p k) [(c, 0 + cs.length)] = _
  rw [Nat.zero_add]
  rw [List.filterMap_cons, List.filterMap_nil]
  cases tri p k (c, cs.length) <;> rfl
theorem triUp_len (p : Piece) (k : Int) (cs : List Cue) : (triUp p k cs).length ≤ cs.length := by
  unfold triUp
  exact Nat.le_trans (List.length_filterMap_le _ _) (by rw [List.length_zipIdx]; exact Nat.le_refl _)
theorem wayS_eq (b : Bool) : decide (V.str (wayS b) = V.str (Str.ofString "on")) = b := by
  cases b with
  | true => exact decide_eq_true rfl
  | false => exact decide_eq_false fun h => absurd (V.str.inj h) (by decide +kernel)
def spStrip (CR : Addr) : Sp := fun vs H Q _ => ∃ (xr pa : Addr) (k len : Int) (L : List (Addr × Cue)) (p : Piece), vs = [.ref xr, .ref pa, .int k] ∧ 0 ≤ k ∧ k ≤ 1000 ∧ ReelAt H CR xr len L ∧ L.length ≤ 100 ∧ H pa = some (.tup p.vs) ∧
  ∀ (H' : Hp) (t : Addr) (N : List (Addr × Tri)), Same H H' → H' t = some (.tup (refsT N)) → tris N = stripF p k (cuesC L) → (∀ e ∈ N, TAt H' e) → Q (.ref t) H'
section
variable {P : Program} {w : World} {K : PySem.W.Frag} {mg : Str → Option Value} {base : Heap} {CR CP fR fP : Addr}
theorem ok_strip {f : Addr} {fd : FuncData} (F : Fun K "strip_of_piece" "strip_of_piece" s_strip_of_piece f fd) (TR : RC K mg CR fR) (m_enumerate : mg "enumerate" = none) (m_max : mg "max" = none) (m_min : mg "min" = none) (m_tuple : mg "tuple" = none) {t : Tok} (g_ON : mg "ON" = some (.str (Str.ofString "on") t)) :
    FnOk P w K mg base CX0 1 f fd ["reel", "piece", "factor"] (spStrip CR) := by
  refine F.ok sc_strip_of_piece (fun vs H Q E h => ?_) (fun cdv A outer s H vs Q E hr h => ?_)
  · obtain ⟨xr, pa, k, len, L, p, rfl, _⟩ := h
    rfl
  · obtain ⟨xr, pa, k, len, L, p, rfl, k0, k1, hR, l100, hpa, q⟩ := h
    refine ⟨_, (pss_cons (ps_asg (pv 1) (pg_tup rfl (pgs_cons (pg_name (i := 3) sc_strip_of_piece.nd rfl (Or.inl rfl)) (pgs_cons (pg_name (i := 4) sc_strip_of_piece.nd rfl (Or.inl rfl)) (pgs_cons (pg_name (i := 5) sc_strip_of_piece.nd rfl (Or.inl rfl)) (pgs_cons (pg_name (i := 3) sc_strip_of_piece.nd rfl (Or.inl rfl)) (pgs_cons (pg_name (i := 3) sc_strip_of_piece.nd rfl (Or.inl rfl)) (pgs_cons (pg_name (i := 6) sc_strip_of_piece.nd rfl (Or.inl rfl)) pgs_nil))))))))
    (pss_cons (ps_set (i := 7) sc_strip_of_piece.nd rfl (Or.inl rfl) (pe_lst pa_nil))
    (pss_cons (ps_for PassesOwn.never rfl (pi_enT (by rfl) m_enumerate (pa_cons (pe_fld (pv 0) rfl) pa_nil)) (pg_tup rfl (pgs_cons (pg_name (i := 8) sc_strip_of_piece.nd rfl (Or.inl rfl)) (pgs_cons (pg_name (i := 9) sc_strip_of_piece.nd rfl (Or.inl rfl)) pgs_nil)))
    (pss_cons (ps_set (i := 10) sc_strip_of_piece.nd rfl (Or.inl rfl) (pe_callB (call_max2 rfl) (by rfl) m_max (by decide +kernel) (pa_cons (pv 4) (pa_cons (pe_ix ix_tup (pv 9) (pe_int) (fun _ _ => rfl)) pa_nil))))
    (pss_cons (ps_set (i := 11) sc_strip_of_piece.nd rfl (Or.inl rfl) (pe_callB (call_min2 rfl) (by rfl) m_min (by decide +kernel) (pa_cons (pv 5) (pa_cons (pe_ix ix_tup (pv 9) (pe_int) (fun _ _ => rfl)) pa_nil))))
    (pss_one (ps_if (PW.pt (pw_and (pt_cmpR op_lt (pv 10) (pv 11) (nomark _)) (pw_and1 (pt_cmpR op_eq (pv 6) (pe_glob (v := .str (Str.ofString "on")) rfl g_ON ⟨_, rfl⟩) (nomark _)))))
    (pss_one (ps_expr (pe_bm PySem.F.plainAttrs_list PySem.F.slot_list_append PySem.F.type_list_append mt_append (pv 7) (pa_cons (pe_tup (pa_cons (pv 8) (pa_cons (pe_op op_mul (pe_op op_sub (pv 10) (pv 4)) (pv 2)) (pa_cons (pe_op op_mul (pe_op op_sub (pv 11) (pv 4)) (pv 2)) pa_nil)))) pa_nil))))
    (pss_one (ps_if (pt_cmpR op_lt (pv 10) (pv 11) (nomark _))
    (pss_one (ps_expr (pe_bm PySem.F.plainAttrs_list PySem.F.slot_list_append PySem.F.type_list_append mt_append (pv 7) (pa_cons (pe_tup (pa_cons (pv 8) (pa_cons (pe_op op_mul (pe_op op_sub (pv 5) (pv 11)) (pv 2)) (pa_cons (pe_op op_mul (pe_op op_sub (pv 5) (pv 10)) (pv 2)) pa_nil)))) pa_nil))))
    pss_nil)))))))
    (pss_one (ps_ret (pe_ifExp (pt_cmpR op_eq (pv 6) (pe_glob (v := .str (Str.ofString "on")) rfl g_ON ⟨_, rfl⟩) (nomark _)) (pe_callTy call_tuple_of (by rfl) m_tuple (by decide +kernel) (pa_cons (pv 7) pa_nil)) (pe_callTy call_tuple_of (by rfl) m_tuple (by decide +kernel) (pa_cons (pe_revL (pv 7)) pa_nil)))))))), ?_⟩
    refine ⟨_, rfl, pa, _, rfl, SqT.of hpa, rfl, _, _, rfl, _, _, rfl, _, _, rfl, _, _, rfl, _, _, rfl, _, _, rfl, rfl, Nat.zero_le _, fun D hD => ?_⟩
    have sD := same_new (o := .lst []) hD
    have ck : ∀ i : Int, CMul i k := fun i => .inr ⟨by omega, by omega⟩
    obtain ⟨dx, tc, sp, nm, zs, hx, ht, hat, _⟩ := id hR
    refine ⟨_, rfl, xr, CR, dx, _, _, rfl, sD _ _ hx, TR.cl, TR.nC, reel_cues _ _ _ _, tc, _, rfl, SqT.of (sD _ _ ht), ?_⟩
    refine for_it walk_enT (fun i σ H' => (∃ k8 k9 k10 k11 : Option V, σ = [some (.ref xr), some (.ref pa), some (.int k), some (.int p.dn), some (.int p.s), some (.int p.e), some (.str (wayS p.on)), some (.ref D), k8, k9, k10, k11]) ∧ Same H H' ∧ ∃ N : List (Addr × Tri), H' D = some (.lst (refsT N)) ∧ tris N = triUp p k ((cuesC L).take i) ∧ ∀ e ∈ N, TAt H' e)
      ⟨⟨_, _, _, _, rfl⟩, sD, [], upd_same, rfl, fun _ h => nomatch h⟩ (fun i σ H' _ hv => SqT.of (hv.2.1 _ _ ht)) ?_ ?_
    · rintro i x σ Ha Hb hi ⟨⟨k8, k9, k10, k11, rfl⟩, hs, N, hd, hn, hN⟩ ⟨T, v, rfl, hT, hv, rfl⟩
      obtain ⟨e, he, rfl⟩ := ref_at hv
      have eA := hs _ _ (hat e (List.mem_of_getElem? he))
      have hi' : i < L.length := (List.getElem?_eq_some_iff.mp he).1
      have sT := same_new (o := .tup [.int (i : Nat), V.ref e.1]) hT
      have eA2 := sT _ _ eA
      have hp : (cuesC L)[i]? = some e.2 := by rw [List.getElem?_map, he]; rfl
      have tk : triUp p k ((cuesC L).take (i + 1)) = triUp p k ((cuesC L).take i) ++ (tri p k (e.2, i)).toList := by
        rw [List.take_add_one, hp]
        show triUp p k (_ ++ [e.2]) = _
        rw [triUp_snoc, List.length_take, List.length_map, Nat.min_eq_left (Nat.le_of_lt hi')]
      have lN : N.length ≤ i := by
        have h1 := congrArg List.length hn
        have h2 := triUp_len p k ((cuesC L).take i)
        rw [List.length_take] at h2
        rw [List.length_map] at h1
        omega
      refine ⟨T, _, rfl, SqT.of upd_same, rfl, _, _, rfl, _, _, rfl, rfl, ?_⟩
      refine ⟨_, rfl, _, rfl, e.1, _, 0, _, rfl, rfl, SqT.of eA2, atI_nat (j := 0) rfl, _, _, rfl, ?_⟩
      refine ⟨_, rfl, _, rfl, e.1, _, 1, _, rfl, rfl, SqT.of eA2, atI_nat (j := 1) rfl, _, _, rfl, ?_⟩
      let Inv : Hp → Prop := fun H' => Same H H' ∧ ∃ N : List (Addr × Tri), H' D = some (.lst (refsT N)) ∧ tris N = triUp p k ((cuesC L).take (i + 1)) ∧ ∀ e ∈ N, TAt H' e
      have hd2 : upd Ha T (.tup [.int (i : Nat), V.ref e.1]) D = some (.lst (refsT N)) := sT _ _ hd
      have add : ∀ (T2 : Addr) (tr : Tri), upd Ha T (.tup [.int (i : Nat), V.ref e.1]) T2 = none → tri p k (e.2, i) = some tr → Inv (upd (upd (upd Ha T (.tup [.int (i : Nat), V.ref e.1])) T2 (.tup (Tri.vs tr))) D (.lst (refsT N ++ [.ref T2]))) := fun T2 tr h2 et => by
        have sT2 := same_new (o := .tup (Tri.vs tr)) h2
        have ko : KT _ (upd (upd (upd Ha T (.tup [.int (i : Nat), V.ref e.1])) T2 (.tup (Tri.vs tr))) D (.lst (refsT N ++ [.ref T2]))) := (KT.refl _).over (sT2 _ _ hd2)
        refine ⟨fun b o hb => ?_, N ++ [(T2, tr)], ?_, ?_, fun d hd' => ?_⟩
        · have nb : b ≠ D := ne_of_none hb hD
          rw [upd_ne nb]
          exact sT2 _ _ (sT _ _ (hs _ _ hb))
        · rw [upd_same]
          show _ = some (HO.lst (List.map _ (N ++ [_])))
          rw [List.map_append]
          rfl
        · show List.map _ (N ++ [_]) = _
          rw [List.map_append, tk, et]
          show tris N ++ _ = _
          rw [hn]
          rfl
        · rcases List.mem_append.mp hd' with h | h
          · exact (((hN d h).keep sT).keep sT2).kt ko
          · rw [List.mem_singleton.mp h]
            exact ko _ _ upd_same
      refine ⟨_, rfl, _, rfl, _, _, rfl, rfl, _, rfl, ?_⟩
      by_cases hlt : lowOf p e.2 < highOf p e.2
      · rw [show decide ((if e.2.s > p.s then e.2.s else p.s) < (if e.2.e < p.e then e.2.e else p.e)) = true from decide_eq_true hlt]
        refine iteT ⟨_, rfl, rfl, _, rfl, ?_⟩
        rw [wayS_eq]
        cases ho : p.on with
        | true =>
          refine iteT ⟨_, rfl, .inl ⟨rfl, _, SqL.of hd2⟩, _, rfl, _, rfl, _, rfl, _, _, rfl, rfl, _, rfl, _, _, rfl, rfl, ck _, _, rfl, _, rfl, _, _, rfl, rfl, _, rfl, _, _, rfl, rfl, ck _, Nat.le_of_lt (small_line (by show 3 ≤ 100000; decide)), fun T2 h2 => ?_⟩
          have sT2 := same_new (o := .tup (Tri.vs (triOf p k i e.2))) h2
          have et : tri p k (e.2, i) = some (triOf p k i e.2) := if_pos hlt
          have eo : triOf p k i e.2 = ((i : Int), (lowOf p e.2 - p.s) * k, (highOf p e.2 - p.s) * k) := if_pos ho
          have hA := add T2 _ h2 et
          rw [eo] at hA
          exact ⟨D, _, _, rfl, rfl, same_new (o := .tup _) h2 _ _ hd2, small_line (by rw [List.length_map]; omega), ⟨_, _, _, _, rfl⟩, hA⟩
        | false =>
          refine ⟨_, rfl, _, rfl, _, _, rfl, rfl, _, rfl, ?_⟩
          rw [show decide ((if e.2.s > p.s then e.2.s else p.s) < (if e.2.e < p.e then e.2.e else p.e)) = true from decide_eq_true hlt]
          refine iteT ⟨_, rfl, .inl ⟨rfl, _, SqL.of hd2⟩, _, rfl, _, rfl, _, rfl, _, _, rfl, rfl, _, rfl, _, _, rfl, rfl, ck _, _, rfl, _, rfl, _, _, rfl, rfl, _, rfl, _, _, rfl, rfl, ck _, Nat.le_of_lt (small_line (by show 3 ≤ 100000; decide)), fun T2 h2 => ?_⟩
          have et : tri p k (e.2, i) = some (triOf p k i e.2) := if_pos hlt
          have eo : triOf p k i e.2 = ((i : Int), (p.e - highOf p e.2) * k, (p.e - lowOf p e.2) * k) := if_neg (by rw [ho]; exact Bool.false_ne_true)
          have hA := add T2 _ h2 et
          rw [eo] at hA
          exact ⟨D, _, _, rfl, rfl, same_new (o := .tup _) h2 _ _ hd2, small_line (by rw [List.length_map]; omega), ⟨_, _, _, _, rfl⟩, hA⟩
      · rw [show decide ((if e.2.s > p.s then e.2.s else p.s) < (if e.2.e < p.e then e.2.e else p.e)) = false from decide_eq_false hlt]
        refine ⟨_, rfl, _, rfl, _, _, rfl, rfl, _, rfl, ?_⟩
        rw [show decide ((if e.2.s > p.s then e.2.s else p.s) < (if e.2.e < p.e then e.2.e else p.e)) = false from decide_eq_false hlt]
        refine ⟨⟨_, _, _, _, rfl⟩, hs.trans sT, N, hd2, ?_, fun d hd' => (hN d hd').keep sT⟩
        rw [tk, hn]
        unfold tri
        rw [if_neg hlt]
        exact (List.append_nil _).symm
    · rintro σ H' ⟨⟨k8, k9, k10, k11, rfl⟩, hs, N, hd, hn, hN⟩
      have lr : (refsC L).length = (cuesC L).length := by rw [List.length_map, List.length_map]
      rw [lr, List.take_length] at hn
      refine ⟨_, rfl, rfl, _, rfl, ?_⟩
      rw [wayS_eq]
      cases ho : p.on with
      | true =>
        refine iteT ⟨_, rfl, D, _, rfl, .inl ⟨SqL.of hd, fun l hl => ?_⟩⟩
        have sl := same_new (o := .tup (refsT N)) hl
        refine q _ l N (hs.trans sl) upd_same ?_ fun e he => (hN e he).keep sl
        rw [hn]
        exact (if_pos ho).symm
      | false =>
        refine ⟨_, rfl, D, _, rfl, SqL.of hd, fun l0 hl0 => ⟨l0, _, rfl, .inl ⟨SqL.of upd_same, fun l hl => ?_⟩⟩⟩
        have sl0 := same_new (o := .lst (refsT N).reverse) hl0
        have sl := same_new (o := .tup (refsT N).reverse) hl
        refine q _ l N.reverse ((hs.trans sl0).trans sl) (by rw [upd_same]; show _ = some (HO.tup (List.map _ N.reverse)); rw [List.map_reverse]) ?_ fun e he => ((hN e (List.mem_reverse.mp he)).keep sl0).keep sl
        show List.map _ N.reverse = _
        rw [List.map_reverse]
        show (tris N).reverse = _
        rw [hn]
        exact (if_neg (by rw [ho]; exact Bool.false_ne_true)).symm
end
end Sea
namespace Sea
open PySem PySem.Spec PyProof.Rows L2
/-! the sends of a piece -/
abbrev Duo := Int × Int
def Duo.vs (t : Duo) : List V := [.int t.1, .int t.2]
def DAt (H : Hp) (e : Addr × Duo) : Prop := H e.1 = some (.tup (Duo.vs e.2))
abbrev refsD (L : List (Addr × Duo)) : List V := L.map fun e => V.ref e.1
abbrev duos (L : List (Addr × Duo)) : List Duo := L.map (·.2)
theorem DAt.keep {H H' : Hp} {e : Addr × Duo} (h : DAt H e) (s : Same H H') : DAt H' e := s _ _ h
theorem DAt.kt {H H' : Hp} {e : Addr × Duo} (h : DAt H e) (s : KT H H') : DAt H' e := s _ _ h
/-- with its own edge -/
def edgeB (p : Piece) (c : Cue) : Bool := if p.on = true then decide (c.s ≥ p.s) else decide (c.e ≤ p.e)
def sendB (p : Piece) (cs : List Cue) (t : Tri) : Bool := match cs[t.1.toNat]? with | some c => edgeB p c | none => false
def sendsF (p : Piece) (cs : List Cue) (ts : List Tri) : List Duo := (ts.filter (sendB p cs)).map fun t => (t.1, t.2.1)
theorem sendsF_snoc (p : Piece) (cs : List Cue) (ts : List Tri) (t : Tri) : sendsF p cs (ts ++ [t]) = sendsF p cs ts ++ if sendB p cs t = true then [(t.1, t.2.1)] else [] := by
  unfold sendsF
  rw [List.filter_append, List.map_append, List.filter_cons, List.filter_nil]
  cases sendB p cs t <;> rfl
theorem sendsF_len (p : Piece) (cs : List Cue) (ts : List Tri) : (sendsF p cs ts).length ≤ ts.length := by
  unfold sendsF
  rw [List.length_map]
  exact List.length_filter_le _ _
/-- numbers that are there -/
def Nums (cs : List Cue) (ts : List Tri) : Prop := ∀ t ∈ ts, ∃ (i : Nat) (c : Cue), t.1 = (i : Int) ∧ cs[i]? = some c
theorem nums_up (p : Piece) (k : Int) : ∀ (cs : List Cue) (n : Nat), n ≤ cs.length → Nums cs (triUp p k (cs.take n))
  | cs, 0, _ => fun t h => nomatch h
  | cs, n + 1, hn => fun t h => by
    have hc : cs[n]? = some cs[n] := List.getElem?_eq_getElem (by omega)
    rw [List.take_add_one, hc] at h
    have h : t ∈ triUp p k (cs.take n ++ [cs[n]]) := h
    rw [triUp_snoc, List.length_take, Nat.min_eq_left (by omega)] at h
    rcases List.mem_append.mp h with h | h
    · exact nums_up p k cs n (by omega) t h
    · refine ⟨n, cs[n], ?_, hc⟩
      unfold tri at h
      split at h
      · have e : t = triOf p k n cs[n] := by
          have := List.mem_singleton.mp (show t ∈ [triOf p k n cs[n]] from h)
          exact this
        rw [e]
        unfold triOf
        split <;> rfl
      · exact nomatch h
theorem nums_strip (p : Piece) (k : Int) (cs : List Cue) : Nums cs (stripF p k cs) := by
  have h := nums_up p k cs cs.length (Nat.le_refl _)
  rw [List.take_length] at h
  unfold stripF
  split
  · exact h
  · exact fun t ht => h t (List.mem_reverse.mp ht)
theorem strip_len (p : Piece) (k : Int) (cs : List Cue) : (stripF p k cs).length ≤ cs.length := by
  have h := triUp_len p k cs
  unfold stripF
  split
  · exact h
  · rw [List.length_reverse]; exact h
def spSends (CR : Addr) : Sp := fun vs H Q _ => ∃ (xr pa ta : Addr) (len : Int) (L : List (Addr × Cue)) (p : Piece) (N : List (Addr × Tri)), vs = [.ref xr, .ref pa, .ref ta] ∧ ReelAt H CR xr len L ∧ H pa = some (.tup p.vs) ∧ H ta = some (.tup (refsT N)) ∧ (∀ e ∈ N, TAt H e) ∧ Nums (cuesC L) (tris N) ∧ N.length ≤ 1000 ∧
  ∀ (H' : Hp) (t : Addr) (D : List (Addr × Duo)), Same H H' → H' t = some (.tup (refsD D)) → duos D = sendsF p (cuesC L) (tris N) → (∀ e ∈ D, DAt H' e) → Q (.ref t) H'
section
variable {P : Program} {w : World} {K : PySem.W.Frag} {mg : Str → Option Value} {base : Heap} {CR CP fR fP : Addr}
theorem ok_sends {f : Addr} {fd : FuncData} (F : Fun K "sends_of_piece" "sends_of_piece" s_sends_of_piece f fd) (TR : RC K mg CR fR) (m_tuple : mg "tuple" = none) {t : Tok} (g_ON : mg "ON" = some (.str (Str.ofString "on") t)) :
    FnOk P w K mg base CX0 1 f fd ["reel", "piece", "strip"] (spSends CR) := by
  refine F.ok sc_sends_of_piece (fun vs H Q E h => ?_) (fun cdv A outer s H vs Q E hr h => ?_)
  · obtain ⟨xr, pa, ta, len, L, p, N, rfl, _⟩ := h
    rfl
  · obtain ⟨xr, pa, ta, len, L, p, N, rfl, hR, hpa, hta, hN, nums, lN, q⟩ := h
    refine ⟨_, (pss_cons (ps_asg (pv 1) (pg_tup rfl (pgs_cons (pg_name (i := 3) sc_sends_of_piece.nd rfl (Or.inl rfl)) (pgs_cons (pg_name (i := 4) sc_sends_of_piece.nd rfl (Or.inl rfl)) (pgs_cons (pg_name (i := 5) sc_sends_of_piece.nd rfl (Or.inl rfl)) (pgs_cons (pg_name (i := 3) sc_sends_of_piece.nd rfl (Or.inl rfl)) (pgs_cons (pg_name (i := 3) sc_sends_of_piece.nd rfl (Or.inl rfl)) (pgs_cons (pg_name (i := 6) sc_sends_of_piece.nd rfl (Or.inl rfl)) pgs_nil))))))))
    (pss_cons (ps_set (i := 7) sc_sends_of_piece.nd rfl (Or.inl rfl) (pe_lst pa_nil))
    (pss_cons (ps_for PassesOwn.never rfl (pi_tup (pv 2)) (pg_tup rfl (pgs_cons (pg_name (i := 8) sc_sends_of_piece.nd rfl (Or.inl rfl)) (pgs_cons (pg_name (i := 9) sc_sends_of_piece.nd rfl (Or.inl rfl)) (pgs_cons (pg_name (i := 3) sc_sends_of_piece.nd rfl (Or.inl rfl)) pgs_nil))))
    (pss_cons (ps_asg (pe_ix ix_tup (pe_fld (pv 0) rfl) (pv 8) (fun _ _ => rfl)) (pg_tup rfl (pgs_cons (pg_name (i := 10) sc_sends_of_piece.nd rfl (Or.inl rfl)) (pgs_cons (pg_name (i := 11) sc_sends_of_piece.nd rfl (Or.inl rfl)) (pgs_cons (pg_name (i := 3) sc_sends_of_piece.nd rfl (Or.inl rfl)) (pgs_cons (pg_name (i := 3) sc_sends_of_piece.nd rfl (Or.inl rfl)) pgs_nil))))))
    (pss_cons (ps_set (i := 12) sc_sends_of_piece.nd rfl (Or.inl rfl) (pe_ifExp (pt_cmpR op_eq (pv 6) (pe_glob (v := .str (Str.ofString "on")) rfl g_ON ⟨_, rfl⟩) (nomark _)) (pe_cmpR op_ge (pv 10) (pv 4) (nomark _)) (pe_cmpR op_le (pv 11) (pv 5) (nomark _))))
    (pss_one (ps_if (pt_val (pv 12))
    (pss_one (ps_expr (pe_bm PySem.F.plainAttrs_list PySem.F.slot_list_append PySem.F.type_list_append mt_append (pv 7) (pa_cons (pe_tup (pa_cons (pv 8) (pa_cons (pv 9) pa_nil))) pa_nil))))
    pss_nil)))))
    (pss_one (ps_ret (pe_callTy call_tuple_of (by rfl) m_tuple (by decide +kernel) (pa_cons (pv 7) pa_nil))))))), ?_⟩
    refine ⟨_, rfl, pa, _, rfl, SqT.of hpa, rfl, _, _, rfl, _, _, rfl, _, _, rfl, _, _, rfl, _, _, rfl, _, _, rfl, rfl, Nat.zero_le _, fun D hD => ?_⟩
    have sD := same_new (o := .lst []) hD
    obtain ⟨dx, tc, sp, nm, zs, hx, ht, hat, _⟩ := id hR
    refine ⟨_, rfl, ta, rfl, ⟨_, SqT.of (sD _ _ hta)⟩, ?_⟩
    refine for_it walk_tup (fun i σ H' => (∃ k3 k8 k9 k10 k11 k12 : Option V, σ = [some (.ref xr), some (.ref pa), some (.ref ta), k3, some (.int p.s), some (.int p.e), some (.str (wayS p.on)), some (.ref D), k8, k9, k10, k11, k12]) ∧ Same H H' ∧ ∃ M : List (Addr × Duo), H' D = some (.lst (refsD M)) ∧ duos M = sendsF p (cuesC L) ((tris N).take i) ∧ ∀ e ∈ M, DAt H' e)
      ⟨⟨_, _, _, _, _, _, rfl⟩, sD, [], upd_same, rfl, fun _ h => nomatch h⟩ (fun i σ H' _ hv => SqT.of (hv.2.1 _ _ hta)) ?_ ?_
    · rintro i x σ Ha Hb hi ⟨⟨k3, k8, k9, k10, k11, k12, rfl⟩, hs, M, hd, hn, hM⟩ ⟨rfl, hy⟩
      obtain ⟨e, he, rfl⟩ := ref_at hy
      have eA := hs _ _ (hN e (List.mem_of_getElem? he))
      have hi' : i < N.length := (List.getElem?_eq_some_iff.mp he).1
      have hp : (tris N)[i]? = some e.2 := by rw [List.getElem?_map, he]; rfl
      obtain ⟨j, c, e1, ec⟩ := nums e.2 (List.mem_of_getElem? hp)
      obtain ⟨d, hd1, rfl⟩ : ∃ d, L[j]? = some d ∧ c = d.2 := by
        rw [List.getElem?_map] at ec
        cases q : L[j]? with
        | none => rw [q] at ec; cases ec
        | some d => rw [q] at ec; exact ⟨d, rfl, (Option.some.inj ec).symm⟩
      have hj : (refsC L)[j]? = some (V.ref d.1) := by rw [List.getElem?_map, hd1]; rfl
      have dA := hs _ _ (hat d (List.mem_of_getElem? hd1))
      have eb : sendB p (cuesC L) e.2 = edgeB p d.2 := by
        unfold sendB
        rw [e1, Int.toNat_natCast, ec]
      have tk : sendsF p (cuesC L) ((tris N).take (i + 1)) = sendsF p (cuesC L) ((tris N).take i) ++ if edgeB p d.2 = true then [(e.2.1, e.2.2.1)] else [] := by
        rw [List.take_add_one, hp]
        show sendsF p _ (_ ++ [e.2]) = _
        rw [sendsF_snoc, eb]
      have lM : M.length ≤ i := by
        have h1 := congrArg List.length hn
        have h2 := sendsF_len p (cuesC L) ((tris N).take i)
        rw [List.length_take] at h2
        rw [List.length_map] at h1
        omega
      refine ⟨e.1, _, rfl, SqT.of eA, rfl, _, _, rfl, _, _, rfl, _, _, rfl, rfl, ?_⟩
      refine ⟨_, rfl, xr, CR, dx, _, _, rfl, hs _ _ hx, TR.cl, TR.nC, reel_cues _ _ _ _, _, rfl, tc, _, _, _, rfl, rfl, SqT.of (hs _ _ ht), by rw [e1]; exact atI_nat (j := j) hj, ?_⟩
      refine ⟨d.1, _, rfl, SqT.of dA, rfl, _, _, rfl, _, _, rfl, _, _, rfl, _, _, rfl, rfl, ?_⟩
      have lit : ∀ b, edgeB p d.2 = b → sendsF p (cuesC L) ((tris N).take (i + 1)) = duos M ++ if b = true then [(e.2.1, e.2.2.1)] else [] := fun b h => by rw [tk, hn, h]
      have add : ∀ (T2 : Addr), edgeB p d.2 = true → Hb T2 = none → Same H (upd (upd Hb T2 (.tup [.int e.2.1, .int e.2.2.1])) D (.lst (refsD M ++ [.ref T2]))) ∧ ∃ M' : List (Addr × Duo), upd (upd Hb T2 (.tup [.int e.2.1, .int e.2.2.1])) D (.lst (refsD M ++ [.ref T2])) D = some (.lst (refsD M')) ∧ duos M' = sendsF p (cuesC L) ((tris N).take (i + 1)) ∧ ∀ e' ∈ M', DAt (upd (upd Hb T2 (.tup [.int e.2.1, .int e.2.2.1])) D (.lst (refsD M ++ [.ref T2]))) e' := fun T2 hb h2 => by
        have sT2 := same_new (o := .tup [.int e.2.1, .int e.2.2.1]) h2
        have ko : KT _ (upd (upd Hb T2 (.tup [.int e.2.1, .int e.2.2.1])) D (.lst (refsD M ++ [.ref T2]))) := (KT.refl _).over (sT2 _ _ hd)
        refine ⟨fun b o hb => ?_, M ++ [(T2, (e.2.1, e.2.2.1))], ?_, ?_, fun d' hd' => ?_⟩
        · have nb : b ≠ D := ne_of_none hb hD
          rw [upd_ne nb]
          exact sT2 _ _ (hs _ _ hb)
        · rw [upd_same]
          show _ = some (HO.lst (List.map _ (M ++ [_])))
          rw [List.map_append]
          rfl
        · show List.map _ (M ++ [_]) = _
          rw [List.map_append, lit true hb]
          rfl
        · rcases List.mem_append.mp hd' with h | h
          · exact ((hM d' h).keep sT2).kt ko
          · rw [List.mem_singleton.mp h]
            exact ko _ _ upd_same
      have keep : edgeB p d.2 = false → duos M = sendsF p (cuesC L) ((tris N).take (i + 1)) := fun h => by
        rw [lit false h]
        exact (List.append_nil _).symm
      refine ⟨_, rfl, rfl, _, rfl, ?_⟩
      rw [wayS_eq]
      cases ho : p.on with
      | true =>
        refine iteT ⟨_, rfl, _, rfl, _, _, rfl, rfl, _, rfl, _, rfl, ite2 (fun h => ?_) (fun h => ?_)⟩
        · have hb : edgeB p d.2 = true := by unfold edgeB; rw [if_pos ho]; exact h
          refine ⟨_, rfl, .inl ⟨rfl, _, SqL.of hd⟩, _, rfl, _, rfl, Nat.le_of_lt (small_line (by show 2 ≤ 100000; decide)), fun T2 h2 => ?_⟩
          exact ⟨D, _, _, rfl, rfl, same_new (o := .tup _) h2 _ _ hd, small_line (by rw [List.length_map]; omega), ⟨_, _, _, _, _, _, rfl⟩, add T2 hb h2⟩
        · have hb : edgeB p d.2 = false := by unfold edgeB; rw [if_pos ho]; exact Bool.eq_false_iff.mpr h
          exact ⟨⟨_, _, _, _, _, _, rfl⟩, hs, M, hd, keep hb, hM⟩
      | false =>
        refine ⟨_, rfl, _, rfl, _, _, rfl, rfl, _, rfl, _, rfl, ite2 (fun h => ?_) (fun h => ?_)⟩
        · have hb : edgeB p d.2 = true := by unfold edgeB; rw [if_neg (by rw [ho]; exact Bool.false_ne_true)]; exact h
          refine ⟨_, rfl, .inl ⟨rfl, _, SqL.of hd⟩, _, rfl, _, rfl, Nat.le_of_lt (small_line (by show 2 ≤ 100000; decide)), fun T2 h2 => ?_⟩
          exact ⟨D, _, _, rfl, rfl, same_new (o := .tup _) h2 _ _ hd, small_line (by rw [List.length_map]; omega), ⟨_, _, _, _, _, _, rfl⟩, add T2 hb h2⟩
        · have hb : edgeB p d.2 = false := by unfold edgeB; rw [if_neg (by rw [ho]; exact Bool.false_ne_true)]; exact Bool.eq_false_iff.mpr h
          exact ⟨⟨_, _, _, _, _, _, rfl⟩, hs, M, hd, keep hb, hM⟩
    · rintro σ H' ⟨⟨k3, k8, k9, k10, k11, k12, rfl⟩, hs, M, hd, hn, hM⟩
      have lr : (refsT N).length = (tris N).length := by rw [List.length_map, List.length_map]
      rw [lr, List.take_length] at hn
      refine ⟨_, rfl, D, _, rfl, .inl ⟨SqL.of hd, fun l hl => ?_⟩⟩
      have sl := same_new (o := .tup (refsD M)) hl
      exact q _ l M (hs.trans sl) upd_same hn fun e he => (hM e he).keep sl
end
end Sea
namespace Sea
open PySem PySem.Spec PyProof.Rows L2
/-! the plan: what it holds -/
/-- the heap without x -/
def rest (x : Addr) (H : Hp) : Hp := fun a => if a = x then none else H a
theorem rest_le (x : Addr) (H : Hp) : Same (rest x H) H := fun a o h => by
  unfold rest at h
  split at h
  · cases h
  · exact h
theorem rest_upd (x : Addr) (H : Hp) (o : HO) : rest x (upd H x o) = rest x H := by
  funext a
  unfold rest
  split
  · rfl
  · rename_i n
    exact upd_ne n
theorem rest_same {x : Addr} {H H' : Hp} (s : Same H H') : Same (rest x H) (rest x H') := fun a o h => by
  unfold rest at h ⊢
  split at h
  · cases h
  · rename_i n
    rw [if_neg n]
    exact s _ _ h
theorem rest_at {x p C dx : Addr} {fs : List (Str × V)} {H : Hp} {o : HO} (hx : H x = some (.ins C dx fs)) (hp : H p = some o) (ho : ∀ z, o ≠ .ins C dx z) : rest x H p = some o := by
  unfold rest
  rw [if_neg (ne_ins hx hp ho)]
  exact hp
theorem same_rest {x : Addr} {H H' : Hp} (hx : H x = none) (s : Same H H') : Same H (rest x H') := fun a o h => by
  unfold rest
  rw [if_neg (fun e => by rw [e, hx] at h; cases h)]
  exact s _ _ h
theorem kb_rest {x : Addr} {H H' : Hp} (s : Same (rest x H) (rest x H')) : KB x H H' := fun b o n h => by
  have := s b o (by unfold rest; rw [if_neg n]; exact h)
  exact rest_le _ _ _ _ this
theorem KT.overK {H H' : Hp} {D : Addr} {ks : List (Key × V)} {o : HO} (k : KT H H') (h : H' D = some (.dK ks)) : KT H (upd H' D o) := fun a xs e => by
  have e' := k a xs e
  rw [upd_ne (fun z => by rw [z, h] at e'; cases e')]
  exact e'
theorem dict_step {G : Str → V → Prop} {kvs : List (Key × V)} {z : Str} {v : V} {ns : List Str} {i : Nat} (h : ∀ y ∈ ns.take i, ∃ v, valV kvs (Sum.inr y) = some v ∧ G y v) (hz : ns[i]? = some z) (hv : G z v) :
    ∀ y ∈ ns.take (i + 1), ∃ v', valV (putK kvs (Sum.inr z) v) (Sum.inr y) = some v' ∧ G y v' := fun y hy => by
  by_cases e : y = z
  · subst e
    exact ⟨v, by rw [valV_put, if_pos rfl], hv⟩
  · rw [List.take_add_one, hz] at hy
    rcases List.mem_append.mp hy with hy | hy
    · obtain ⟨v', h1, h2⟩ := h y hy
      exact ⟨v', by rw [valV_put, if_neg (fun q => e (Sum.inr.inj q))]; exact h1, h2⟩
    · exact absurd (List.mem_singleton.mp hy) e
def grainTo (ps : List Piece) : Int := ps.foldl (fun g p => ((Nat.lcm g.natAbs p.dn.natAbs : Nat) : Int)) 1
def factorOf (g : Int) (p : Piece) : Int := (p.up * g).fdiv p.dn
def shownOf (g : Int) (p : Piece) : Int := (p.e - p.s) * factorOf g p
theorem grain_snoc (ps : List Piece) (p : Piece) : grainTo (ps ++ [p]) = ((Nat.lcm (grainTo ps).natAbs p.dn.natAbs : Nat) : Int) := by
  unfold grainTo
  rw [List.foldl_append]
  rfl
theorem dn60 {n : Nat} (h1 : 1 ≤ n) (h6 : n ≤ 6) : n ∣ 60 := by
  have : n = 1 ∨ n = 2 ∨ n = 3 ∨ n = 4 ∨ n = 5 ∨ n = 6 := by omega
  rcases this with h | h | h | h | h | h <;> subst h <;> decide
theorem grain_ok : ∀ (n : Nat) (ps : List Piece), ps.length = n → (∀ p ∈ ps, 1 ≤ p.dn ∧ p.dn ≤ 6) → 1 ≤ grainTo ps ∧ (grainTo ps).natAbs ∣ 60 := by
  intro n
  induction n with
  | zero =>
    intro ps hl _
    cases ps with
    | nil => exact ⟨by decide, by decide⟩
    | cons a r => cases hl
  | succ n ih =>
    intro ps hl h
    have hne : ps ≠ [] := by intro e; rw [e] at hl; cases hl
    have e := (List.dropLast_concat_getLast hne).symm
    generalize ps.dropLast = qs at e
    generalize ps.getLast hne = p at e
    subst e
    have lq : qs.length = n := by
      rw [List.length_append, List.length_cons, List.length_nil] at hl
      omega
    obtain ⟨g1, g2⟩ := ih qs lq fun p hp => h p (List.mem_append_left _ hp)
    obtain ⟨d1, d6⟩ := h p (List.mem_append_right _ (List.mem_singleton.mpr rfl))
    rw [grain_snoc]
    have dv : p.dn.natAbs ∣ 60 := dn60 (by omega) (by omega)
    have h3 : Nat.lcm (grainTo qs).natAbs p.dn.natAbs ∣ 60 := Nat.lcm_dvd g2 dv
    have h4 : 0 < Nat.lcm (grainTo qs).natAbs p.dn.natAbs := Nat.pos_of_dvd_of_pos h3 (by decide)
    exact ⟨by omega, by rw [Int.natAbs_natCast]; exact h3⟩
theorem grain_le {ps : List Piece} (h : ∀ p ∈ ps, 1 ≤ p.dn ∧ p.dn ≤ 6) : 1 ≤ grainTo ps ∧ grainTo ps ≤ 60 := by
  obtain ⟨h1, h2⟩ := grain_ok _ ps rfl h
  have := Nat.le_of_dvd (by decide) h2
  exact ⟨h1, by omega⟩
theorem factor_le {g : Int} {p : Piece} (g1 : 1 ≤ g) (g2 : g ≤ 60) (u1 : 1 ≤ p.up) (u6 : p.up ≤ 6) (d1 : 1 ≤ p.dn) : 0 ≤ factorOf g p ∧ factorOf g p ≤ 360 := by
  unfold factorOf
  have h0 : 0 ≤ p.up * g := Int.mul_nonneg (by omega) (by omega)
  have h1 : p.up * g ≤ 6 * 60 := Int.mul_le_mul u6 g2 (by omega) (by omega)
  rw [Int.fdiv_eq_ediv_of_nonneg _ (by omega)]
  refine ⟨Int.ediv_nonneg h0 (by omega), ?_⟩
  have := Int.ediv_le_self p.dn h0
  omega
/-- to which names arrows lead from here -/
def rightsOf (as : List (Str × Str)) (z : Str) : List Str := (as.filter fun a => decide (a.1 = z)).map (·.2)
theorem rights_snoc (as : List (Str × Str)) (a : Str × Str) (z : Str) : rightsOf (as ++ [a]) z = rightsOf as z ++ if a.1 = z then [a.2] else [] := by
  unfold rightsOf
  rw [List.filter_append, List.map_append, List.filter_cons, List.filter_nil]
  by_cases h : a.1 = z
  · rw [decide_eq_true h, if_pos h]
    rfl
  · rw [decide_eq_false h, if_neg h]
    rfl
theorem rights_few {as : List (Str × Str)} {ns : List Str} (nd : as.Nodup) (h : ∀ a ∈ as, a.2 ∈ ns) (z : Str) : (rightsOf as z).length ≤ ns.length := by
  have nd2 : (rightsOf as z).Nodup := by
    unfold rightsOf
    refine List.pairwise_map.mpr (List.Pairwise.imp_of_mem ?_ (nd.filter _))
    intro a b ha hb hne e
    refine hne ?_
    have h1 := of_decide_eq_true (List.mem_filter.mp ha).2
    have h2 := of_decide_eq_true (List.mem_filter.mp hb).2
    exact Prod.ext (h1.trans h2.symm) e
  refine nodup_le nd2 fun y hy => ?_
  obtain ⟨a, ha, rfl⟩ := List.mem_map.mp hy
  exact h a (List.mem_filter.mp ha).1
/-- the fields -/
def planF (v1 v2 v3 v4 v5 v6 v7 v8 v9 v10 v11 v12 v13 : V) : List (Str × V) :=
  putF "_sends" v13 (putF "_strips" v12 (putF "_behind" v11 (putF "_shown" v10 (putF "_factors" v9 (putF "_pieces" v8 (putF "_grain" v7 (putF "ends" v6 (putF "starts" v5 (putF "arrows" v4 (putF "_names" v3 (putF "pieces" v2 (putF "reel" v1 []))))))))))))
theorem few1 {f : Str} {v : V} {fs : List (Str × V)} {n : Nat} (h : fs.length < n) : (putF f v fs).length < n + 1 := by
  have := putF_len f v fs
  omega
/-- what the plan's fields lead to -/
structure PlanB (H : Hp) (CR xr pt nt at' st et dP dF dS dB dT dQ : Addr) (len : Int) (L : List (Addr × Cue)) (ps : List Piece) (as : List (Str × Str)) (ss es : List Str) : Prop where
  reel : ReelAt H CR xr len L
  good : ∀ p ∈ ps, GoodP len p
  few : 1 ≤ ps.length ∧ ps.length ≤ 12
  one : (ps.map (·.nm)).Nodup
  pieces : ∃ M : List (Addr × Piece), H pt = some (.tup (refsP M)) ∧ pcs M = ps ∧ ∀ e ∈ M, PAt H e
  names : H nt = some (.tup ((ps.map (·.nm)).map V.str))
  arrows : ∃ A : List (Addr × (Str × Str)), H at' = some (.tup (refsA A)) ∧ prs A = as ∧ ∀ e ∈ A, AAt H e
  ends : ∀ a ∈ as, a.1 ∈ ps.map (·.nm) ∧ a.2 ∈ ps.map (·.nm)
  starts : H st = some (.tup (ss.map V.str))
  lasts : H et = some (.tup (es.map V.str))
  kP : ∃ ks, H dP = some (.dK ks) ∧ ∀ p ∈ ps, ∃ a, valV ks (Sum.inr p.nm) = some (.ref a) ∧ PAt H (a, p)
  kF : ∃ ks, H dF = some (.dK ks) ∧ ∀ p ∈ ps, valV ks (Sum.inr p.nm) = some (.int (factorOf (grainTo ps) p))
  kS : ∃ ks, H dS = some (.dK ks) ∧ ∀ p ∈ ps, valV ks (Sum.inr p.nm) = some (.int (shownOf (grainTo ps) p))
  kB : ∃ ks, H dB = some (.dK ks) ∧ ∀ p ∈ ps, ∃ (a : Addr) (ys : List Str), valV ks (Sum.inr p.nm) = some (.ref a) ∧ H a = some (.tup (ys.map V.str)) ∧ ys.Perm (rightsOf as p.nm) ∧ sortedS ys = true
  kT : ∃ ks, H dT = some (.dK ks) ∧ ∀ p ∈ ps, ∃ (a : Addr) (N : List (Addr × Tri)), valV ks (Sum.inr p.nm) = some (.ref a) ∧ H a = some (.tup (refsT N)) ∧ tris N = stripF p (factorOf (grainTo ps) p) (cuesC L) ∧ ∀ e ∈ N, TAt H e
  kQ : ∃ ks, H dQ = some (.dK ks) ∧ ∀ p ∈ ps, ∃ (a : Addr) (D : List (Addr × Duo)), valV ks (Sum.inr p.nm) = some (.ref a) ∧ H a = some (.tup (refsD D)) ∧ duos D = sendsF p (cuesC L) (stripF p (factorOf (grainTo ps) p) (cuesC L)) ∧ ∀ e ∈ D, DAt H e
theorem PlanB.keep {H H' : Hp} {CR xr pt nt at' st et dP dF dS dB dT dQ : Addr} {len : Int} {L : List (Addr × Cue)} {ps : List Piece} {as : List (Str × Str)} {ss es : List Str}
    (h : PlanB H CR xr pt nt at' st et dP dF dS dB dT dQ len L ps as ss es) (s : Same H H') : PlanB H' CR xr pt nt at' st et dP dF dS dB dT dQ len L ps as ss es where
  reel := h.reel.keep s
  good := h.good
  few := h.few
  one := h.one
  pieces := let ⟨M, a, b, c⟩ := h.pieces; ⟨M, s _ _ a, b, fun e he => (c e he).keep s⟩
  names := s _ _ h.names
  arrows := let ⟨M, a, b, c⟩ := h.arrows; ⟨M, s _ _ a, b, fun e he => (c e he).keep s⟩
  ends := h.ends
  starts := s _ _ h.starts
  lasts := s _ _ h.lasts
  kP := let ⟨k, a, b⟩ := h.kP; ⟨k, s _ _ a, fun p hp => let ⟨c, d, e⟩ := b p hp; ⟨c, d, e.keep s⟩⟩
  kF := let ⟨k, a, b⟩ := h.kF; ⟨k, s _ _ a, b⟩
  kS := let ⟨k, a, b⟩ := h.kS; ⟨k, s _ _ a, b⟩
  kB := let ⟨k, a, b⟩ := h.kB; ⟨k, s _ _ a, fun p hp => let ⟨c, d, e, f, g⟩ := b p hp; ⟨c, d, e, s _ _ f, g⟩⟩
  kT := let ⟨k, a, b⟩ := h.kT; ⟨k, s _ _ a, fun p hp => let ⟨c, d, e, f, g, i⟩ := b p hp; ⟨c, d, e, s _ _ f, g, fun x hx => (i x hx).keep s⟩⟩
  kQ := let ⟨k, a, b⟩ := h.kQ; ⟨k, s _ _ a, fun p hp => let ⟨c, d, e, f, g, i⟩ := b p hp; ⟨c, d, e, s _ _ f, g, fun x hx => (i x hx).keep s⟩⟩
/-- the plan at x -/
def PlanAt (H : Hp) (CR CP x : Addr) (len : Int) (L : List (Addr × Cue)) (ps : List Piece) (as : List (Str × Str)) (ss es : List Str) : Prop := ∃ dx xr pt nt at' st et dP dF dS dB dT dQ : Addr,
  H x = some (.ins CP dx (planF (.ref xr) (.ref pt) (.ref nt) (.ref at') (.ref st) (.ref et) (.int (grainTo ps)) (.ref dP) (.ref dF) (.ref dS) (.ref dB) (.ref dT) (.ref dQ))) ∧
  PlanB H CR xr pt nt at' st et dP dF dS dB dT dQ len L ps as ss es
theorem PlanAt.keep {H H' : Hp} {CR CP x : Addr} {len : Int} {L : List (Addr × Cue)} {ps : List Piece} {as : List (Str × Str)} {ss es : List Str} (h : PlanAt H CR CP x len L ps as ss es) (s : Same H H') : PlanAt H' CR CP x len L ps as ss es := by
  obtain ⟨dx, xr, pt, nt, at', st, et, dP, dF, dS, dB, dT, dQ, h1, h2⟩ := h
  exact ⟨dx, xr, pt, nt, at', st, et, dP, dF, dS, dB, dT, dQ, s _ _ h1, h2.keep s⟩
end Sea
namespace Sea
open PySem PySem.Spec PyProof.Rows L2
/-! Plan(..) of what is good -/
def spPlan (CR CP : Addr) : Sp := fun vs H Q _ => ∃ (x dx xr ap aa sa ea : Addr) (len : Int) (L : List (Addr × Cue)) (M : List (Addr × Piece)) (A : List (Addr × (Str × Str))) (ss es : List Str),
  vs = [.ref x, .ref xr, .ref ap, .ref aa, .ref sa, .ref ea] ∧ H x = some (.ins CP dx []) ∧ ReelAt (rest x H) CR xr len L ∧ L.length ≤ 100 ∧ ((rest x H) ap = some (.tup (refsP M)) ∨ (rest x H) ap = some (.lst (refsP M))) ∧ (∀ e ∈ M, PAt (rest x H) e ∧ GoodP len e.2) ∧
  (1 ≤ M.length ∧ M.length ≤ 12) ∧ ((pcs M).map (·.nm)).Nodup ∧ ((rest x H) aa = some (.tup (refsA A)) ∨ (rest x H) aa = some (.lst (refsA A))) ∧ (∀ e ∈ A, AAt (rest x H) e ∧ e.2.1 ∈ (pcs M).map (·.nm) ∧ e.2.2 ∈ (pcs M).map (·.nm)) ∧ (prs A).Nodup ∧ A.length ≤ 1000 ∧
  ((rest x H) sa = some (.tup (ss.map V.str)) ∨ (rest x H) sa = some (.lst (ss.map V.str))) ∧ Chosen ((pcs M).map (·.nm)) ss ∧ ((rest x H) ea = some (.tup (es.map V.str)) ∨ (rest x H) ea = some (.lst (es.map V.str))) ∧ Chosen ((pcs M).map (·.nm)) es ∧
  (∀ z ∈ (pcs M).map (·.nm), Both (prs A) ss es z) ∧ ∀ H', KB x H H' → PlanAt H' CR CP x len L (pcs M) (prs A) ss es → Q .non H'
theorem dict_next {G : Hp → Str → V → Prop} (GK : ∀ H H' y v, KT H H' → G H y v → G H' y v) {Hk H H5 : Hp} {D : Addr} {kvs : List (Key × V)} {ns : List Str} {i : Nat} {z : Str} {v : V} (hD : Hk D = none) (hs : Same Hk H) (hd : H D = some (.dK kvs)) (hl : kvs.length ≤ i)
    (hall : ∀ y ∈ ns.take i, ∃ v, valV kvs (Sum.inr y) = some v ∧ G H y v) (s5 : Same H H5) (hz : ns[i]? = some z) (hv : G H5 z v) :
    Same Hk (upd H5 D (.dK (putK kvs (Sum.inr z) v))) ∧ ∃ ks, upd H5 D (.dK (putK kvs (Sum.inr z) v)) D = some (.dK ks) ∧ ks.length ≤ i + 1 ∧ ∀ y ∈ ns.take (i + 1), ∃ v', valV ks (Sum.inr y) = some v' ∧ G (upd H5 D (.dK (putK kvs (Sum.inr z) v))) y v' := by
  have ko : KT H5 (upd H5 D (.dK (putK kvs (Sum.inr z) v))) := (KT.refl _).overK (s5 _ _ hd)
  have st := dict_step (G := G (upd H5 D (.dK (putK kvs (Sum.inr z) v)))) (kvs := kvs) (ns := ns) (i := i) (fun y hy => by
    obtain ⟨v', h1, h2⟩ := hall y hy
    exact ⟨v', h1, GK _ _ _ _ ko (GK _ _ _ _ (.of_same s5) h2)⟩) hz (GK _ _ _ _ ko hv)
  refine ⟨fun b o hb => ?_, _, upd_same, ?_, st⟩
  · rw [upd_ne (ne_of_none hb hD)]
    exact s5 _ _ (hs _ _ hb)
  · have := length_putK kvs (Sum.inr z : Key) v
    omega
theorem by_name {ps : List Piece} (nd : (ps.map (·.nm)).Nodup) {p p' : Piece} (h : p ∈ ps) (h' : p' ∈ ps) (e : p'.nm = p.nm) : p' = p := by
  obtain ⟨i, hi⟩ := List.getElem?_of_mem h
  obtain ⟨j, hj⟩ := List.getElem?_of_mem h'
  have h1 : (ps.map (·.nm))[i]? = some p.nm := by rw [List.getElem?_map, hi]; rfl
  have h2 : (ps.map (·.nm))[j]? = some p.nm := by rw [List.getElem?_map, hj]; exact congrArg some e
  have hl := (List.getElem?_eq_some_iff.mp h1).1
  have := (List.getElem?_inj hl nd).mp (h1.trans h2.symm)
  subst this
  rw [hi] at hj
  exact (Option.some.inj hj).symm
def GP (ps : List Piece) : Hp → Str → V → Prop := fun H y v => ∃ p ∈ ps, p.nm = y ∧ ∃ a, v = .ref a ∧ PAt H (a, p)
def GI (ps : List Piece) (f : Piece → Int) : Hp → Str → V → Prop := fun _ y v => ∃ p ∈ ps, p.nm = y ∧ v = .int (f p)
def GB (as : List (Str × Str)) : Hp → Str → V → Prop := fun H y v => ∃ (a : Addr) (ys : List Str), v = .ref a ∧ H a = some (.tup (ys.map V.str)) ∧ ys.Perm (rightsOf as y) ∧ sortedS ys = true
def GT (ps : List Piece) (f : Piece → List Tri) : Hp → Str → V → Prop := fun H y v => ∃ p ∈ ps, p.nm = y ∧ ∃ (a : Addr) (N : List (Addr × Tri)), v = .ref a ∧ H a = some (.tup (refsT N)) ∧ tris N = f p ∧ ∀ e ∈ N, TAt H e
def GD (ps : List Piece) (f : Piece → List Duo) : Hp → Str → V → Prop := fun H y v => ∃ p ∈ ps, p.nm = y ∧ ∃ (a : Addr) (N : List (Addr × Duo)), v = .ref a ∧ H a = some (.tup (refsD N)) ∧ duos N = f p ∧ ∀ e ∈ N, DAt H e
theorem GP.kt {ps : List Piece} : ∀ H H' y v, KT H H' → GP ps H y v → GP ps H' y v := fun _ _ _ _ k ⟨p, h, e, a, f, g⟩ => ⟨p, h, e, a, f, g.kt k⟩
theorem GI.kt {ps : List Piece} {f : Piece → Int} : ∀ H H' y v, KT H H' → GI ps f H y v → GI ps f H' y v := fun _ _ _ _ _ h => h
theorem GB.kt {as : List (Str × Str)} : ∀ H H' y v, KT H H' → GB as H y v → GB as H' y v := fun _ _ _ _ k ⟨a, ys, e, h, r⟩ => ⟨a, ys, e, k _ _ h, r⟩
theorem GT.kt {ps : List Piece} {f : Piece → List Tri} : ∀ H H' y v, KT H H' → GT ps f H y v → GT ps f H' y v := fun _ _ _ _ k ⟨p, h, e, a, N, e1, e2, e3, e4⟩ => ⟨p, h, e, a, N, e1, k _ _ e2, e3, fun d hd => (e4 d hd).kt k⟩
theorem GD.kt {ps : List Piece} {f : Piece → List Duo} : ∀ H H' y v, KT H H' → GD ps f H y v → GD ps f H' y v := fun _ _ _ _ k ⟨p, h, e, a, N, e1, e2, e3, e4⟩ => ⟨p, h, e, a, N, e1, k _ _ e2, e3, fun d hd => (e4 d hd).kt k⟩
/-- a dict by the names, at the end -/
def DictN (G : Hp → Str → V → Prop) (ns : List Str) (H : Hp) (d : Addr) : Prop := ∃ ks, H d = some (.dK ks) ∧ ∀ y ∈ ns, ∃ v, valV ks (Sum.inr y) = some v ∧ G H y v
theorem DictN.keep {G : Hp → Str → V → Prop} (GK : ∀ H H' y v, KT H H' → G H y v → G H' y v) {ns : List Str} {H H' : Hp} {d : Addr} (h : DictN G ns H d) (s : Same H H') : DictN G ns H' d :=
  let ⟨ks, h1, h2⟩ := h; ⟨ks, s _ _ h1, fun y hy => let ⟨v, h3, h4⟩ := h2 y hy; ⟨v, h3, GK _ _ _ _ (.of_same s) h4⟩⟩
/-- from the heap to what is beside x -/
theorem tup_rest {x C dx : Addr} {fs : List (Str × V)} {H : Hp} (hx : H x = some (.ins C dx fs)) : KT H (rest x H) := fun a xs h => rest_at hx h fun z e => by cases e
theorem DictN.rest {G : Hp → Str → V → Prop} (GK : ∀ H H' y v, KT H H' → G H y v → G H' y v) {ns : List Str} {x C dx d : Addr} {fs : List (Str × V)} {H : Hp} (hx : H x = some (.ins C dx fs)) (h : DictN G ns H d) : DictN G ns (rest x H) d :=
  let ⟨ks, h1, h2⟩ := h; ⟨ks, rest_at hx h1 (fun z e => by cases e), fun y hy => let ⟨v, h3, h4⟩ := h2 y hy; ⟨v, h3, GK _ _ _ _ (tup_rest hx) h4⟩⟩
/-- tuple(..) where K is said -/
def rTupOf (K : PySem.W.Frag) : List V → Hp → VK → Prop := fun xs H Q => ∃ p ys, xs = [.ref p] ∧ ((SqL K H p ys ∧ ∀ l, H l = none → Q (.ref l) (upd H l (.tup ys))) ∨ (SqT K H p ys ∧ Q (.ref p) H))
theorem cr_tupOf {X : Cx} : CallR X (.type "tuple") (rTupOf X.K) := call_tuple_of
section
variable {P : Program} {w : World} {K : PySem.W.Frag} {mg : Str → Option Value} {base : Heap} {CR CP fR fP : Addr}
theorem ok_plan {f : Addr} {fd : FuncData} (F : Fun K "__init__" "Plan.__init__" s_Plan___init__ f fd) (TP : PlC K mg CP fP) (m_tuple : mg "tuple" = none) (m_sorted : mg "sorted" = none) (g_lcm : mg "lcm" = some (.builtin "math.lcm"))
    (c_judged_pieces : Cal P w K mg base 4 "judged_pieces" (spPieces CR)) (c_judged_arrows : Cal P w K mg base 3 "judged_arrows" spArrowsJ) (c_judged_starts : Cal P w K mg base 3 "judged_starts" spChosen) (c_judged_ends : Cal P w K mg base 3 "judged_ends" spChosen)
    (c_first_unreached : Cal P w K mg base 2 "first_unreached" spUnreach) (c_strip_of_piece : Cal P w K mg base 1 "strip_of_piece" (spStrip CR)) (c_sends_of_piece : Cal P w K mg base 1 "sends_of_piece" (spSends CR)) :
    FnOk P w K mg base CX0 5 f fd ["self", "reel", "pieces", "arrows", "starts", "ends"] (spPlan CR CP) := by
  refine F.ok sc_Plan___init__ (fun vs H Q E h => ?_) (fun cdv A outer s H vs Q E hr h => ?_)
  · obtain ⟨x, dx, xr, ap, aa, sa, ea, len, L, M, As, ss, es, rfl, _⟩ := h
    rfl
  · obtain ⟨x, dx, xr, ap, aa, sa, ea, len, L, M, As, ss, es, rfl, hx, hR, lL, hap, hM, ⟨lM1, lM12⟩, nd, haa, hA, ndA, lA, hsa, cS, hea, cE, both, q⟩ := h
    refine ⟨_, (pss_cons (ps_fld (pv 0) (pv 1) rfl)
    (pss_cons (ps_fld (pv 0) (pe_c c_judged_pieces hr (by decide) rfl (pa_cons (pv 1) (pa_cons (pv 2) pa_nil))) rfl)
    (pss_cons (ps_fld (pv 0) (pe_callTy call_tuple_of (by rfl) m_tuple (by decide +kernel) (pa_cons (pe_lc (own := [("piece", 6)]) rfl sc_Plan___init__.nd (pi_tup (pe_fld (pv 0) rfl)) (blkOk_by (N := N_Plan___init__) (sc := defScope s_Plan___init__) (by decide +kernel)) (fun _ _ _ _ _ => (pg_name (i := 6) sc_Plan___init__.nd rfl (Or.inl rfl))) (fun _ _ _ _ _ => pts_nil) (fun _ _ _ _ _ => (pe_ix (show IxR _ (rIxT K) from ix_tup) (pv 6) (pe_int) (fun _ _ => rfl)))) pa_nil)) rfl)
    (pss_cons (ps_fld (pv 0) (pe_c c_judged_arrows hr (by decide) rfl (pa_cons (pe_fld (pv 0) rfl) (pa_cons (pv 3) pa_nil))) rfl)
    (pss_cons (ps_fld (pv 0) (pe_c c_judged_starts hr (by decide) rfl (pa_cons (pe_fld (pv 0) rfl) (pa_cons (pv 4) pa_nil))) rfl)
    (pss_cons (ps_fld (pv 0) (pe_c c_judged_ends hr (by decide) rfl (pa_cons (pe_fld (pv 0) rfl) (pa_cons (pv 5) pa_nil))) rfl)
    (pss_cons (ps_set (i := 7) sc_Plan___init__.nd rfl (Or.inl rfl) (pe_c c_first_unreached hr (by decide) rfl (pa_cons (pe_fld (pv 0) rfl) (pa_cons (pe_fld (pv 0) rfl) (pa_cons (pe_fld (pv 0) rfl) (pa_cons (pe_fld (pv 0) rfl) pa_nil))))))
    (pss_cons (ps_if (pt_cmpR op_notN (pv 7) (pe_non) (nomark _))
    (pss_one ps_never)
    pss_nil)
    (pss_cons (ps_set (i := 8) sc_Plan___init__.nd rfl (Or.inr rfl) (pe_int))
    (pss_cons (ps_for PassesOwn.never rfl (pi_tup (pe_fld (pv 0) rfl)) (pg_name (i := 6) sc_Plan___init__.nd rfl (Or.inl rfl))
    (pss_one (ps_set (i := 8) sc_Plan___init__.nd rfl (Or.inr rfl) (pe_callBfun cr_lcm rfl g_lcm (pa_cons (pv 8) (pa_cons (pe_ix ix_tup (pv 6) (pe_int) (fun _ _ => rfl)) pa_nil))))))
    (pss_cons (ps_fld (pv 0) (pv 8) rfl)
    (pss_cons (ps_fld (pv 0) (pe_dc (own := [("piece", 6)]) rfl sc_Plan___init__.nd (pi_tup (pe_fld (pv 0) rfl)) (blkOk_by (N := N_Plan___init__) (sc := defScope s_Plan___init__) (by decide +kernel)) (fun _ _ _ _ _ => (pg_name (i := 6) sc_Plan___init__.nd rfl (Or.inl rfl))) (fun _ _ _ _ _ => pts_nil) (fun _ _ _ _ _ => (pe_ix (show IxR _ (rIxT K) from ix_tup) (pv 6) (pe_int) (fun _ _ => rfl))) (fun _ _ _ _ _ => (pv 6))) rfl)
    (pss_cons (ps_fld (pv 0) (pe_dc (own := [("piece", 6)]) rfl sc_Plan___init__.nd (pi_tup (pe_fld (pv 0) rfl)) (blkOk_by (N := N_Plan___init__) (sc := defScope s_Plan___init__) (by decide +kernel)) (fun _ _ _ _ _ => (pg_name (i := 6) sc_Plan___init__.nd rfl (Or.inl rfl))) (fun _ _ _ _ _ => pts_nil) (fun _ _ _ _ _ => (pe_ix (show IxR _ (rIxT K) from ix_tup) (pv 6) (pe_int) (fun _ _ => rfl))) (fun _ _ _ _ _ => by exact (pe_op op_fdivN (pe_op op_mul (pe_ix (show IxR _ (rIxT K) from ix_tup) (pv 6) (pe_int) (fun _ _ => rfl)) (pv 8)) (pe_ix (show IxR _ (rIxT K) from ix_tup) (pv 6) (pe_int) (fun _ _ => rfl))))) rfl)
    (pss_cons (ps_fld (pv 0) (pe_dc (own := [("piece", 6)]) rfl sc_Plan___init__.nd (pi_tup (pe_fld (pv 0) rfl)) (blkOk_by (N := N_Plan___init__) (sc := defScope s_Plan___init__) (by decide +kernel)) (fun _ _ _ _ _ => (pg_name (i := 6) sc_Plan___init__.nd rfl (Or.inl rfl))) (fun _ _ _ _ _ => pts_nil) (fun _ _ _ _ _ => (pe_ix (show IxR _ (rIxT K) from ix_tup) (pv 6) (pe_int) (fun _ _ => rfl))) (fun _ _ _ _ _ => by exact (pe_op op_mul (pe_op op_sub (pe_ix (show IxR _ (rIxT K) from ix_tup) (pv 6) (pe_int) (fun _ _ => rfl)) (pe_ix (show IxR _ (rIxT K) from ix_tup) (pv 6) (pe_int) (fun _ _ => rfl))) (pe_dget (hu_of hr) (show PE _ _ (tFld K (tVar 0) "_factors") from pe_fld (pv 0) rfl) (pe_ix (show IxR _ (rIxT K) from ix_tup) (pv 6) (pe_int) (fun _ _ => rfl)) (fun _ _ => rfl))))) rfl)
    (pss_cons (ps_fld (pv 0) (pe_dc (own := [("name", 9)]) rfl sc_Plan___init__.nd (pi_tup (pe_fld (pv 0) rfl)) (blkOk_by (N := N_Plan___init__) (sc := defScope s_Plan___init__) (by decide +kernel)) (fun _ _ _ _ _ => (pg_name (i := 9) sc_Plan___init__.nd rfl (Or.inr rfl))) (fun _ _ _ _ _ => pts_nil) (fun _ _ _ _ _ => (pv 9)) (fun _ _ _ _ _ => by exact (pe_callTy (show CallR _ (.type "tuple") (rTupOf K) from cr_tupOf) (by rfl) m_tuple (by decide +kernel) (pa_cons (pe_callB (show CallR _ (.builtin "sorted") (rSortedS K) from cr_sortedS) (by rfl) m_sorted (by decide +kernel) (pa_cons (pe_lc (own := [("left", 10), ("right", 11)]) (g := gTup K 2 (gCons (gName 10) (gCons (gName 11) gNil))) rfl sc_Plan___init__.nd (show PI _ _ _ (iTup K (tFld K (tVar 0) "arrows")) from pi_tup (pe_fld (pv 0) rfl)) (blkOk_by (N := N_Plan___init__) (by rfl)) (fun _ _ _ _ _ => by exact (pg_tup rfl (pgs_cons (pg_name (i := 10) sc_Plan___init__.nd rfl (Or.inl rfl)) (pgs_cons (pg_name (i := 11) sc_Plan___init__.nd rfl (Or.inl rfl)) pgs_nil)))) (fun _ _ _ _ _ => pts_one (pt_cmpR op_eq (pv 10) (pv 9) (nomark _))) (fun _ _ _ _ _ => (pv 11))) pa_nil)) pa_nil)))) rfl)
    (pss_cons (ps_fld (pv 0) (pe_dc (own := [("name", 9)]) rfl sc_Plan___init__.nd (pi_tup (pe_fld (pv 0) rfl)) (blkOk_by (N := N_Plan___init__) (sc := defScope s_Plan___init__) (by decide +kernel)) (fun _ _ _ _ _ => (pg_name (i := 9) sc_Plan___init__.nd rfl (Or.inl rfl))) (fun _ _ _ _ _ => pts_nil) (fun _ _ _ _ _ => (pv 9)) (fun _ _ _ _ _ => by exact (pe_c c_strip_of_piece hr (by decide) rfl (pa_cons (pv 1) (pa_cons (pe_dget (hu_of hr) (show PE _ _ (tFld K (tVar 0) "_pieces") from pe_fld (pv 0) rfl) (pv 9) (fun _ _ => rfl)) (pa_cons (pe_dget (hu_of hr) (show PE _ _ (tFld K (tVar 0) "_factors") from pe_fld (pv 0) rfl) (pv 9) (fun _ _ => rfl)) pa_nil)))))) rfl)
    (pss_one (ps_fld (pv 0) (pe_dc (own := [("name", 9)]) rfl sc_Plan___init__.nd (pi_tup (pe_fld (pv 0) rfl)) (blkOk_by (N := N_Plan___init__) (sc := defScope s_Plan___init__) (by decide +kernel)) (fun _ _ _ _ _ => (pg_name (i := 9) sc_Plan___init__.nd rfl (Or.inl rfl))) (fun _ _ _ _ _ => pts_nil) (fun _ _ _ _ _ => (pv 9)) (fun _ _ _ _ _ => by exact (pe_c c_sends_of_piece hr (by decide) rfl (pa_cons (pv 1) (pa_cons (pe_dget (hu_of hr) (show PE _ _ (tFld K (tVar 0) "_pieces") from pe_fld (pv 0) rfl) (pv 9) (fun _ _ => rfl)) (pa_cons (pe_dget (hu_of hr) (show PE _ _ (tFld K (tVar 0) "_strips") from pe_fld (pv 0) rfl) (pv 9) (fun _ _ => rfl)) pa_nil)))))) rfl)))))))))))))))))), ?_⟩
    refine ⟨_, rfl, _, rfl, x, CP, dx, _, rfl, hx, TP.cl, TP.nR, (Nat.lt_of_lt_of_le Nat.zero_lt_one (by decide)), ?_⟩
    generalize hgH1 : upd H x (.ins CP dx (putF "reel" (.ref xr) [])) = H1
    have hxH1 : H1 x = some (.ins CP dx (putF "reel" (.ref xr) [])) := by rw [← hgH1]; exact upd_same
    have erH1 : rest x H1 = rest x H := by rw [← hgH1]; exact rest_upd x _ _
    have S1 : Same (rest x H) H1 := by rw [← erH1]; exact rest_le x H1
    refine ⟨_, rfl, _, rfl, xr, ap, len, L, M, rfl, hR.keep S1, hap.imp (S1 _ _) (S1 _ _), fun e he => ⟨(hM e he).1.keep S1, (hM e he).2⟩, lM1, lM12, nd, fun H2 pt M2 s2 hpt ep hat => ?_⟩
    have hx2 := s2 _ _ hxH1
    refine ⟨_, rfl, x, CP, dx, _, rfl, hx2, TP.cl, TP.nP, (Nat.lt_of_lt_of_le (few1 Nat.zero_lt_one) (by decide)), ?_⟩
    generalize hgH3 : upd H2 x (.ins CP dx (putF "pieces" (.ref pt) (putF "reel" (.ref xr) []))) = H3
    have hxH3 : H3 x = some (.ins CP dx (putF "pieces" (.ref pt) (putF "reel" (.ref xr) []))) := by rw [← hgH3]; exact upd_same
    have erH3 : rest x H3 = rest x H2 := by rw [← hgH3]; exact rest_upd x _ _
    have r2 : Same (rest x H) (rest x H3) := by rw [erH3, ← erH1]; exact rest_same s2
    have S3 := rest_le x H3
    have pt3 : rest x H3 pt = some (.tup (refsP M2)) := by rw [erH3]; exact rest_at hx2 hpt fun z e => by cases e
    have at3 : ∀ e ∈ M2, PAt (rest x H3) e := fun e he => by rw [erH3]; exact rest_at hx2 (hat e he) fun z e => by cases e
    refine ⟨_, rfl, x, CP, dx, _, _, rfl, hxH3, TP.cl, TP.nP, (by (repeat first | rw [lookup_putF, if_neg (by decide +kernel)] | rw [lookup_putF, if_pos rfl])), pt, rfl, ⟨_, SqT.of (S3 _ _ pt3)⟩, fun D hD => ?_⟩
    refine lc_it walk_tup (fun i H' => Same H3 H' ∧ H' D = some (.lst ((((pcs M2).take i).map (·.nm)).map V.str))) ⟨same_new hD, upd_same⟩ (fun i H' _ hq => SqT.of (hq.1 _ _ (S3 _ _ pt3))) ?_ ?_
    · rintro i y Ha Hb hi ⟨hs, hd⟩ ⟨rfl, hy⟩
      obtain ⟨e, he, rfl⟩ := ref_at hy
      have hA := hs _ _ (S3 _ _ (at3 e (List.mem_of_getElem? he)))
      have he2 : (pcs M2)[i]? = some e.2 := by rw [List.getElem?_map, he]; rfl
      have hi' := (List.getElem?_eq_some_iff.mp he2).1
      have lm2 : (pcs M2).length ≤ 12 := by rw [ep, List.length_map]; exact lM12
      refine ⟨rfl, _, rfl, e.1, _, 0, _, rfl, rfl, SqT.of hA, atI_nat (j := 0) rfl, _, hd, ?_, same_over hs hD, ?_⟩
      · rw [List.length_map, List.length_map, List.length_take]
        exact small_line (by omega)
      · rw [upd_same, List.take_add_one, he2, List.map_append, List.map_append]
        rfl
    rintro H4 ⟨s4, hd4⟩
    have lr : (refsP M2).length = (pcs M2).length := by rw [List.length_map, List.length_map]
    rw [lr, List.take_length, ep] at hd4
    refine ⟨D, _, rfl, .inl ⟨SqL.of hd4, fun nt hnt => ?_⟩⟩
    have s5 := s4.trans (same_new (o := .tup (((pcs M).map (·.nm)).map V.str)) hnt)
    generalize hg5 : upd H4 nt (.tup (((pcs M).map (·.nm)).map V.str)) = H5 at s5 ⊢
    have nt5 : H5 nt = some (.tup (((pcs M).map (·.nm)).map V.str)) := by rw [← hg5]; exact upd_same
    have hx5 := s5 _ _ hxH3
    refine ⟨_, rfl, x, CP, dx, _, rfl, hx5, TP.cl, TP.nN, (Nat.lt_of_lt_of_le (few1 (few1 Nat.zero_lt_one)) (by decide)), ?_⟩
    generalize hgH6 : upd H5 x (.ins CP dx (putF "_names" (.ref nt) (putF "pieces" (.ref pt) (putF "reel" (.ref xr) [])))) = H6
    have hxH6 : H6 x = some (.ins CP dx (putF "_names" (.ref nt) (putF "pieces" (.ref pt) (putF "reel" (.ref xr) [])))) := by rw [← hgH6]; exact upd_same
    have erH6 : rest x H6 = rest x H5 := by rw [← hgH6]; exact rest_upd x _ _
    have r6 : Same (rest x H3) (rest x H6) := by rw [erH6]; exact rest_same s5
    have S6 := rest_le x H6
    have nt6 : rest x H6 nt = some (.tup (((pcs M).map (·.nm)).map V.str)) := by rw [erH6]; exact rest_at hx5 nt5 fun z e => by cases e
    have q6 := r2.trans r6
    refine ⟨_, rfl, x, CP, dx, _, _, rfl, hxH6, TP.cl, TP.nN, (by (repeat first | rw [lookup_putF, if_neg (by decide +kernel)] | rw [lookup_putF, if_pos rfl])), _, rfl, nt, aa, (pcs M).map (·.nm), As, rfl, S6 _ _ nt6, ?_, (haa.imp (q6 _ _) (q6 _ _)).imp (S6 _ _) (S6 _ _), fun e he => ⟨((hA e he).1.keep q6).keep S6, (hA e he).2⟩, ndA, lA, fun H7 at2 A2 s7 hat7 eA hA7 => ?_⟩
    · intro n hn
      obtain ⟨p, hp, rfl⟩ := List.mem_map.mp hn
      obtain ⟨e, he, rfl⟩ := List.mem_map.mp hp
      exact (hM e he).2.nm
    have hx7 := s7 _ _ hxH6
    refine ⟨_, rfl, x, CP, dx, _, rfl, hx7, TP.cl, TP.nA, (Nat.lt_of_lt_of_le (few1 (few1 (few1 Nat.zero_lt_one))) (by decide)), ?_⟩
    generalize hgH8 : upd H7 x (.ins CP dx (putF "arrows" (.ref at2) (putF "_names" (.ref nt) (putF "pieces" (.ref pt) (putF "reel" (.ref xr) []))))) = H8
    have hxH8 : H8 x = some (.ins CP dx (putF "arrows" (.ref at2) (putF "_names" (.ref nt) (putF "pieces" (.ref pt) (putF "reel" (.ref xr) []))))) := by rw [← hgH8]; exact upd_same
    have erH8 : rest x H8 = rest x H7 := by rw [← hgH8]; exact rest_upd x _ _
    have r8 : Same (rest x H6) (rest x H8) := by rw [erH8]; exact rest_same s7
    have S8 := rest_le x H8
    have q8 := q6.trans r8
    have at8 : rest x H8 at2 = some (.tup (refsA A2)) := by rw [erH8]; exact rest_at hx7 hat7 fun z e => by cases e
    have A8 : ∀ e ∈ A2, AAt (rest x H8) e := fun e he => by rw [erH8]; exact rest_at hx7 (hA7 e he) fun z e => by cases e
    have nt8 := r8 _ _ nt6
    refine ⟨_, rfl, x, CP, dx, _, _, rfl, hxH8, TP.cl, TP.nN, (by (repeat first | rw [lookup_putF, if_neg (by decide +kernel)] | rw [lookup_putF, if_pos rfl])), _, rfl, nt, sa, (pcs M).map (·.nm), ss, rfl, S8 _ _ nt8, (hsa.imp (q8 _ _) (q8 _ _)).imp (S8 _ _) (S8 _ _), cS, fun H9 st s9 hst9 => ?_⟩
    have hx9 := s9 _ _ hxH8
    refine ⟨_, rfl, x, CP, dx, _, rfl, hx9, TP.cl, TP.nS, (Nat.lt_of_lt_of_le (few1 (few1 (few1 (few1 Nat.zero_lt_one)))) (by decide)), ?_⟩
    generalize hgH10 : upd H9 x (.ins CP dx (putF "starts" (.ref st) (putF "arrows" (.ref at2) (putF "_names" (.ref nt) (putF "pieces" (.ref pt) (putF "reel" (.ref xr) [])))))) = H10
    have hxH10 : H10 x = some (.ins CP dx (putF "starts" (.ref st) (putF "arrows" (.ref at2) (putF "_names" (.ref nt) (putF "pieces" (.ref pt) (putF "reel" (.ref xr) [])))))) := by rw [← hgH10]; exact upd_same
    have erH10 : rest x H10 = rest x H9 := by rw [← hgH10]; exact rest_upd x _ _
    have r10 : Same (rest x H8) (rest x H10) := by rw [erH10]; exact rest_same s9
    have S10 := rest_le x H10
    have q10 := q8.trans r10
    have st10 : rest x H10 st = some (.tup (ss.map V.str)) := by rw [erH10]; exact rest_at hx9 hst9 fun z e => by cases e
    have nt10 := r10 _ _ nt8
    refine ⟨_, rfl, x, CP, dx, _, _, rfl, hxH10, TP.cl, TP.nN, (by (repeat first | rw [lookup_putF, if_neg (by decide +kernel)] | rw [lookup_putF, if_pos rfl])), _, rfl, nt, ea, (pcs M).map (·.nm), es, rfl, S10 _ _ nt10, (hea.imp (q10 _ _) (q10 _ _)).imp (S10 _ _) (S10 _ _), cE, fun H11 et s11 het11 => ?_⟩
    have hx11 := s11 _ _ hxH10
    refine ⟨_, rfl, x, CP, dx, _, rfl, hx11, TP.cl, TP.nE, (Nat.lt_of_lt_of_le (few1 (few1 (few1 (few1 (few1 Nat.zero_lt_one))))) (by decide)), ?_⟩
    generalize hgH12 : upd H11 x (.ins CP dx (putF "ends" (.ref et) (putF "starts" (.ref st) (putF "arrows" (.ref at2) (putF "_names" (.ref nt) (putF "pieces" (.ref pt) (putF "reel" (.ref xr) []))))))) = H12
    have hxH12 : H12 x = some (.ins CP dx (putF "ends" (.ref et) (putF "starts" (.ref st) (putF "arrows" (.ref at2) (putF "_names" (.ref nt) (putF "pieces" (.ref pt) (putF "reel" (.ref xr) []))))))) := by rw [← hgH12]; exact upd_same
    have erH12 : rest x H12 = rest x H11 := by rw [← hgH12]; exact rest_upd x _ _
    have r12 : Same (rest x H10) (rest x H12) := by rw [erH12]; exact rest_same s11
    have S12 := rest_le x H12
    have q12 := q10.trans r12
    have et12 : rest x H12 et = some (.tup (es.map V.str)) := by rw [erH12]; exact rest_at hx11 het11 fun z e => by cases e
    have nt12 := r12 _ _ nt10
    have st12 := r12 _ _ st10
    have at12 := r12 _ _ (r10 _ _ at8)
    have A12 : ∀ e ∈ A2, AAt (rest x H12) e := fun e he => ((A8 e he).keep r10).keep r12
    have pt12 := r12 _ _ (r10 _ _ (r8 _ _ (r6 _ _ pt3)))
    have P12 : ∀ e ∈ M2, PAt (rest x H12) e := fun e he => ((((at3 e he).keep r6).keep r8).keep r10).keep r12
    have hR12 := hR.keep q12
    -- no name unreached
    have lA2 : A2.length ≤ 1000 := by
      have := congrArg List.length eA
      rw [List.length_map, List.length_map] at this
      omega
    have inA : ∀ e ∈ A2, e.2.1 ∈ (pcs M).map (·.nm) ∧ e.2.2 ∈ (pcs M).map (·.nm) := fun e he => by
      have : e.2 ∈ prs As := by rw [← eA]; exact List.mem_map.mpr ⟨e, he, rfl⟩
      obtain ⟨d, hd, ed⟩ := List.mem_map.mp this
      rw [← ed]
      exact (hA d hd).2
    have lns : ((pcs M).map (·.nm)).length ≤ 1000 := by
      rw [List.length_map, List.length_map]
      omega
    refine ⟨_, rfl, x, CP, dx, _, _, rfl, hxH12, TP.cl, TP.nN, (by (repeat first | rw [lookup_putF, if_neg (by decide +kernel)] | rw [lookup_putF, if_pos rfl])), _, rfl, x, CP, dx, _, _, rfl, hxH12, TP.cl, TP.nA, (by (repeat first | rw [lookup_putF, if_neg (by decide +kernel)] | rw [lookup_putF, if_pos rfl])), _, rfl, x, CP, dx, _, _, rfl, hxH12, TP.cl, TP.nS, (by (repeat first | rw [lookup_putF, if_neg (by decide +kernel)] | rw [lookup_putF, if_pos rfl])), _, rfl, x, CP, dx, _, _, rfl, hxH12, TP.cl, TP.nE, (by (repeat first | rw [lookup_putF, if_neg (by decide +kernel)] | rw [lookup_putF, if_pos rfl])), nt, at2, st, et, (pcs M).map (·.nm), ss, es, A2, rfl, S12 _ _ nt12, S12 _ _ at12, S12 _ _ st12, S12 _ _ et12, fun e he => ⟨(A12 e he).keep S12, inA e he⟩, lA2, cS.sub, cS.nd, cE.sub, cE.nd, lns, ?_, ?_⟩
    rotate_left
    · intro H' k z _ hz _ hb
      rw [eA] at hb
      exact absurd (both z (List.mem_of_getElem? hz)) hb
    intro H13 s13 _
    have hx13 := s13 _ _ hxH12
    have r13 : Same (rest x H12) (rest x H13) := rest_same s13
    have S13 := rest_le x H13
    have pt13 := r13 _ _ pt12
    have P13 : ∀ e ∈ M2, PAt (rest x H13) e := fun e he => (P12 e he).keep r13
    have dnb : ∀ p ∈ pcs M, 1 ≤ p.dn ∧ p.dn ≤ 6 := fun p hp => by
      obtain ⟨e, he, rfl⟩ := List.mem_map.mp hp
      exact ⟨(hM e he).2.d1, (hM e he).2.d6⟩
    refine ⟨_, rfl, rfl, _, rfl, _, rfl, x, CP, dx, _, _, rfl, hx13, TP.cl, TP.nP, (by (repeat first | rw [lookup_putF, if_neg (by decide +kernel)] | rw [lookup_putF, if_pos rfl])), pt, rfl, ⟨_, SqT.of (S13 _ _ pt13)⟩, ?_⟩
    refine for_it walk_tup (fun i σ H' => (∃ k6 : Option V, σ = [some (.ref x), some (.ref xr), some (.ref ap), some (.ref aa), some (.ref sa), some (.ref ea), k6, some .non, some (.int (grainTo ((pcs M).take i))), none, none, none]) ∧ H13 = H')
      ⟨⟨_, rfl⟩, rfl⟩ (fun i σ H' _ ⟨_, e⟩ => by subst e; exact SqT.of (S13 _ _ pt13)) ?_ ?_
    · rintro i y σ Ha Hb hi ⟨⟨k6, rfl⟩, rfl⟩ ⟨rfl, hy⟩
      obtain ⟨e, he, rfl⟩ := ref_at hy
      have hA := S13 _ _ (P13 e (List.mem_of_getElem? he))
      have he2 : (pcs M)[i]? = some e.2 := by rw [← ep, List.getElem?_map, he]; rfl
      have tk : (pcs M).take (i + 1) = (pcs M).take i ++ [e.2] := by rw [List.take_add_one, he2]; rfl
      have gb := grain_le (ps := (pcs M).take i) fun p hp => dnb p (List.mem_of_mem_take hp)
      have db := dnb e.2 (List.mem_of_getElem? he2)
      refine ⟨_, rfl, _, rfl, e.1, _, 4, _, rfl, rfl, SqT.of hA, atI_nat (j := 4) rfl, _, _, rfl, by omega, by omega, ⟨some (.ref e.1), ?_⟩, rfl⟩
      rw [tk, grain_snoc]
      rfl
    rintro σ H' ⟨⟨k6, rfl⟩, rfl⟩
    have lr2 : (refsP M2).length = (pcs M).length := by rw [← ep, List.length_map, List.length_map]
    rw [lr2, List.take_length]
    refine ⟨_, rfl, ?_⟩
    refine ⟨_, rfl, x, CP, dx, _, rfl, hx13, TP.cl, TP.nG, (Nat.lt_of_lt_of_le (few1 (few1 (few1 (few1 (few1 (few1 Nat.zero_lt_one)))))) (by decide)), ?_⟩
    generalize hgH14 : upd H13 x (.ins CP dx (putF "_grain" (.int (grainTo (pcs M))) (putF "ends" (.ref et) (putF "starts" (.ref st) (putF "arrows" (.ref at2) (putF "_names" (.ref nt) (putF "pieces" (.ref pt) (putF "reel" (.ref xr) [])))))))) = H14
    have hxH14 : H14 x = some (.ins CP dx (putF "_grain" (.int (grainTo (pcs M))) (putF "ends" (.ref et) (putF "starts" (.ref st) (putF "arrows" (.ref at2) (putF "_names" (.ref nt) (putF "pieces" (.ref pt) (putF "reel" (.ref xr) [])))))))) := by rw [← hgH14]; exact upd_same
    have erH14 : rest x H14 = rest x H13 := by rw [← hgH14]; exact rest_upd x _ _
    have P14 : ∀ e ∈ M2, PAt (rest x H14) e := fun e he => by rw [erH14]; exact P13 e he
    have pt14 : rest x H14 pt = some (.tup (refsP M2)) := by rw [erH14]; exact pt13
    have r14 : Same (rest x H12) (rest x H14) := by rw [erH14]; exact r13
    have S14 := rest_le x H14
    have nt14 := r14 _ _ nt12
    have at14 := r14 _ _ at12
    have R14 := hR12.keep r14
    have gb := grain_le dnb
    have fb : ∀ p ∈ pcs M, 0 ≤ factorOf (grainTo (pcs M)) p ∧ factorOf (grainTo (pcs M)) p ≤ 360 := fun p hp => by
      obtain ⟨e, he, rfl⟩ := List.mem_map.mp hp
      exact factor_le gb.1 gb.2 (hM e he).2.u1 (hM e he).2.u6 (hM e he).2.d1
    have all2 : (refsP M2).length = ((pcs M).map (·.nm)).length := lr2.trans (List.length_map ..).symm
    have lnm : ((pcs M).map (·.nm)).length ≤ 12 := by rw [List.length_map, List.length_map]; exact lM12
    have tkP : ∀ y ∈ (pcs M).map (·.nm), y ∈ ((pcs M).map (·.nm)).take (refsP M2).length := fun y hy => by rw [all2, List.take_length]; exact hy
    have tkN : ∀ y ∈ (pcs M).map (·.nm), y ∈ ((pcs M).map (·.nm)).take (((pcs M).map (·.nm)).map V.str).length := fun y hy => by rw [List.length_map, List.take_length]; exact hy
    have few12 : ∀ {n i : Nat}, n ≤ i → i ≤ 12 → n < sizeLine := fun h1 h2 => small_line (by omega)
    have SH14 := S14
    have tH14 : Same (rest x H14) (rest x H14) := Same.refl _
    refine ⟨_, rfl, x, CP, dx, _, _, rfl, hxH14, TP.cl, TP.nP, (by (repeat first | rw [lookup_putF, if_neg (by decide +kernel)] | rw [lookup_putF, if_pos rfl])), pt, rfl, ⟨_, SqT.of (SH14 _ _ (tH14 _ _ pt14))⟩, fun dP hdP => ?_⟩
    refine dc_tup (fun i H' => Same H14 H' ∧ ∃ ks, H' dP = some (.dK ks) ∧ ks.length ≤ i ∧ ∀ y ∈ ((pcs M).map (·.nm)).take i, ∃ v, valV ks (Sum.inr y) = some v ∧ GP (pcs M) H' y v) ⟨same_new hdP, [], upd_same, Nat.le_refl _, fun _ h => nomatch h⟩ (fun i H' _ hq => SqT.of (hq.1 _ _ (SH14 _ _ (tH14 _ _ pt14)))) ?_ ?_
    · rintro i y Ha hy ⟨hs, kvs, hd, hl, hall⟩
      obtain ⟨e, he, rfl⟩ := ref_at hy
      have hA := hs _ _ (SH14 _ _ (tH14 _ _ (P14 e (List.mem_of_getElem? he))))
      have he2 : (pcs M)[i]? = some e.2 := by rw [← ep, List.getElem?_map, he]; rfl
      have hz : ((pcs M).map (·.nm))[i]? = some e.2.nm := by rw [List.getElem?_map, he2]; rfl
      have hi12 : i ≤ 12 := by have := (List.getElem?_eq_some_iff.mp hz).1; omega
      have hm := List.mem_of_getElem? he2
      exact ⟨rfl, _, rfl, e.1, _, 0, _, rfl, rfl, SqT.of hA, atI_nat (j := 0) rfl, _, rfl, kvs, Sum.inr e.2.nm, rfl, hd, few12 hl hi12, dict_next GP.kt hdP hs hd hl hall (Same.refl _) hz ⟨e.2, hm, rfl, e.1, rfl, hA⟩⟩
    rintro H14c ⟨scH14, ks, hd, _, hall⟩
    have dkdP : DictN (GP (pcs M)) ((pcs M).map (·.nm)) H14c dP := ⟨ks, hd, fun y hy => hall y (tkP y hy)⟩
    have hxH14c := scH14 _ _ hxH14
    refine ⟨_, rfl, x, CP, dx, _, rfl, hxH14c, TP.cl, TP.nQ, (Nat.lt_of_lt_of_le (few1 (few1 (few1 (few1 (few1 (few1 (few1 Nat.zero_lt_one))))))) (by decide)), ?_⟩
    generalize hgH15 : upd H14c x (.ins CP dx (putF "_pieces" (.ref dP) (putF "_grain" (.int (grainTo (pcs M))) (putF "ends" (.ref et) (putF "starts" (.ref st) (putF "arrows" (.ref at2) (putF "_names" (.ref nt) (putF "pieces" (.ref pt) (putF "reel" (.ref xr) []))))))))) = H15
    have hxH15 : H15 x = some (.ins CP dx (putF "_pieces" (.ref dP) (putF "_grain" (.int (grainTo (pcs M))) (putF "ends" (.ref et) (putF "starts" (.ref st) (putF "arrows" (.ref at2) (putF "_names" (.ref nt) (putF "pieces" (.ref pt) (putF "reel" (.ref xr) []))))))))) := by rw [← hgH15]; exact upd_same
    have erH15 : rest x H15 = rest x H14c := by rw [← hgH15]; exact rest_upd x _ _
    have ddP : DictN (GP (pcs M)) ((pcs M).map (·.nm)) (rest x H15) dP := by rw [erH15]; exact dkdP.rest GP.kt hxH14c
    have kH15 : Same (rest x H14) (rest x H15) := by rw [erH15]; exact rest_same scH14
    have SH15 := rest_le x H15
    have tH15 : Same (rest x H14) (rest x H15) := tH14.trans kH15
    refine ⟨_, rfl, x, CP, dx, _, _, rfl, hxH15, TP.cl, TP.nP, (by (repeat first | rw [lookup_putF, if_neg (by decide +kernel)] | rw [lookup_putF, if_pos rfl])), pt, rfl, ⟨_, SqT.of (SH15 _ _ (tH15 _ _ pt14))⟩, fun dF hdF => ?_⟩
    refine dc_tup (fun i H' => Same H15 H' ∧ ∃ ks, H' dF = some (.dK ks) ∧ ks.length ≤ i ∧ ∀ y ∈ ((pcs M).map (·.nm)).take i, ∃ v, valV ks (Sum.inr y) = some v ∧ GI (pcs M) (factorOf (grainTo (pcs M))) H' y v) ⟨same_new hdF, [], upd_same, Nat.le_refl _, fun _ h => nomatch h⟩ (fun i H' _ hq => SqT.of (hq.1 _ _ (SH15 _ _ (tH15 _ _ pt14)))) ?_ ?_
    · rintro i y Ha hy ⟨hs, kvs, hd, hl, hall⟩
      obtain ⟨e, he, rfl⟩ := ref_at hy
      have hA := hs _ _ (SH15 _ _ (tH15 _ _ (P14 e (List.mem_of_getElem? he))))
      have he2 : (pcs M)[i]? = some e.2 := by rw [← ep, List.getElem?_map, he]; rfl
      have hz : ((pcs M).map (·.nm))[i]? = some e.2.nm := by rw [List.getElem?_map, he2]; rfl
      have hi12 : i ≤ 12 := by have := (List.getElem?_eq_some_iff.mp hz).1; omega
      have hm := List.mem_of_getElem? he2
      have db := dnb e.2 hm
      exact ⟨rfl, _, rfl, e.1, _, 0, _, rfl, rfl, SqT.of hA, atI_nat (j := 0) rfl, _, rfl, e.1, _, 3, _, rfl, rfl, SqT.of hA, atI_nat (j := 3) rfl, _, rfl, _, _, rfl, rfl, .inr ⟨by omega, by omega⟩, _, rfl, e.1, _, 4, _, rfl, rfl, SqT.of hA, atI_nat (j := 4) rfl, _, _, rfl, rfl, ⟨by omega, by omega⟩, kvs, Sum.inr e.2.nm, rfl, hd, few12 hl hi12, dict_next GI.kt hdF hs hd hl hall (Same.refl _) hz ⟨e.2, hm, rfl, rfl⟩⟩
    rintro H15c ⟨scH15, ks, hd, _, hall⟩
    have dkdF : DictN (GI (pcs M) (factorOf (grainTo (pcs M)))) ((pcs M).map (·.nm)) H15c dF := ⟨ks, hd, fun y hy => hall y (tkP y hy)⟩
    have hxH15c := scH15 _ _ hxH15
    refine ⟨_, rfl, x, CP, dx, _, rfl, hxH15c, TP.cl, TP.nF, (Nat.lt_of_lt_of_le (few1 (few1 (few1 (few1 (few1 (few1 (few1 (few1 Nat.zero_lt_one)))))))) (by decide)), ?_⟩
    generalize hgH16 : upd H15c x (.ins CP dx (putF "_factors" (.ref dF) (putF "_pieces" (.ref dP) (putF "_grain" (.int (grainTo (pcs M))) (putF "ends" (.ref et) (putF "starts" (.ref st) (putF "arrows" (.ref at2) (putF "_names" (.ref nt) (putF "pieces" (.ref pt) (putF "reel" (.ref xr) [])))))))))) = H16
    have hxH16 : H16 x = some (.ins CP dx (putF "_factors" (.ref dF) (putF "_pieces" (.ref dP) (putF "_grain" (.int (grainTo (pcs M))) (putF "ends" (.ref et) (putF "starts" (.ref st) (putF "arrows" (.ref at2) (putF "_names" (.ref nt) (putF "pieces" (.ref pt) (putF "reel" (.ref xr) [])))))))))) := by rw [← hgH16]; exact upd_same
    have erH16 : rest x H16 = rest x H15c := by rw [← hgH16]; exact rest_upd x _ _
    have ddF : DictN (GI (pcs M) (factorOf (grainTo (pcs M)))) ((pcs M).map (·.nm)) (rest x H16) dF := by rw [erH16]; exact dkdF.rest GI.kt hxH15c
    have kH16 : Same (rest x H15) (rest x H16) := by rw [erH16]; exact rest_same scH15
    have SH16 := rest_le x H16
    have tH16 : Same (rest x H14) (rest x H16) := tH15.trans kH16
    refine ⟨_, rfl, x, CP, dx, _, _, rfl, hxH16, TP.cl, TP.nP, (by (repeat first | rw [lookup_putF, if_neg (by decide +kernel)] | rw [lookup_putF, if_pos rfl])), pt, rfl, ⟨_, SqT.of (SH16 _ _ (tH16 _ _ pt14))⟩, fun dS hdS => ?_⟩
    refine dc_tup (fun i H' => Same H16 H' ∧ ∃ ks, H' dS = some (.dK ks) ∧ ks.length ≤ i ∧ ∀ y ∈ ((pcs M).map (·.nm)).take i, ∃ v, valV ks (Sum.inr y) = some v ∧ GI (pcs M) (shownOf (grainTo (pcs M))) H' y v) ⟨same_new hdS, [], upd_same, Nat.le_refl _, fun _ h => nomatch h⟩ (fun i H' _ hq => SqT.of (hq.1 _ _ (SH16 _ _ (tH16 _ _ pt14)))) ?_ ?_
    · rintro i y Ha hy ⟨hs, kvs, hd, hl, hall⟩
      obtain ⟨e, he, rfl⟩ := ref_at hy
      have hA := hs _ _ (SH16 _ _ (tH16 _ _ (P14 e (List.mem_of_getElem? he))))
      have he2 : (pcs M)[i]? = some e.2 := by rw [← ep, List.getElem?_map, he]; rfl
      have hz : ((pcs M).map (·.nm))[i]? = some e.2.nm := by rw [List.getElem?_map, he2]; rfl
      have hi12 : i ≤ 12 := by have := (List.getElem?_eq_some_iff.mp hz).1; omega
      have hm := List.mem_of_getElem? he2
      have f0 := fb e.2 hm
      obtain ⟨ksF, hF, hFall⟩ := ddF
      obtain ⟨vF, hvF, p', hp', en, rfl⟩ := hFall e.2.nm (List.mem_of_getElem? hz)
      obtain rfl : p' = e.2 := by_name nd hm hp' en
      have dg : DGet Ha dF (V.str e.2.nm) (some (.int (factorOf (grainTo (pcs M)) e.2))) := hvF ▸ DGet.k (k := Sum.inr e.2.nm) (hs _ _ (SH16 _ _ hF))
      exact ⟨rfl, _, rfl, e.1, _, 0, _, rfl, rfl, SqT.of hA, atI_nat (j := 0) rfl, _, rfl, e.1, _, 2, _, rfl, rfl, SqT.of hA, atI_nat (j := 2) rfl, _, rfl, e.1, _, 1, _, rfl, rfl, SqT.of hA, atI_nat (j := 1) rfl, _, _, rfl, rfl, _, rfl, x, CP, dx, _, _, rfl, (hs _ _ hxH16), TP.cl, TP.nF, (by (repeat first | rw [lookup_putF, if_neg (by decide +kernel)] | rw [lookup_putF, if_pos rfl])), _, rfl, e.1, _, 0, _, rfl, rfl, SqT.of hA, atI_nat (j := 0) rfl, dF, _, rfl, dg, _, _, rfl, rfl, .inr ⟨by omega, by omega⟩, kvs, Sum.inr e.2.nm, rfl, hd, few12 hl hi12, dict_next GI.kt hdS hs hd hl hall (Same.refl _) hz ⟨e.2, hm, rfl, rfl⟩⟩
    rintro H16c ⟨scH16, ks, hd, _, hall⟩
    have dkdS : DictN (GI (pcs M) (shownOf (grainTo (pcs M)))) ((pcs M).map (·.nm)) H16c dS := ⟨ks, hd, fun y hy => hall y (tkP y hy)⟩
    have hxH16c := scH16 _ _ hxH16
    refine ⟨_, rfl, x, CP, dx, _, rfl, hxH16c, TP.cl, TP.nH, (Nat.lt_of_lt_of_le (few1 (few1 (few1 (few1 (few1 (few1 (few1 (few1 (few1 Nat.zero_lt_one))))))))) (by decide)), ?_⟩
    generalize hgH17 : upd H16c x (.ins CP dx (putF "_shown" (.ref dS) (putF "_factors" (.ref dF) (putF "_pieces" (.ref dP) (putF "_grain" (.int (grainTo (pcs M))) (putF "ends" (.ref et) (putF "starts" (.ref st) (putF "arrows" (.ref at2) (putF "_names" (.ref nt) (putF "pieces" (.ref pt) (putF "reel" (.ref xr) []))))))))))) = H17
    have hxH17 : H17 x = some (.ins CP dx (putF "_shown" (.ref dS) (putF "_factors" (.ref dF) (putF "_pieces" (.ref dP) (putF "_grain" (.int (grainTo (pcs M))) (putF "ends" (.ref et) (putF "starts" (.ref st) (putF "arrows" (.ref at2) (putF "_names" (.ref nt) (putF "pieces" (.ref pt) (putF "reel" (.ref xr) []))))))))))) := by rw [← hgH17]; exact upd_same
    have erH17 : rest x H17 = rest x H16c := by rw [← hgH17]; exact rest_upd x _ _
    have ddS : DictN (GI (pcs M) (shownOf (grainTo (pcs M)))) ((pcs M).map (·.nm)) (rest x H17) dS := by rw [erH17]; exact dkdS.rest GI.kt hxH16c
    have kH17 : Same (rest x H16) (rest x H17) := by rw [erH17]; exact rest_same scH16
    have SH17 := rest_le x H17
    have tH17 : Same (rest x H14) (rest x H17) := tH16.trans kH17
    refine ⟨_, rfl, x, CP, dx, _, _, rfl, hxH17, TP.cl, TP.nN, (by (repeat first | rw [lookup_putF, if_neg (by decide +kernel)] | rw [lookup_putF, if_pos rfl])), nt, rfl, ⟨_, SqT.of (SH17 _ _ (tH17 _ _ nt14))⟩, fun dB hdB => ?_⟩
    refine dc_tup (fun i H' => Same H17 H' ∧ ∃ ks, H' dB = some (.dK ks) ∧ ks.length ≤ i ∧ ∀ y ∈ ((pcs M).map (·.nm)).take i, ∃ v, valV ks (Sum.inr y) = some v ∧ GB (prs As) H' y v) ⟨same_new hdB, [], upd_same, Nat.le_refl _, fun _ h => nomatch h⟩ (fun i H' _ hq => SqT.of (hq.1 _ _ (SH17 _ _ (tH17 _ _ nt14)))) ?_ ?_
    · rintro i y Ha hy ⟨hs, kvs, hd, hl, hall⟩
      obtain ⟨z, hz, rfl⟩ : ∃ z, ((pcs M).map (·.nm))[i]? = some z ∧ y = V.str z := by
        rw [List.getElem?_map] at hy
        cases q : ((pcs M).map (·.nm))[i]? with
        | none => rw [q] at hy; cases hy
        | some z => rw [q] at hy; exact ⟨z, rfl, (Option.some.inj hy).symm⟩
      have hi12 : i ≤ 12 := by have := (List.getElem?_eq_some_iff.mp hz).1; omega
      have hzm := List.mem_of_getElem? hz
      refine ⟨rfl, _, rfl, _, rfl, x, CP, dx, _, _, rfl, (hs _ _ hxH17), TP.cl, TP.nA, (by (repeat first | rw [lookup_putF, if_neg (by decide +kernel)] | rw [lookup_putF, if_pos rfl])), at2, rfl, ⟨_, SqT.of (hs _ _ (SH17 _ _ (tH17 _ _ at14)))⟩, fun Dl hDl => ?_⟩
      refine lc_it walk_tup (fun i' H' => Same Ha H' ∧ H' Dl = some (.lst ((rightsOf ((prs As).take i') z).map V.str))) ⟨same_new hDl, upd_same⟩ (fun i' H' _ hq => SqT.of (hq.1 _ _ (hs _ _ (SH17 _ _ (tH17 _ _ at14))))) ?_ ?_
      · rintro j y2 Hc Hd hj ⟨hs2, hd2⟩ ⟨rfl, hy2⟩
        obtain ⟨e, he, rfl⟩ := ref_at hy2
        have eA1 := hs2 _ _ (hs _ _ (SH17 _ _ (tH17 _ _ (r14 _ _ (A12 e (List.mem_of_getElem? he))))))
        have he2 : (prs As)[j]? = some e.2 := by rw [← eA, List.getElem?_map, he]; rfl
        have tk : rightsOf ((prs As).take (j + 1)) z = rightsOf ((prs As).take j) z ++ if e.2.1 = z then [e.2.2] else [] := by
          rw [List.take_add_one, he2]
          exact rights_snoc _ _ _
        have lrt : (rightsOf ((prs As).take j) z).length ≤ 1000 := by
          unfold rightsOf
          rw [List.length_map]
          refine Nat.le_trans (List.length_filter_le _ _) ?_
          rw [List.length_take, List.length_map]
          omega
        refine ⟨e.1, _, rfl, SqT.of eA1, rfl, _, _, rfl, _, _, rfl, rfl, rfl, _, rfl, _, rfl, rfl, _, rfl, ite2 (fun h => ?_) (fun h => ?_)⟩
        · have h' : e.2.1 = z := V.str.inj (of_decide_eq_true h)
          refine ⟨_, rfl, _, hd2, small_line (by rw [List.length_map]; omega), same_over hs2 hDl, ?_⟩
          rw [upd_same, tk, if_pos h', List.map_append]
          rfl
        · have h' : ¬ e.2.1 = z := fun q => h (decide_eq_true (congrArg V.str q))
          refine ⟨hs2, ?_⟩
          rw [tk, if_neg h', List.append_nil]
          exact hd2
      rintro Hd ⟨sd, hdl⟩
      have lrA : (refsA A2).length = (prs As).length := by rw [← eA, List.length_map, List.length_map]
      rw [lrA, List.take_length] at hdl
      have l64 : (rightsOf (prs As) z).length < 64 := by
        have := rights_few ndA (ns := (pcs M).map (·.nm)) (fun a ha => by
          obtain ⟨d, hd', rfl⟩ := List.mem_map.mp ha
          exact (hA d hd').2.2) z
        omega
      refine ⟨Dl, _, rfl, SqL.of hdl, l64, fun ys p hperm hsort hp => ⟨p, _, rfl, .inl ⟨SqL.of upd_same, fun l hl' => ?_⟩⟩⟩
      have s5 := (sd.trans (same_new (o := .lst (ys.map V.str)) hp)).trans (same_new (o := .tup (ys.map V.str)) hl')
      exact ⟨kvs, Sum.inr z, rfl, s5 _ _ hd, few12 hl hi12, dict_next GB.kt hdB hs hd hl hall s5 hz ⟨l, ys, rfl, upd_same, hperm, hsort⟩⟩
    rintro H17c ⟨scH17, ks, hd, _, hall⟩
    have dkdB : DictN (GB (prs As)) ((pcs M).map (·.nm)) H17c dB := ⟨ks, hd, fun y hy => hall y (tkN y hy)⟩
    have hxH17c := scH17 _ _ hxH17
    refine ⟨_, rfl, x, CP, dx, _, rfl, hxH17c, TP.cl, TP.nB, (Nat.lt_of_lt_of_le (few1 (few1 (few1 (few1 (few1 (few1 (few1 (few1 (few1 (few1 Nat.zero_lt_one)))))))))) (by decide)), ?_⟩
    generalize hgH18 : upd H17c x (.ins CP dx (putF "_behind" (.ref dB) (putF "_shown" (.ref dS) (putF "_factors" (.ref dF) (putF "_pieces" (.ref dP) (putF "_grain" (.int (grainTo (pcs M))) (putF "ends" (.ref et) (putF "starts" (.ref st) (putF "arrows" (.ref at2) (putF "_names" (.ref nt) (putF "pieces" (.ref pt) (putF "reel" (.ref xr) [])))))))))))) = H18
    have hxH18 : H18 x = some (.ins CP dx (putF "_behind" (.ref dB) (putF "_shown" (.ref dS) (putF "_factors" (.ref dF) (putF "_pieces" (.ref dP) (putF "_grain" (.int (grainTo (pcs M))) (putF "ends" (.ref et) (putF "starts" (.ref st) (putF "arrows" (.ref at2) (putF "_names" (.ref nt) (putF "pieces" (.ref pt) (putF "reel" (.ref xr) [])))))))))))) := by rw [← hgH18]; exact upd_same
    have erH18 : rest x H18 = rest x H17c := by rw [← hgH18]; exact rest_upd x _ _
    have ddB : DictN (GB (prs As)) ((pcs M).map (·.nm)) (rest x H18) dB := by rw [erH18]; exact dkdB.rest GB.kt hxH17c
    have kH18 : Same (rest x H17) (rest x H18) := by rw [erH18]; exact rest_same scH17
    have SH18 := rest_le x H18
    have tH18 : Same (rest x H14) (rest x H18) := tH17.trans kH18
    refine ⟨_, rfl, x, CP, dx, _, _, rfl, hxH18, TP.cl, TP.nN, (by (repeat first | rw [lookup_putF, if_neg (by decide +kernel)] | rw [lookup_putF, if_pos rfl])), nt, rfl, ⟨_, SqT.of (SH18 _ _ (tH18 _ _ nt14))⟩, fun dT hdT => ?_⟩
    refine dc_tup (fun i H' => Same H18 H' ∧ ∃ ks, H' dT = some (.dK ks) ∧ ks.length ≤ i ∧ ∀ y ∈ ((pcs M).map (·.nm)).take i, ∃ v, valV ks (Sum.inr y) = some v ∧ GT (pcs M) (fun p => stripF p (factorOf (grainTo (pcs M)) p) (cuesC L)) H' y v) ⟨same_new hdT, [], upd_same, Nat.le_refl _, fun _ h => nomatch h⟩ (fun i H' _ hq => SqT.of (hq.1 _ _ (SH18 _ _ (tH18 _ _ nt14)))) ?_ ?_
    · rintro i y Ha hy ⟨hs, kvs, hd, hl, hall⟩
      obtain ⟨z, hz, rfl⟩ : ∃ z, ((pcs M).map (·.nm))[i]? = some z ∧ y = V.str z := by
        rw [List.getElem?_map] at hy
        cases q : ((pcs M).map (·.nm))[i]? with
        | none => rw [q] at hy; cases hy
        | some z => rw [q] at hy; exact ⟨z, rfl, (Option.some.inj hy).symm⟩
      have hi12 : i ≤ 12 := by have := (List.getElem?_eq_some_iff.mp hz).1; omega
      have hzm := List.mem_of_getElem? hz
      obtain ⟨ksP, hP, hPall⟩ := ddP
      obtain ⟨vP, hvP, p, hp, en, a, rfl, hPA⟩ := hPall z hzm
      obtain ⟨ksF, hF, hFall⟩ := ddF
      obtain ⟨vF, hvF, p', hp', en', rfl⟩ := hFall z hzm
      obtain rfl : p' = p := by_name nd hp hp' (en'.trans en.symm)
      have f0 := fb p' hp
      have dg1 : DGet Ha dP (V.str z) (some (.ref a)) := hvP ▸ DGet.k (k := Sum.inr z) (hs _ _ (SH18 _ _ (kH18 _ _ (kH17 _ _ (kH16 _ _ hP)))))
      have dg2 : DGet Ha dF (V.str z) (some (.int (factorOf (grainTo (pcs M)) p'))) := hvF ▸ DGet.k (k := Sum.inr z) (hs _ _ (SH18 _ _ (kH18 _ _ (kH17 _ _ hF))))
      refine ⟨rfl, _, rfl, _, rfl, _, rfl, x, CP, dx, _, _, rfl, (hs _ _ hxH18), TP.cl, TP.nQ, (by (repeat first | rw [lookup_putF, if_neg (by decide +kernel)] | rw [lookup_putF, if_pos rfl])), _, rfl, dP, _, rfl, dg1, _, rfl, x, CP, dx, _, _, rfl, (hs _ _ hxH18), TP.cl, TP.nF, (by (repeat first | rw [lookup_putF, if_neg (by decide +kernel)] | rw [lookup_putF, if_pos rfl])), _, rfl, dF, _, rfl, dg2, xr, a, _, len, L, p', rfl, f0.1, by omega, ?_, lL, ?_, fun H' t N sN hN eN hT => ?_⟩
      · exact ((R14.keep tH18).keep SH18).keep hs
      · exact hs _ _ (SH18 _ _ (kH18 _ _ (kH17 _ _ (kH16 _ _ hPA))))
      exact ⟨kvs, Sum.inr z, rfl, sN _ _ hd, few12 hl hi12, dict_next GT.kt hdT hs hd hl hall sN hz ⟨p', hp, en, t, N, rfl, hN, eN, hT⟩⟩
    rintro H18c ⟨scH18, ks, hd, _, hall⟩
    have dkdT : DictN (GT (pcs M) (fun p => stripF p (factorOf (grainTo (pcs M)) p) (cuesC L))) ((pcs M).map (·.nm)) H18c dT := ⟨ks, hd, fun y hy => hall y (tkN y hy)⟩
    have hxH18c := scH18 _ _ hxH18
    refine ⟨_, rfl, x, CP, dx, _, rfl, hxH18c, TP.cl, TP.nT, (Nat.lt_of_lt_of_le (few1 (few1 (few1 (few1 (few1 (few1 (few1 (few1 (few1 (few1 (few1 Nat.zero_lt_one))))))))))) (by decide)), ?_⟩
    generalize hgH19 : upd H18c x (.ins CP dx (putF "_strips" (.ref dT) (putF "_behind" (.ref dB) (putF "_shown" (.ref dS) (putF "_factors" (.ref dF) (putF "_pieces" (.ref dP) (putF "_grain" (.int (grainTo (pcs M))) (putF "ends" (.ref et) (putF "starts" (.ref st) (putF "arrows" (.ref at2) (putF "_names" (.ref nt) (putF "pieces" (.ref pt) (putF "reel" (.ref xr) []))))))))))))) = H19
    have hxH19 : H19 x = some (.ins CP dx (putF "_strips" (.ref dT) (putF "_behind" (.ref dB) (putF "_shown" (.ref dS) (putF "_factors" (.ref dF) (putF "_pieces" (.ref dP) (putF "_grain" (.int (grainTo (pcs M))) (putF "ends" (.ref et) (putF "starts" (.ref st) (putF "arrows" (.ref at2) (putF "_names" (.ref nt) (putF "pieces" (.ref pt) (putF "reel" (.ref xr) []))))))))))))) := by rw [← hgH19]; exact upd_same
    have erH19 : rest x H19 = rest x H18c := by rw [← hgH19]; exact rest_upd x _ _
    have ddT : DictN (GT (pcs M) (fun p => stripF p (factorOf (grainTo (pcs M)) p) (cuesC L))) ((pcs M).map (·.nm)) (rest x H19) dT := by rw [erH19]; exact dkdT.rest GT.kt hxH18c
    have kH19 : Same (rest x H18) (rest x H19) := by rw [erH19]; exact rest_same scH18
    have SH19 := rest_le x H19
    have tH19 : Same (rest x H14) (rest x H19) := tH18.trans kH19
    refine ⟨_, rfl, x, CP, dx, _, _, rfl, hxH19, TP.cl, TP.nN, (by (repeat first | rw [lookup_putF, if_neg (by decide +kernel)] | rw [lookup_putF, if_pos rfl])), nt, rfl, ⟨_, SqT.of (SH19 _ _ (tH19 _ _ nt14))⟩, fun dQ hdQ => ?_⟩
    refine dc_tup (fun i H' => Same H19 H' ∧ ∃ ks, H' dQ = some (.dK ks) ∧ ks.length ≤ i ∧ ∀ y ∈ ((pcs M).map (·.nm)).take i, ∃ v, valV ks (Sum.inr y) = some v ∧ GD (pcs M) (fun p => sendsF p (cuesC L) (stripF p (factorOf (grainTo (pcs M)) p) (cuesC L))) H' y v) ⟨same_new hdQ, [], upd_same, Nat.le_refl _, fun _ h => nomatch h⟩ (fun i H' _ hq => SqT.of (hq.1 _ _ (SH19 _ _ (tH19 _ _ nt14)))) ?_ ?_
    · rintro i y Ha hy ⟨hs, kvs, hd, hl, hall⟩
      obtain ⟨z, hz, rfl⟩ : ∃ z, ((pcs M).map (·.nm))[i]? = some z ∧ y = V.str z := by
        rw [List.getElem?_map] at hy
        cases q : ((pcs M).map (·.nm))[i]? with
        | none => rw [q] at hy; cases hy
        | some z => rw [q] at hy; exact ⟨z, rfl, (Option.some.inj hy).symm⟩
      have hi12 : i ≤ 12 := by have := (List.getElem?_eq_some_iff.mp hz).1; omega
      have hzm := List.mem_of_getElem? hz
      obtain ⟨ksP, hP, hPall⟩ := ddP
      obtain ⟨vP, hvP, p, hp, en, a, rfl, hPA⟩ := hPall z hzm
      obtain ⟨ksT, hT, hTall⟩ := ddT
      obtain ⟨vT, hvT, p', hp', en', tt, N, rfl, hN1, eN1, hT1⟩ := hTall z hzm
      obtain rfl : p' = p := by_name nd hp hp' (en'.trans en.symm)
      have dg1 : DGet Ha dP (V.str z) (some (.ref a)) := hvP ▸ DGet.k (k := Sum.inr z) (hs _ _ (SH19 _ _ (kH19 _ _ (kH18 _ _ (kH17 _ _ (kH16 _ _ hP))))))
      have dg2 : DGet Ha dT (V.str z) (some (.ref tt)) := hvT ▸ DGet.k (k := Sum.inr z) (hs _ _ (SH19 _ _ hT))
      refine ⟨rfl, _, rfl, _, rfl, _, rfl, x, CP, dx, _, _, rfl, (hs _ _ hxH19), TP.cl, TP.nQ, (by (repeat first | rw [lookup_putF, if_neg (by decide +kernel)] | rw [lookup_putF, if_pos rfl])), _, rfl, dP, _, rfl, dg1, _, rfl, x, CP, dx, _, _, rfl, (hs _ _ hxH19), TP.cl, TP.nT, (by (repeat first | rw [lookup_putF, if_neg (by decide +kernel)] | rw [lookup_putF, if_pos rfl])), _, rfl, dT, _, rfl, dg2, xr, a, tt, len, L, p', N, rfl, ?_, ?_, ?_, fun d hd' => ?_, ?_, ?_, fun H' t D sN hN eD hT => ?_⟩
      · exact ((R14.keep tH19).keep SH19).keep hs
      · exact hs _ _ (SH19 _ _ (kH19 _ _ (kH18 _ _ (kH17 _ _ (kH16 _ _ hPA)))))
      · exact hs _ _ (SH19 _ _ hN1)
      · exact hs _ _ (SH19 _ _ (hT1 d hd'))
      · rw [eN1]
        exact nums_strip _ _ _
      · have h1 : (tris N).length = (stripF p' (factorOf (grainTo (pcs M)) p') (cuesC L)).length := congrArg List.length eN1
        have h2 := strip_len p' (factorOf (grainTo (pcs M)) p') (cuesC L)
        rw [List.length_map] at h1 h2
        omega
      rw [eN1] at eD
      exact ⟨kvs, Sum.inr z, rfl, sN _ _ hd, few12 hl hi12, dict_next GD.kt hdQ hs hd hl hall sN hz ⟨p', hp, en, t, D, rfl, hN, eD, hT⟩⟩
    rintro H19c ⟨scH19, ks, hd, _, hall⟩
    have dkdQ : DictN (GD (pcs M) (fun p => sendsF p (cuesC L) (stripF p (factorOf (grainTo (pcs M)) p) (cuesC L)))) ((pcs M).map (·.nm)) H19c dQ := ⟨ks, hd, fun y hy => hall y (tkN y hy)⟩
    have hxH19c := scH19 _ _ hxH19
    refine ⟨_, rfl, x, CP, dx, _, rfl, hxH19c, TP.cl, TP.nZ, (Nat.lt_of_lt_of_le (few1 (few1 (few1 (few1 (few1 (few1 (few1 (few1 (few1 (few1 (few1 (few1 Nat.zero_lt_one)))))))))))) (by decide)), ?_⟩
    generalize hgH20 : upd H19c x (.ins CP dx (putF "_sends" (.ref dQ) (putF "_strips" (.ref dT) (putF "_behind" (.ref dB) (putF "_shown" (.ref dS) (putF "_factors" (.ref dF) (putF "_pieces" (.ref dP) (putF "_grain" (.int (grainTo (pcs M))) (putF "ends" (.ref et) (putF "starts" (.ref st) (putF "arrows" (.ref at2) (putF "_names" (.ref nt) (putF "pieces" (.ref pt) (putF "reel" (.ref xr) [])))))))))))))) = H20
    have hxH20 : H20 x = some (.ins CP dx (putF "_sends" (.ref dQ) (putF "_strips" (.ref dT) (putF "_behind" (.ref dB) (putF "_shown" (.ref dS) (putF "_factors" (.ref dF) (putF "_pieces" (.ref dP) (putF "_grain" (.int (grainTo (pcs M))) (putF "ends" (.ref et) (putF "starts" (.ref st) (putF "arrows" (.ref at2) (putF "_names" (.ref nt) (putF "pieces" (.ref pt) (putF "reel" (.ref xr) [])))))))))))))) := by rw [← hgH20]; exact upd_same
    have erH20 : rest x H20 = rest x H19c := by rw [← hgH20]; exact rest_upd x _ _
    have ddQ : DictN (GD (pcs M) (fun p => sendsF p (cuesC L) (stripF p (factorOf (grainTo (pcs M)) p) (cuesC L)))) ((pcs M).map (·.nm)) (rest x H20) dQ := by rw [erH20]; exact dkdQ.rest GD.kt hxH19c
    have kH20 : Same (rest x H19) (rest x H20) := by rw [erH20]; exact rest_same scH19
    have SH20 := rest_le x H20
    have tH20 : Same (rest x H14) (rest x H20) := tH19.trans kH20
    have uP := (((((ddP.keep GP.kt kH16).keep GP.kt kH17).keep GP.kt kH18).keep GP.kt kH19).keep GP.kt kH20).keep GP.kt SH20
    have uF := ((((ddF.keep GI.kt kH17).keep GI.kt kH18).keep GI.kt kH19).keep GI.kt kH20).keep GI.kt SH20
    have uS := (((ddS.keep GI.kt kH18).keep GI.kt kH19).keep GI.kt kH20).keep GI.kt SH20
    have uB := ((ddB.keep GB.kt kH19).keep GB.kt kH20).keep GB.kt SH20
    have uT := (ddT.keep GT.kt kH20).keep GT.kt SH20
    have uQ := ddQ.keep GD.kt SH20
    have T20 := tH20.trans SH20
    have nin : ∀ p ∈ pcs M, p.nm ∈ (pcs M).map (·.nm) := fun p hp => List.mem_map.mpr ⟨p, hp, rfl⟩
    refine q H20 (kb_rest (q12.trans (r14.trans tH20))) ⟨dx, xr, pt, nt, at2, st, et, dP, dF, dS, dB, dT, dQ, hxH20, ?_⟩
    exact {
      reel := R14.keep T20
      good := fun p hp => by
        obtain ⟨e, he, rfl⟩ := List.mem_map.mp hp
        exact (hM e he).2
      few := by rw [List.length_map]; exact ⟨lM1, lM12⟩
      one := nd
      pieces := ⟨M2, T20 _ _ pt14, ep, fun e he => (P14 e he).keep T20⟩
      names := T20 _ _ nt14
      arrows := ⟨A2, T20 _ _ at14, eA, fun e he => ((A12 e he).keep r14).keep T20⟩
      ends := fun a ha => by
        obtain ⟨d, hd, rfl⟩ := List.mem_map.mp ha
        exact (hA d hd).2
      starts := T20 _ _ (r14 _ _ st12)
      lasts := T20 _ _ (r14 _ _ et12)
      kP := by
        obtain ⟨ks, h1, h2⟩ := uP
        refine ⟨ks, h1, fun p hp => ?_⟩
        obtain ⟨v, hv, p', hp', en, a, rfl, hPA⟩ := h2 p.nm (nin p hp)
        obtain rfl : p' = p := by_name nd hp hp' en
        exact ⟨a, hv, hPA⟩
      kF := by
        obtain ⟨ks, h1, h2⟩ := uF
        refine ⟨ks, h1, fun p hp => ?_⟩
        obtain ⟨v, hv, p', hp', en, rfl⟩ := h2 p.nm (nin p hp)
        obtain rfl : p' = p := by_name nd hp hp' en
        exact hv
      kS := by
        obtain ⟨ks, h1, h2⟩ := uS
        refine ⟨ks, h1, fun p hp => ?_⟩
        obtain ⟨v, hv, p', hp', en, rfl⟩ := h2 p.nm (nin p hp)
        obtain rfl : p' = p := by_name nd hp hp' en
        exact hv
      kB := by
        obtain ⟨ks, h1, h2⟩ := uB
        refine ⟨ks, h1, fun p hp => ?_⟩
        obtain ⟨v, hv, a, ys, rfl, h3, h4, h5⟩ := h2 p.nm (nin p hp)
        exact ⟨a, ys, hv, h3, h4, h5⟩
      kT := by
        obtain ⟨ks, h1, h2⟩ := uT
        refine ⟨ks, h1, fun p hp => ?_⟩
        obtain ⟨v, hv, p', hp', en, a, N, rfl, h3, h4, h5⟩ := h2 p.nm (nin p hp)
        obtain rfl : p' = p := by_name nd hp hp' en
        exact ⟨a, N, hv, h3, h4, h5⟩
      kQ := by
        obtain ⟨ks, h1, h2⟩ := uQ
        refine ⟨ks, h1, fun p hp => ?_⟩
        obtain ⟨v, hv, p', hp', en, a, N, rfl, h3, h4, h5⟩ := h2 p.nm (nin p hp)
        obtain rfl : p' = p := by_name nd hp hp' en
        exact ⟨a, N, hv, h3, h4, h5⟩ }
end
end Sea
namespace Sea
open PySem PySem.Spec PyProof.Rows L2
/-! methods of a plan: in, shown_of, strip_of -/
def hasV (ns : List Str) : V → Bool
  | .str z => decide (z ∈ ns)
  | _ => false
def spHas (CP CR : Addr) : Sp := fun vs H Q _ => ∃ (x : Addr) (v : V) (len : Int) (L : List (Addr × Cue)) (ps : List Piece) (as : List (Str × Str)) (ss es : List Str), vs = [.ref x, v] ∧ PlanAt H CR CP x len L ps as ss es ∧ AnyV H v ∧ Q (.bl (hasV (ps.map (·.nm)) v)) H
/-- in by the plan's own __contains__ -/
structure OwnC (P : Program) (w : World) (K : PySem.W.Frag) (mg : Str → Option Value) (base : Heap) (CP CR : Addr) : Prop where
  ex : ∃ (fC : Addr) (fd : FuncData), FnOk P w K mg base CX0 1 fC fd ["self", "x"] (spHas CP CR) ∧ PySem.W.findIn K (.ref CP) "__contains__" = some (some (.ref fC)) ∧ PySem.W.isFn K (.ref fC) = true ∧ Binds K fd ["self", "x"] []
def spShown (CP CR : Addr) : Sp := fun vs H Q _ => ∃ (x : Addr) (len : Int) (L : List (Addr × Cue)) (ps : List Piece) (as : List (Str × Str)) (ss es : List Str) (p : Piece), vs = [.ref x, .str p.nm] ∧ PlanAt H CR CP x len L ps as ss es ∧
  p ∈ ps ∧ Q (.int (shownOf (grainTo ps) p)) H
def spStripOf (CP CR : Addr) : Sp := fun vs H Q _ => ∃ (x : Addr) (len : Int) (L : List (Addr × Cue)) (ps : List Piece) (as : List (Str × Str)) (ss es : List Str) (p : Piece), vs = [.ref x, .str p.nm] ∧ PlanAt H CR CP x len L ps as ss es ∧
  p ∈ ps ∧ ∀ (a : Addr) (N : List (Addr × Tri)), H a = some (.tup (refsT N)) → tris N = stripF p (factorOf (grainTo ps) p) (cuesC L) → (∀ e ∈ N, TAt H e) → Q (.ref a) H
theorem plan_names (v1 v2 v3 v4 v5 v6 v7 v8 v9 v10 v11 v12 v13 : V) : (planF v1 v2 v3 v4 v5 v6 v7 v8 v9 v10 v11 v12 v13).lookup ("_names" : Str) = some v3 := by unfold planF; (repeat first | rw [lookup_putF, if_neg (by decide +kernel)] | rw [lookup_putF, if_pos rfl])
theorem plan_shown (v1 v2 v3 v4 v5 v6 v7 v8 v9 v10 v11 v12 v13 : V) : (planF v1 v2 v3 v4 v5 v6 v7 v8 v9 v10 v11 v12 v13).lookup ("_shown" : Str) = some v10 := by unfold planF; (repeat first | rw [lookup_putF, if_neg (by decide +kernel)] | rw [lookup_putF, if_pos rfl])
theorem plan_strips (v1 v2 v3 v4 v5 v6 v7 v8 v9 v10 v11 v12 v13 : V) : (planF v1 v2 v3 v4 v5 v6 v7 v8 v9 v10 v11 v12 v13).lookup ("_strips" : Str) = some v12 := by unfold planF; (repeat first | rw [lookup_putF, if_neg (by decide +kernel)] | rw [lookup_putF, if_pos rfl])
section
variable {P : Program} {w : World} {K : PySem.W.Frag} {mg : Str → Option Value} {base : Heap} {CR CP fR fP : Addr}
theorem ok_has {f : Addr} {fd : FuncData} (F : Fun K "__contains__" "Plan.__contains__" s_Plan___contains__ f fd) (TP : PlC K mg CP fP) (m_isinstance : mg "isinstance" = none) (m_str : mg "str" = none) :
    FnOk P w K mg base CX0 1 f fd ["self", "x"] (spHas CP CR) := by
  refine F.ok sc_Plan___contains__ (fun vs H Q E h => ?_) (fun cdv A outer s H vs Q E hr h => ?_)
  · obtain ⟨x, v, len, L, ps, as, ss, es, rfl, _⟩ := h
    rfl
  · obtain ⟨x, v, len, L, ps, as, ss, es, rfl, hP, hany, q⟩ := h
    refine ⟨_, (pss_one (ps_ret (pe_and (pe_callB call_isi (by rfl) m_isinstance (by decide +kernel) (pa_cons (pv 1) (pa_cons (pe_bltn (v := .ty "str") (by rfl) m_str (by decide +kernel) rfl) pa_nil))) (pe_one (pe_cmpR op_in_seq (pv 1) (pe_fld (pv 0) rfl) rfl))))), ?_⟩
    cases v with
    | int i => exact ⟨_, rfl, _, _, _, _, false, rfl, .ty _, .base (.int i), kit_ty (by decide +kernel), false, rfl, q⟩
    | bl b => exact ⟨_, rfl, _, _, _, _, false, rfl, .ty _, .base (.bl b), kit_ty (by decide +kernel), false, rfl, q⟩
    | non => exact ⟨_, rfl, _, _, _, _, false, rfl, .ty _, .base .non, kit_ty (by decide +kernel), false, rfl, q⟩
    | ref a =>
      rcases hany with hp | ⟨a', xs, ea, hl | hl⟩
      · exact hp.elim
      · cases ea
        exact ⟨_, rfl, _, _, _, _, false, rfl, .ty _, .base (.lst hl), kit_ty (by decide +kernel), false, rfl, q⟩
      · cases ea
        exact ⟨_, rfl, _, _, _, _, false, rfl, .ty _, .base (.tup hl), kit_ty (by decide +kernel), false, rfl, q⟩
    | byt z => rcases hany with hp | ⟨a', xs, ea, _⟩ <;> first | exact hp.elim | cases ea
    | flt z => rcases hany with hp | ⟨a', xs, ea, _⟩ <;> first | exact hp.elim | cases ea
    | ty z => rcases hany with hp | ⟨a', xs, ea, _⟩ <;> first | exact hp.elim | cases ea
    | str z =>
      obtain ⟨dx, xr, pt, nt, at', st, et, dP, dF, dS, dB, dT, dQ, hx, B⟩ := hP
      refine ⟨_, rfl, _, _, _, _, true, rfl, .ty _, .base (.str z), kit_ty (by decide +kernel), true, rfl, ?_⟩
      refine iteT ⟨_, rfl, _, rfl, x, CP, dx, _, _, rfl, hx, TP.cl, TP.nN, plan_names .., nt, _, rfl, .inr (SqT.of B.names), rfl, flat_strs _, ?_⟩
      rw [inV_strs]
      exact q
theorem ok_shown {f : Addr} {fd : FuncData} (F : Fun K "shown_of" "Plan.shown_of" s_Plan_shown_of f fd) (TP : PlC K mg CP fP) (C : OwnC P w K mg base CP CR) : FnOk P w K mg base CX0 2 f fd ["self", "name"] (spShown CP CR) := by
  obtain ⟨fC, fdC, OC, hs, hf, hb⟩ := C.ex
  refine F.ok sc_Plan_shown_of (fun vs H Q E h => ?_) (fun cdv A outer s H vs Q E hr h => ?_)
  · obtain ⟨x, len, L, ps, as, ss, es, p, rfl, _⟩ := h
    rfl
  · obtain ⟨x, len, L, ps, as, ss, es, p, rfl, hP, hp, q⟩ := h
    obtain ⟨dx, xr, pt, nt, at', st, et, dP, dF, dS, dB, dT, dQ, hx, B⟩ := id hP
    obtain ⟨ks, hd, hk⟩ := B.kS
    refine ⟨_, (pss_cons (ps_if (pt_cmpR (op_ownNotIn OC hr (Nat.le_refl _) hs hf hb) (pv 1) (pv 0) rfl)
    (pss_one ps_never)
    pss_nil)
    (pss_one (ps_ret (pe_dget (hu_of hr) (pe_fld (pv 0) rfl) (pv 1) (fun _ _ => rfl))))), ?_⟩
    refine ⟨_, rfl, _, rfl, x, dx, _, rfl, hx, x, .str p.nm, len, L, ps, as, ss, es, rfl, hP, .inl trivial, _, rfl, _, rfl, ?_⟩
    show (if (!decide (p.nm ∈ ps.map (·.nm))) = true then _ else _)
    rw [decide_eq_true (List.mem_map.mpr ⟨p, hp, rfl⟩)]
    have dg : DGet H dS (V.str p.nm) (some (.int (shownOf (grainTo ps) p))) := hk p hp ▸ DGet.k (k := Sum.inr p.nm) hd
    exact ⟨_, rfl, x, CP, dx, _, _, rfl, hx, TP.cl, TP.nH, plan_shown .., _, rfl, dS, _, rfl, dg, q⟩
theorem ok_strip_of {f : Addr} {fd : FuncData} (F : Fun K "strip_of" "Plan.strip_of" s_Plan_strip_of f fd) (TP : PlC K mg CP fP) (C : OwnC P w K mg base CP CR) : FnOk P w K mg base CX0 2 f fd ["self", "name"] (spStripOf CP CR) := by
  obtain ⟨fC, fdC, OC, hs, hf, hb⟩ := C.ex
  refine F.ok sc_Plan_strip_of (fun vs H Q E h => ?_) (fun cdv A outer s H vs Q E hr h => ?_)
  · obtain ⟨x, len, L, ps, as, ss, es, p, rfl, _⟩ := h
    rfl
  · obtain ⟨x, len, L, ps, as, ss, es, p, rfl, hP, hp, q⟩ := h
    obtain ⟨dx, xr, pt, nt, at', st, et, dP, dF, dS, dB, dT, dQ, hx, B⟩ := id hP
    obtain ⟨ks, hd, hk⟩ := B.kT
    obtain ⟨a, N, hv, ha, eN, hN⟩ := hk p hp
    refine ⟨_, (pss_cons (ps_if (pt_cmpR (op_ownNotIn OC hr (Nat.le_refl _) hs hf hb) (pv 1) (pv 0) rfl)
    (pss_one ps_never)
    pss_nil)
    (pss_one (ps_ret (pe_dget (hu_of hr) (pe_fld (pv 0) rfl) (pv 1) (fun _ _ => rfl))))), ?_⟩
    refine ⟨_, rfl, _, rfl, x, dx, _, rfl, hx, x, .str p.nm, len, L, ps, as, ss, es, rfl, hP, .inl trivial, _, rfl, _, rfl, ?_⟩
    show (if (!decide (p.nm ∈ ps.map (·.nm))) = true then _ else _)
    rw [decide_eq_true (List.mem_map.mpr ⟨p, hp, rfl⟩)]
    have dg : DGet H dT (V.str p.nm) (some (.ref a)) := hv ▸ DGet.k (k := Sum.inr p.nm) hd
    exact ⟨_, rfl, x, CP, dx, _, _, rfl, hx, TP.cl, TP.nT, plan_strips .., _, rfl, dT, _, rfl, dg, q a N ha eN hN⟩
end
end Sea
/-! methods of own classes as promises (word for word as in A5) -/
namespace Sea
open PySem PySem.Spec PyProof.Rows L2
/-- the method m of the class at C keeps sp, and raises nothing -/
def MCal (P : Program) (w : World) (K : PySem.W.Frag) (mg : Str → Option Value) (base : Heap) (k : Nat) (C : Addr) (m : Str) (sp : Sp) : Prop :=
  ∃ (f : Addr) (fd : FuncData) (ps : List Str), FnOk P w K mg base CX0 k f fd ps sp ∧ Meth K C m f ∧ Binds K fd ps []
section
variable {X : Cx} {sp : Sp} {k j : Nat} {C : Addr} {m : Str} {o e : Expr} {es : List Expr} {ta : TE} {t : TA} {apos pos : Pos}
theorem pe_mc {pl : Sem Bool} (he : PE X o ta) (c : Cls X.K C) (M : MCal X.prog X.w X.K X.mg X.base k C m sp) (hr : Room j X.A) (hk : k ≤ j) (ha : PA X (e :: es) t)
    (hst : starEach (e :: es) X.env = (false, eval e X.env) :: starEach es X.env := by rfl) (hpl : (backTo pos (starEach es X.env)).any (·.1) = false := by rfl)
    (ht : eval (.Call (.Attribute o m apos) (e :: es) [] pos) X.env = (do
      let ov ← eval o X.env
      standAt apos.atName
      let (f, first) ← holding [ov] (getMethod ov m pl)
      callWith pos f first (backTo pos (starEach (e :: es) X.env)) (backToKw pos (keywordEach [] X.env))) := by rfl) :
    PE X (.Call (.Attribute o m apos) (e :: es) [] pos) (tMeth C m sp [] E0 ta t) := by
  obtain ⟨f, fd, ps, F, hm, b⟩ := M
  exact pe_meth he c hm F (hr.mono hk) b .nil pass0 ha hst hpl ht
end
end Sea
namespace Sea
open PySem PySem.Spec PyProof.Rows L2
/-! the showings of a row -/
theorem ixN_last (n : Nat) : ixN (n + 1) (-1) = some n := by
  unfold ixN
  rw [if_neg (by decide), if_pos (by omega)]
  congr 1
  omega
theorem plan_no_strip (v1 v2 v3 v4 v5 v6 v7 v8 v9 v10 v11 v12 v13 : V) : (planF v1 v2 v3 v4 v5 v6 v7 v8 v9 v10 v11 v12 v13).lookup ("strip_of" : Str) = none := by unfold planF; (repeat first | rw [lookup_putF, if_neg (by decide +kernel)] | rw [lookup_putF, if_pos rfl]); rfl
theorem plan_no_shown (v1 v2 v3 v4 v5 v6 v7 v8 v9 v10 v11 v12 v13 : V) : (planF v1 v2 v3 v4 v5 v6 v7 v8 v9 v10 v11 v12 v13).lookup ("shown_of" : Str) = none := by unfold planF; (repeat first | rw [lookup_putF, if_neg (by decide +kernel)] | rw [lookup_putF, if_pos rfl]); rfl
end Sea
namespace Sea
open PySem PySem.Spec PyProof.Rows L2
/-! things of any kind, lists and tuples (word for word as in B8, B9) -/
def Sq2 (H : Hp) (a : Addr) (xs : List V) : Prop := H a = some (.tup xs) ∨ H a = some (.lst xs)
theorem Sq2.keep {H H' : Hp} {a : Addr} {xs : List V} (h : Sq2 H a xs) (s : Same H H') : Sq2 H' a xs := h.imp (s _ _) (s _ _)
theorem isi_seqA {K : PySem.W.Frag} {H : Hp} {x : V} (h : AnyV H x) : (Plain x ∧ ∃ t, TyX K H x t ∧ PySem.W.kitAny K t [.type "list", .type "tuple"] = some false) ∨
    (∃ a xs, x = .ref a ∧ Sq2 H a xs ∧ ∃ t, TyX K H x t ∧ PySem.W.kitAny K t [.type "list", .type "tuple"] = some true) := by
  have noB : ∀ {t : String}, kitB t "list" = some false → kitB t "tuple" = some false → PySem.W.kitAny K (.type t) [.type "list", .type "tuple"] = some false := fun {t} h1 h2 =>
    kitAny_cons (b := false) (kit_ty h1) (fun _ => kitAny_cons (b := false) (kit_ty h2) (fun _ => rfl) (fun z => nomatch z)) (fun z => nomatch z)
  rcases h with hp | ⟨a, xs, rfl, ha | ha⟩
  · refine .inl ⟨hp, ?_⟩
    cases x with
    | int i => exact ⟨_, .base (.int i), noB (by decide +kernel) (by decide +kernel)⟩
    | bl b => exact ⟨_, .base (.bl b), noB (by decide +kernel) (by decide +kernel)⟩
    | non => exact ⟨_, .base .non, noB (by decide +kernel) (by decide +kernel)⟩
    | str z => exact ⟨_, .base (.str z), noB (by decide +kernel) (by decide +kernel)⟩
    | ref a => exact hp.elim
    | byt z => exact hp.elim
    | flt z => exact hp.elim
    | ty z => exact hp.elim
  · exact .inr ⟨a, xs, rfl, .inr ha, _, .base (.lst ha), kitAny_cons (b := true) (kit_ty (by decide +kernel)) (fun z => nomatch z) (fun _ => rfl)⟩
  · exact .inr ⟨a, xs, rfl, .inl ha, _, .base (.tup ha), kitAny_cons (b := false) (kit_ty (by decide +kernel)) (fun _ => kitAny_cons (b := true) (kit_ty (by decide +kernel)) (fun z => nomatch z) (fun _ => rfl)) (fun z => nomatch z)⟩
theorem Th.seq {l : Bool} {m : Nat} {r : List Nat} {H : Hp} {x : V} {d : PyData} (h : Th l (m :: r) H x d) : (Sc x d ∧ seqD d = none) ∨ ∃ (a : Addr) (xs : List V) (ds : List PyData), x = .ref a ∧ ds.length ≤ m ∧ xs.length = ds.length ∧ Paired (Th l r H) xs ds ∧ seqD d = some ds ∧ Sq2 H a xs := by
  rcases h with h | ⟨a, xs, ds, h1, h2, h3, ⟨e, h⟩ | ⟨_, e, h⟩⟩
  · exact .inl ⟨h, h.seq⟩
  · rw [e]
    exact .inr ⟨a, xs, ds, h1, h2, paired_len h3, h3, rfl, .inl h⟩
  · rw [e]
    exact .inr ⟨a, xs, ds, h1, h2, paired_len h3, h3, rfl, .inr h⟩
end Sea
namespace Sea
open PySem PySem.Spec PyProof.Rows L2
/-! things as lists and as tuples -/
/-- what of H' is new since H -/
def NewH (H H' : Hp) : Hp := fun a =>
  match H a with
  | some _ => none
  | none => H' a
theorem new_at {H H' : Hp} {a : Addr} (h : H a = none) : NewH H H' a = H' a := by
  unfold NewH
  rw [h]
theorem new_old {H H' : Hp} {a : Addr} {o : HO} (h : NewH H H' a = some o) : H a = none ∧ H' a = some o := by
  cases e : H a with
  | none => rw [new_at e] at h; exact ⟨rfl, h⟩
  | some q =>
    unfold NewH at h
    rw [e] at h
    cases h
theorem new_sub {H H' : Hp} : Same (NewH H H') H' := fun a o h => (new_old h).2
theorem new_mono {H G H' G' : Hp} (h1 : ∀ a, G a = none → H a = none) (h2 : ∀ a o, G a = none → G' a = some o → H' a = some o) : Same (NewH G G') (NewH H H') := fun a o h => by
  obtain ⟨q1, q2⟩ := new_old h
  rw [new_at (h1 _ q1)]
  exact h2 _ _ q1 q2
theorem paired_app {α β : Type} {R : α → β → Prop} : ∀ {l : List α} {r : List β} {a : α} {b : β}, Paired R l r → R a b → Paired R (l ++ [a]) (r ++ [b])
  | _, _, _, _, .nil, h => .cons h .nil
  | _, _, _, _, .cons a t, h => .cons a (paired_app t h)
end Sea
/-! sorted(xs, key=lambda p: (p[i], p[j])) -/
/-! a class held by a name called without arguments; a classmethod called without arguments -/
namespace Sea
open PySem PySem.Spec PyProof.Rows L2
/-! what many laws draw: rarely, a few texts, names -/
theorem kb_none {tp cl p : Addr} {ns : List Int} {H H' : Hp} (k : KB tp H H') (T : Tape H' tp cl ns) (h : H' p = none) : H p = none := by
  cases e : H p with
  | none => rfl
  | some o =>
    have := k p o (T.fresh h).1.symm e
    rw [h] at this
    cases this
theorem KB.new {tp cl p : Addr} {ns : List Int} {H H' : Hp} {o : HO} (k : KB tp H H') (T : Tape H' tp cl ns) (h : H' p = none) : KB tp H (upd H' p o) := k.over (kb_none k T h)
def spRarely : Sp := fun vs H Q _ => ∃ (tp cl : Addr) (ns : List Int) (m : Int), vs = [.ref tp, .int m] ∧ Tape H tp cl ns ∧ m < 1073741824 ∧ ∀ H' b, KB tp H H' → Tape H' tp cl ns → Q (.bl b) H'
abbrev PL1 : Str := Str.ofString "a b c ab ba aa z zz abc abd acb bcd abca zzz y xy yx xyz abcd abcde bbbbb q qq qa aq"
abbrev PL2 : Str := Str.ofString "m mm am ma cab bac"
abbrev PL3 : Str := Str.ofString "dab bad add odd ode one two ten net tent tenth nine nines e ee ed de"
/-- a short name -/
def shortB (z : Str) : Bool := decide (1 ≤ z.length) && (decide (z.length ≤ 5) && (cp z).all fun c => decide (97 ≤ c) && decide (c ≤ 122))
def POOL : List Str := (Txt.words PL1 ++ Txt.words PL2) ++ Txt.words PL3
theorem pool_ok : POOL.all shortB = true ∧ POOL.length = 48 := by decide +kernel
theorem pool_len : (Txt.words PL1).length = 25 ∧ (Txt.words PL2).length = 6 ∧ (Txt.words PL3).length = 17 ∧ PL1.length ≤ 200 ∧ PL2.length ≤ 200 ∧ PL3.length ≤ 200 := by decide +kernel
structure Short (z : Str) : Prop where
  some : 1 ≤ z.length
  most : z.length ≤ 5
  sign : ∀ c ∈ cp z, 97 ≤ c ∧ c ≤ 122
theorem short_of {z : Str} (h : shortB z = true) : Short z := by
  unfold shortB at h
  simp only [Bool.and_eq_true, decide_eq_true_eq, List.all_eq_true] at h
  exact ⟨h.1, h.2.1, h.2.2⟩
theorem pool_short {z : Str} (h : z ∈ POOL) : Short z := short_of (List.all_eq_true.mp pool_ok.1 z h)
theorem erase_map {α β : Type} (f : α → β) : ∀ (l : List α) (k : Nat), (l.map f).eraseIdx k = (l.eraseIdx k).map f
  | [], _ => rfl
  | _ :: _, 0 => rfl
  | a :: r, k + 1 => by
    show f a :: (r.map f).eraseIdx k = f a :: (r.eraseIdx k).map f
    rw [erase_map f r k]
theorem seq_at {d : Int} {n : Nat} (h0 : 0 ≤ d) (h1 : d < (n : Int)) : seqIndex? d n = some d.toNat := by
  unfold seqIndex?
  simp only []
  rw [if_neg (show ¬ d < 0 by omega), if_pos (by rw [decide_eq_true h0, decide_eq_true h1]; rfl)]
section
variable {P : Program} {w : World} {K : PySem.W.Frag} {mg : Str → Option Value} {base : Heap}
theorem ok_rarely {f : Addr} {fd : FuncData} (F : Fun K "_law_rarely" "_law_rarely" s__law_rarely f fd) (c__law_pick : Cal P w K mg base 1 "_law_pick" spPick) : FnOk P w K mg base CX0 2 f fd ["_law_tape_here", "_law_many_here"] spRarely := by
  refine F.ok sc__law_rarely (fun vs H Q E h => ?_) (fun cdv A outer s H vs Q E hr h => ?_)
  · obtain ⟨tp, cl, ns, m, rfl, _⟩ := h
    rfl
  · obtain ⟨tp, cl, ns, m, rfl, T, hm, q⟩ := h
    refine ⟨_, (pss_one (ps_ret (pe_cmpR op_eq (pe_c c__law_pick hr (by decide) rfl (pa_cons (pv 0) (pa_cons (pv 1) pa_nil))) (pe_op op_sub (pv 1) (pe_int)) (nomark _)))), ?_⟩
    exact ⟨_, rfl, _, rfl, tp, cl, ns, m, rfl, T, hm, fun H1 d k1 T1 _ _ => ⟨_, rfl, _, _, rfl, rfl, rfl, q H1 _ k1 T1⟩⟩
end
end Sea
namespace Sea
open PySem PySem.Spec PyProof.Rows L2
/-! a world that laws draw: names, each once, and the cues -/
theorem pool_nd : POOL.Nodup := by decide +kernel
theorem nd_erase {α : Type} {l : List α} (h : l.Nodup) (k : Nat) : (l.eraseIdx k).Nodup := h.sublist (List.eraseIdx_sublist _ _)
theorem not_erase {α : Type} {l : List α} (h : l.Nodup) {k : Nat} (hk : k < l.length) : l[k] ∉ l.eraseIdx k := fun e => by
  have e1 : l = l.take k ++ l[k] :: l.drop (k + 1) := by rw [← List.drop_eq_getElem_cons hk, List.take_append_drop]
  rw [List.eraseIdx_eq_take_drop_succ] at e
  have h2 := h
  rw [e1] at h2
  obtain ⟨a1, a2, a3⟩ := List.nodup_append.mp h2
  rcases List.mem_append.mp e with e | e
  · exact absurd rfl (a3 _ e _ List.mem_cons_self)
  · exact (List.nodup_cons.mp a2).1 e
end Sea
namespace Sea
open PySem PySem.Spec PyProof.Rows L2
/-! the cues that laws draw -/
theorem KB.at {tp cl : Addr} {ns : List Int} {H H' : Hp} {e : Addr × Cue} (k : KB tp H H') (T : Tape H tp cl ns) (h : At H e) : At H' e := k.kt T _ _ h
end Sea
namespace Sea
open PySem PySem.Spec PyProof.Rows L2
/-! the pieces that laws draw -/
theorem KB.p {tp cl : Addr} {ns : List Int} {H H' : Hp} {e : Addr × Piece} (k : KB tp H H') (T : Tape H tp cl ns) (h : PAt H e) : PAt H' e := k.kt T _ _ h
theorem KB.a {tp cl : Addr} {ns : List Int} {H H' : Hp} {e : Addr × (Str × Str)} (k : KB tp H H') (T : Tape H tp cl ns) (h : AAt H e) : AAt H' e := k.kt T _ _ h
end Sea
namespace Sea
open PySem PySem.Spec PyProof.Rows L2
/-! the world that laws draw -/
theorem rest_ne {x p : Addr} {H : Hp} (n : p ≠ x) : rest x H p = H p := by
  unfold rest
  rw [if_neg n]
/-- what a drawn world holds, where it stands -/
structure WorldB (R : Hp) (wa ca pa aa sa ea : Addr) (len : Int) (L : List (Addr × Cue)) (M : List (Addr × Piece)) (A : List (Addr × (Str × Str))) (ss es : List Str) : Prop where
  w : R wa = some (.lst [.int len, .ref ca, .ref pa, .ref aa, .ref sa, .ref ea])
  c : R ca = some (.lst (refsC L))
  cs : ∀ e ∈ L, At R e
  p : R pa = some (.lst (refsP M))
  ps : ∀ e ∈ M, PAt R e
  a : R aa = some (.lst (refsA A))
  as : ∀ e ∈ A, AAt R e
  s : R sa = some (.lst (ss.map V.str))
  e : R ea = some (.lst (es.map V.str))
theorem WorldB.keep {R R' : Hp} {wa ca pa aa sa ea : Addr} {len : Int} {L : List (Addr × Cue)} {M : List (Addr × Piece)} {A : List (Addr × (Str × Str))} {ss es : List Str} (h : WorldB R wa ca pa aa sa ea len L M A ss es) (k : Same R R') : WorldB R' wa ca pa aa sa ea len L M A ss es :=
  ⟨k _ _ h.w, k _ _ h.c, fun e he => (h.cs e he).keep k, k _ _ h.p, fun e he => (h.ps e he).keep k, k _ _ h.a, fun e he => (h.as e he).keep k, k _ _ h.s, k _ _ h.e⟩
def WorldAt (R : Hp) (wa : Addr) (len : Int) (L : List (Addr × Cue)) (M : List (Addr × Piece)) (A : List (Addr × (Str × Str))) (ss es : List Str) : Prop := ∃ ca pa aa sa ea, WorldB R wa ca pa aa sa ea len L M A ss es
theorem WorldAt.keep {R R' : Hp} {wa : Addr} {len : Int} {L : List (Addr × Cue)} {M : List (Addr × Piece)} {A : List (Addr × (Str × Str))} {ss es : List Str} (h : WorldAt R wa len L M A ss es) (k : Same R R') : WorldAt R' wa len L M A ss es :=
  let ⟨ca, pa, aa, sa, ea, h⟩ := h; ⟨ca, pa, aa, sa, ea, h.keep k⟩
end Sea
namespace Sea
open PySem PySem.Spec PyProof.Rows L2
/-! the law's own model of a plan -/
/-- all but dicts stay -/
def KD (H H' : Hp) : Prop := ∀ a o, (∀ ks, o ≠ .dK ks) → H a = some o → H' a = some o
theorem KD.of_same {H H' : Hp} (s : Same H H') : KD H H' := fun a o _ h => s a o h
theorem KD.trans {H H1 H2 : Hp} (a : KD H H1) (b : KD H1 H2) : KD H H2 := fun x o n h => b x o n (a x o n h)
theorem KD.put {H : Hp} {d : Addr} {ks ks' : List (Key × V)} (h : H d = some (.dK ks)) : KD H (upd H d (.dK ks')) := fun a o n e => by
  rw [upd_ne (fun z => by rw [z, h] at e; exact n ks (Option.some.inj e).symm)]
  exact e
/-- a dict by the names, so far -/
def DI (G : Hp → Str → V → Prop) (ns : List Str) (i : Nat) (H : Hp) (d : Addr) : Prop := ∃ ks, H d = some (.dK ks) ∧ ks.length ≤ i ∧ ∀ y ∈ ns.take i, ∃ v, valV ks (Sum.inr y) = some v ∧ G H y v
theorem DI.same {G : Hp → Str → V → Prop} (GK : ∀ H H' y v, KD H H' → G H y v → G H' y v) {ns : List Str} {i : Nat} {H H' : Hp} {d : Addr} (h : DI G ns i H d) (s : Same H H') : DI G ns i H' d :=
  let ⟨ks, h1, h2, h3⟩ := h; ⟨ks, s _ _ h1, h2, fun y hy => let ⟨v, h4, h5⟩ := h3 y hy; ⟨v, h4, GK _ _ _ _ (.of_same s) h5⟩⟩
theorem DI.other {G : Hp → Str → V → Prop} (GK : ∀ H H' y v, KD H H' → G H y v → G H' y v) {ns : List Str} {i : Nat} {H : Hp} {d d' : Addr} {ks ks' : List (Key × V)} (h : DI G ns i H d) (hd : H d' = some (.dK ks)) (ne : d ≠ d') : DI G ns i (upd H d' (.dK ks')) d :=
  let ⟨k, h1, h2, h3⟩ := h; ⟨k, by rw [upd_ne ne]; exact h1, h2, fun y hy => let ⟨v, h4, h5⟩ := h3 y hy; ⟨v, h4, GK _ _ _ _ (.put hd) h5⟩⟩
theorem DI.put {G : Hp → Str → V → Prop} (GK : ∀ H H' y v, KD H H' → G H y v → G H' y v) {ns : List Str} {i : Nat} {H : Hp} {d : Addr} {z : Str} {v : V} (h : DI G ns i H d) (hz : ns[i]? = some z) (hv : G H z v) : ∃ ks, H d = some (.dK ks) ∧ ks.length ≤ i ∧ DI G ns (i + 1) (upd H d (.dK (putK ks (Sum.inr z) v))) d := by
  obtain ⟨ks, h1, h2, h3⟩ := h
  have ko : KD H (upd H d (.dK (putK ks (Sum.inr z) v))) := .put h1
  refine ⟨ks, h1, h2, _, upd_same, ?_, ?_⟩
  · have := length_putK ks (Sum.inr z : Key) v
    omega
  · exact dict_step (G := G (upd H d (.dK (putK ks (Sum.inr z) v)))) (fun y hy => let ⟨v', h4, h5⟩ := h3 y hy; ⟨v', h4, GK _ _ _ _ ko h5⟩) hz (GK _ _ _ _ ko hv)
def GBl (as : List (Str × Str)) : Hp → Str → V → Prop := fun H y v => ∃ (a : Addr) (ys : List Str), v = .ref a ∧ H a = some (.lst (ys.map V.str)) ∧ ys.Perm (rightsOf as y) ∧ sortedS ys = true
def GTl (ps : List Piece) (f : Piece → List Tri) : Hp → Str → V → Prop := fun H y v => ∃ p ∈ ps, p.nm = y ∧ ∃ (a : Addr) (N : List (Addr × Tri)), v = .ref a ∧ H a = some (.lst (refsT N)) ∧ tris N = f p ∧ ∀ e ∈ N, TAt H e
def GDl (ps : List Piece) (f : Piece → List Duo) : Hp → Str → V → Prop := fun H y v => ∃ p ∈ ps, p.nm = y ∧ ∃ (a : Addr) (N : List (Addr × Duo)), v = .ref a ∧ H a = some (.lst (refsD N)) ∧ duos N = f p ∧ ∀ e ∈ N, DAt H e
theorem GI.kd {ps : List Piece} {f : Piece → Int} : ∀ H H' y v, KD H H' → GI ps f H y v → GI ps f H' y v := fun _ _ _ _ _ h => h
theorem GBl.kd {as : List (Str × Str)} : ∀ H H' y v, KD H H' → GBl as H y v → GBl as H' y v := fun _ _ _ _ k ⟨a, ys, e, h, r⟩ => ⟨a, ys, e, k _ _ (fun _ e => by cases e) h, r⟩
theorem GTl.kd {ps : List Piece} {f : Piece → List Tri} : ∀ H H' y v, KD H H' → GTl ps f H y v → GTl ps f H' y v := fun _ _ _ _ k ⟨p, h, e, a, N, e1, e2, e3, e4⟩ => ⟨p, h, e, a, N, e1, k _ _ (fun _ e => by cases e) e2, e3, fun d hd => k _ _ (fun _ e => by cases e) (e4 d hd)⟩
theorem GDl.kd {ps : List Piece} {f : Piece → List Duo} : ∀ H H' y v, KD H H' → GDl ps f H y v → GDl ps f H' y v := fun _ _ _ _ k ⟨p, h, e, a, N, e1, e2, e3, e4⟩ => ⟨p, h, e, a, N, e1, k _ _ (fun _ e => by cases e) e2, e3, fun d hd => k _ _ (fun _ e => by cases e) (e4 d hd)⟩
abbrev fT (ps : List Piece) (cs : List Cue) : Piece → List Tri := fun p => stripF p (factorOf (grainTo ps) p) cs
abbrev fD (ps : List Piece) (cs : List Cue) : Piece → List Duo := fun p => sendsF p cs (stripF p (factorOf (grainTo ps) p) cs)
/-- the law's model at ma -/
structure ModelB (R : Hp) (ma d1 d2 d3 d4 : Addr) (cs : List Cue) (ps : List Piece) (as : List (Str × Str)) : Prop where
  m : R ma = some (.lst [.int (grainTo ps), .ref d1, .ref d2, .ref d3, .ref d4])
  sh : DI (GI ps (shownOf (grainTo ps))) (ps.map (·.nm)) ps.length R d1
  st : DI (GTl ps (fT ps cs)) (ps.map (·.nm)) ps.length R d2
  se : DI (GDl ps (fD ps cs)) (ps.map (·.nm)) ps.length R d3
  be : DI (GBl as) (ps.map (·.nm)) ps.length R d4
def ModelAt (R : Hp) (ma : Addr) (cs : List Cue) (ps : List Piece) (as : List (Str × Str)) : Prop := ∃ d1 d2 d3 d4, ModelB R ma d1 d2 d3 d4 cs ps as
theorem ModelAt.keep {R R' : Hp} {ma : Addr} {cs : List Cue} {ps : List Piece} {as : List (Str × Str)} (h : ModelAt R ma cs ps as) (s : Same R R') : ModelAt R' ma cs ps as :=
  let ⟨d1, d2, d3, d4, h⟩ := h; ⟨d1, d2, d3, d4, s _ _ h.m, h.sh.same GI.kd s, h.st.same GTl.kd s, h.se.same GDl.kd s, h.be.same GBl.kd s⟩
/-- the model while it is made -/
structure Bd (H1 : Hp) (ma d1 d2 d3 d4 : Addr) (cs : List Cue) (ps : List Piece) (as : List (Str × Str)) (a b c d : Nat) (H' : Hp) : Prop where
  s : Same H1 H'
  n1 : H1 d1 = none
  n2 : H1 d2 = none
  n3 : H1 d3 = none
  n4 : H1 d4 = none
  e12 : d1 ≠ d2
  e13 : d1 ≠ d3
  e14 : d1 ≠ d4
  e23 : d2 ≠ d3
  e24 : d2 ≠ d4
  e34 : d3 ≠ d4
  m : H' ma = some (.lst [.int (grainTo ps), .ref d1, .ref d2, .ref d3, .ref d4])
  x1 : DI (GI ps (shownOf (grainTo ps))) (ps.map (·.nm)) a H' d1
  x2 : DI (GTl ps (fT ps cs)) (ps.map (·.nm)) b H' d2
  x3 : DI (GDl ps (fD ps cs)) (ps.map (·.nm)) c H' d3
  x4 : DI (GBl as) (ps.map (·.nm)) d H' d4
theorem Bd.same {H1 : Hp} {ma d1 d2 d3 d4 : Addr} {cs : List Cue} {ps : List Piece} {as : List (Str × Str)} {a b c d : Nat} {H' : Hp} {H2 : Hp} (h : Bd H1 ma d1 d2 d3 d4 cs ps as a b c d H') (k : Same H' H2) : Bd H1 ma d1 d2 d3 d4 cs ps as a b c d H2 :=
  { h with s := h.s.trans k, m := k _ _ h.m, x1 := h.x1.same GI.kd k, x2 := h.x2.same GTl.kd k, x3 := h.x3.same GDl.kd k, x4 := h.x4.same GBl.kd k }
end Sea
namespace Sea
open PySem PySem.Spec PyProof.Rows L2
/-! a screen that is filled anew -/
/-- from b on so many places are exchanged -/
def over (xs : List (Option Int)) (b j : Nat) (c : Option Int) : List (Option Int) := xs.take b ++ (List.replicate j c ++ xs.drop (b + j))
end Sea
namespace Sea
open PySem PySem.Spec PyProof.Rows L2
/-! _law_filled -/
theorem kb_put {D : Addr} {H H' : Hp} {o : HO} (k : KB D H H') : KB D H (upd H' D o) := fun b x n h => by
  rw [upd_ne n]
  exact k b x n h
end Sea
namespace Sea
open PySem PySem.Spec PyProof.Rows L2
/-! bad rows, and odd things -/
/-- a row that is refused with a number -/
def BadV (ns : List Str) (H : Hp) (v : V) (k : Int) : Prop :=
  (Plain v ∧ k = -1) ∨ ∃ a xs, v = .ref a ∧ (H a = some (.tup xs) ∨ H a = some (.lst xs)) ∧ (∀ y ∈ xs, AnyV H y) ∧
    ((k = -1 ∧ (xs.length < 1 ∨ 400 < xs.length)) ∨ ∃ (n : Nat) (y : V), k = (n : Int) ∧ 1 ≤ xs.length ∧ xs.length ≤ 400 ∧ xs[n]? = some y ∧ (∀ z ∈ xs.take n, hasV ns z = true) ∧ hasV ns y = false)
theorem anyV_keep {H H' : Hp} {y : V} (h : AnyV H y) (s : Same H H') : AnyV H' y := by
  rcases h with h | ⟨a', ys, e, h | h⟩
  · exact .inl h
  · exact .inr ⟨a', ys, e, .inl (s _ _ h)⟩
  · exact .inr ⟨a', ys, e, .inr (s _ _ h)⟩
theorem BadV.keep {ns : List Str} {H H' : Hp} {v : V} {k : Int} (h : BadV ns H v k) (s : Same H H') : BadV ns H' v k := by
  rcases h with h | ⟨a, xs, e, ha, hy, r⟩
  · exact .inl h
  · exact .inr ⟨a, xs, e, ha.imp (s _ _) (s _ _), fun y h => anyV_keep (hy y h) s, r⟩
end Sea
namespace Sea
open PySem PySem.Spec PyProof.Rows L2
/-! what stays, whatever tapes and tables of code do -/
/-- a tape's list, or a table: these change -/
def Mv : HO → Prop
  | .tbl _ => True
  | .lst (.ref _ :: .int _ :: _) => True
  | _ => False
def KM (H H' : Hp) : Prop := ∀ a o, H a = some o → ¬ Mv o → H' a = some o
theorem KM.refl (H : Hp) : KM H H := fun _ _ h _ => h
theorem KM.trans {H H1 H2 : Hp} (a : KM H H1) (b : KM H1 H2) : KM H H2 := fun x o h n => b x o (a x o h n) n
theorem KM.of_same {H H' : Hp} (s : Same H H') : KM H H' := fun a o h _ => s a o h
theorem mv_tape {H : Hp} {tp cl : Addr} {ns : List Int} (T : Tape H tp cl ns) {o : HO} (h : H tp = some o) : Mv o := by
  obtain ⟨i, r, z, c, h', _⟩ := T.ex
  rw [h'] at h
  cases h
  trivial
theorem KM.of_kb {H H' : Hp} {tp cl : Addr} {ns : List Int} (T : Tape H tp cl ns) (k : KB tp H H') : KM H H' := fun a o h n => k a o (fun e => n (by rw [e] at h; exact mv_tape T h)) h
theorem KM.rest {H : Hp} {tp cl : Addr} {ns : List Int} (T : Tape H tp cl ns) : KM H (rest tp H) := fun a o h n => by
  rw [rest_ne (fun e => n (by rw [e] at h; exact mv_tape T h))]
  exact h
theorem mv_refs {α : Type} (f : α → Addr) : ∀ (L : List α), ¬ Mv (.lst (L.map fun e => V.ref (f e)))
  | [], h => h
  | [_], h => h
  | _ :: _ :: _, h => h
theorem mv_strs : ∀ (L : List Str), ¬ Mv (.lst (L.map V.str))
  | [], h => h
  | _ :: _, h => h
theorem KM.tup {H H' : Hp} (k : KM H H') {a : Addr} {xs : List V} (h : H a = some (.tup xs)) : H' a = some (.tup xs) := k _ _ h fun z => z
theorem KM.dK {H H' : Hp} (k : KM H H') {a : Addr} {xs : List (Key × V)} (h : H a = some (.dK xs)) : H' a = some (.dK xs) := k _ _ h fun z => z
theorem ReelAt.km {H H' : Hp} {CR x : Addr} {len : Int} {L : List (Addr × Cue)} (h : ReelAt H CR x len L) (s : KM H H') : ReelAt H' CR x len L := by
  obtain ⟨dx, t, sp, nm, zs, h1, h2, h3, h4, h5, h6⟩ := h
  exact ⟨dx, t, sp, nm, zs, s _ _ h1 (fun z => z), s.tup h2, fun e he => s.tup (h3 e he), s.tup h4, h5, s.tup h6⟩
theorem PlanB.km {H H' : Hp} {CR xr pt nt at' st et dP dF dS dB dT dQ : Addr} {len : Int} {L : List (Addr × Cue)} {ps : List Piece} {as : List (Str × Str)} {ss es : List Str}
    (h : PlanB H CR xr pt nt at' st et dP dF dS dB dT dQ len L ps as ss es) (s : KM H H') : PlanB H' CR xr pt nt at' st et dP dF dS dB dT dQ len L ps as ss es where
  reel := h.reel.km s
  good := h.good
  few := h.few
  one := h.one
  pieces := let ⟨M, a, b, c⟩ := h.pieces; ⟨M, s.tup a, b, fun e he => s.tup (c e he)⟩
  names := s.tup h.names
  arrows := let ⟨M, a, b, c⟩ := h.arrows; ⟨M, s.tup a, b, fun e he => s.tup (c e he)⟩
  ends := h.ends
  starts := s.tup h.starts
  lasts := s.tup h.lasts
  kP := let ⟨k, a, b⟩ := h.kP; ⟨k, s.dK a, fun p hp => let ⟨c, d, e⟩ := b p hp; ⟨c, d, s.tup e⟩⟩
  kF := let ⟨k, a, b⟩ := h.kF; ⟨k, s.dK a, b⟩
  kS := let ⟨k, a, b⟩ := h.kS; ⟨k, s.dK a, b⟩
  kB := let ⟨k, a, b⟩ := h.kB; ⟨k, s.dK a, fun p hp => let ⟨c, d, e, f, g⟩ := b p hp; ⟨c, d, e, s.tup f, g⟩⟩
  kT := let ⟨k, a, b⟩ := h.kT; ⟨k, s.dK a, fun p hp => let ⟨c, d, e, f, g, i⟩ := b p hp; ⟨c, d, e, s.tup f, g, fun x hx => s.tup (i x hx)⟩⟩
  kQ := let ⟨k, a, b⟩ := h.kQ; ⟨k, s.dK a, fun p hp => let ⟨c, d, e, f, g, i⟩ := b p hp; ⟨c, d, e, s.tup f, g, fun x hx => s.tup (i x hx)⟩⟩
theorem PlanAt.km {H H' : Hp} {CR CP x : Addr} {len : Int} {L : List (Addr × Cue)} {ps : List Piece} {as : List (Str × Str)} {ss es : List Str} (h : PlanAt H CR CP x len L ps as ss es) (s : KM H H') : PlanAt H' CR CP x len L ps as ss es := by
  obtain ⟨dx, xr, pt, nt, at', st, et, dP, dF, dS, dB, dT, dQ, h1, h2⟩ := h
  exact ⟨dx, xr, pt, nt, at', st, et, dP, dF, dS, dB, dT, dQ, s _ _ h1 (fun z => z), h2.km s⟩
theorem WorldAt.km {R R' : Hp} {wa : Addr} {len : Int} {L : List (Addr × Cue)} {M : List (Addr × Piece)} {A : List (Addr × (Str × Str))} {ss es : List Str} (h : WorldAt R wa len L M A ss es) (k : KM R R') : WorldAt R' wa len L M A ss es := by
  obtain ⟨ca, pa, aa, sa, ea, h⟩ := h
  exact ⟨ca, pa, aa, sa, ea, k _ _ h.w (fun z => z), k _ _ h.c (mv_refs _ _), fun e he => k.tup (h.cs e he), k _ _ h.p (mv_refs _ _), fun e he => k.tup (h.ps e he), k _ _ h.a (mv_refs _ _), fun e he => k.tup (h.as e he), k _ _ h.s (mv_strs _), k _ _ h.e (mv_strs _)⟩
theorem DI.km {G : Hp → Str → V → Prop} (GK : ∀ H H' y v, KM H H' → G H y v → G H' y v) {ns : List Str} {i : Nat} {H H' : Hp} {d : Addr} (h : DI G ns i H d) (s : KM H H') : DI G ns i H' d :=
  let ⟨ks, h1, h2, h3⟩ := h; ⟨ks, s.dK h1, h2, fun y hy => let ⟨v, h4, h5⟩ := h3 y hy; ⟨v, h4, GK _ _ _ _ s h5⟩⟩
theorem ModelAt.km {R R' : Hp} {ma : Addr} {cs : List Cue} {ps : List Piece} {as : List (Str × Str)} (h : ModelAt R ma cs ps as) (s : KM R R') : ModelAt R' ma cs ps as := by
  obtain ⟨d1, d2, d3, d4, h⟩ := h
  exact ⟨d1, d2, d3, d4, s _ _ h.m (fun z => z), h.sh.km (fun _ _ _ _ _ h => h) s, h.st.km (fun _ _ _ _ k ⟨p, h, e, a, N, e1, e2, e3, e4⟩ => ⟨p, h, e, a, N, e1, k _ _ e2 (mv_refs _ _), e3, fun d hd => k.tup (e4 d hd)⟩) s,
    h.se.km (fun _ _ _ _ k ⟨p, h, e, a, N, e1, e2, e3, e4⟩ => ⟨p, h, e, a, N, e1, k _ _ e2 (mv_refs _ _), e3, fun d hd => k.tup (e4 d hd)⟩) s, h.be.km (fun _ _ _ _ k ⟨a, ys, e, h, r⟩ => ⟨a, ys, e, k _ _ h (mv_strs _), r⟩) s⟩
theorem Tape.km {H H' : Hp} {tp cl : Addr} {ns : List Int} (T : Tape H tp cl ns) (e : LamX.ExtN H H') : Tape H' tp cl ns := by
  obtain ⟨i, r, z, c, h, k⟩ := T.ex
  exact ⟨⟨i, r, z, c, e _ _ h (fun _ z => nomatch z), k⟩, e _ _ T.cells (fun _ z => nomatch z), T.ne, T.nn⟩
/-! a def whose code object is known -/
structure FunT (K : PySem.W.Frag) (x qual : Str) (st : Stmt) (f : Addr) (fd : FuncData) (c : Addr) : Prop where
  ex : ∃ (oc : Value) (od : Option Addr) (kV doc pm : Value) (an : Option Addr) (ct : Value) (osl : Array (Option Value)),
    fd = PySem.W.fnOf x qual (defArgs st) (defBody st) (defScope st) .none kV doc pm an (.ref c) ct ∧ K.lookup f = some ⟨oc, od, .func fd, osl⟩ ∧ PySem.W.codeIn K (.ref c) qual = true
  kp : PySem.W.keepIn K (.ref f) = true
section
variable {P : Program} {w : World} {K : PySem.W.Frag} {mg : Str → Option Value} {base : Heap}
theorem FunT.ok {x qual : Str} {st : Stmt} {f c : Addr} {fd : FuncData} {N ps : List Str} {k : Nat} {sp : Sp} (F : FunT K x qual st f fd c) (S : FnScope N ps (defScope st)) (len : ∀ vs H Q E, sp vs H Q E → vs.length = ps.length)
    (hbody : ∀ (A : Around) (outer : List Env) (s : Shared) (H : Hp) (vs : List V) (Q : VK) (E : XK), Room k (A.deeper (envOfC qual (defScope st) s.heap.objs.size f (.ref c))) → sp vs H Q E →
      ∃ t, PSs (cxOf CX0 P w K mg base N qual (defScope st) f (.ref c) A outer s H E).nox (defBody st) t ∧ t { nx := fun _ H' => Q .non H', rt := Q } (start N vs) H) : FnOk P w K mg base CX0 (k + 1) f fd ps sp := by
  obtain ⟨oc, od, kV, doc, pm, an, ct, osl, rfl, lk, hcd⟩ := F.ex
  refine fn_of lk hcd S len fun A outer s H vs Q E hr hsp => ?_
  obtain ⟨t, h, q⟩ := hbody A outer s H vs Q E hr hsp
  exact ⟨t, h.nox, q⟩
end
end Sea
namespace Sea
open PySem PySem.Spec PyProof.Rows L2
/-! Book -/
def bookF (a b : V) : List (Str × V) := putF "close" b (putF "least" a [])
def BookAt (H : Hp) (CK x : Addr) (le cl : Int) : Prop := ∃ dx, H x = some (.ins CK dx (bookF (.int le) (.int cl)))
theorem BookAt.keep {H H' : Hp} {CK x : Addr} {le cl : Int} (h : BookAt H CK x le cl) (s : Same H H') : BookAt H' CK x le cl := let ⟨dx, h⟩ := h; ⟨dx, s _ _ h⟩
theorem BookAt.km {H H' : Hp} {CK x : Addr} {le cl : Int} (h : BookAt H CK x le cl) (s : KM H H') : BookAt H' CK x le cl := let ⟨dx, h⟩ := h; ⟨dx, s _ _ h fun z => z⟩
end Sea
namespace Sea
open PySem PySem.Spec PyProof.Rows L2
/-! the same thing; what the program tells -/
def SameV : Nat → Hp → V → V → Prop
  | 0, _, x, y => Plain y ∧ x = y
  | n + 1, H, x, y => (Plain y ∧ x = y) ∨ ∃ (a b : Addr) (xs ys : List V), x = .ref a ∧ y = .ref b ∧ H a = some (.tup xs) ∧ H b = some (.tup ys) ∧ xs.length = ys.length ∧ ys.length ≤ 20000 ∧
      ∀ (i : Nat) (u v : V), xs[i]? = some u → ys[i]? = some v → SameV n H u v
theorem SameV.keep : ∀ {n : Nat} {H H' : Hp} {x y : V}, SameV n H x y → Same H H' → SameV n H' x y
  | 0, _, _, _, _, h, _ => h
  | n + 1, _, _, _, _, h, s => by
    rcases h with h | ⟨a, b, xs, ys, h1, h2, h3, h4, h5, h6, h7⟩
    · exact .inl h
    · exact .inr ⟨a, b, xs, ys, h1, h2, s _ _ h3, s _ _ h4, h5, h6, fun i u v e1 e2 => (h7 i u v e1 e2).keep s⟩
def spSame (n : Nat) : Sp := fun vs H Q _ => ∃ x y, vs = [x, y] ∧ SameV n H x y ∧ ∀ H', Same H H' → Q (.bl true) H'
def spNever : Sp := fun _ _ _ _ => False
section
variable {P : Program} {w : World} {K : PySem.W.Frag} {mg : Str → Option Value} {base : Heap}
theorem ok_same_at {f : Addr} {fd : FuncData} (F : Fun K "_law_same" "_law_same" s__law_same f fd) (m_isinstance : mg "isinstance" = none) (m_tuple : mg "tuple" = none) (m_bool : mg "bool" = none) (m_str : mg "str" = none) (m_int : mg "int" = none)
    (m_len : mg "len" = none) (m_all : mg "all" = none) (m_range : mg "range" = none) {k : Nat} {sp sp' : Sp} (c__law_same : Cal P w K mg base k "_law_same" sp)
    (hyp : ∀ vs H Q E, sp' vs H Q E → ∃ x y, vs = [x, y] ∧ (∀ H', Same H H' → Q (.bl true) H') ∧ ((Plain y ∧ x = y) ∨ ∃ (a b : Addr) (xs ys : List V), x = .ref a ∧ y = .ref b ∧ H a = some (.tup xs) ∧ H b = some (.tup ys) ∧ xs.length = ys.length ∧ ys.length ≤ 20000 ∧
      ∀ (i : Nat) (u v : V), xs[i]? = some u → ys[i]? = some v → ∀ H1 Q1 E1, Same H H1 → (∀ H', Same H1 H' → Q1 (.bl true) H') → sp [u, v] H1 Q1 E1)) :
    FnOk P w K mg base CX0 (k + 1) f fd ["_law_told", "_law_due"] sp' := by
  refine F.ok sc__law_same (fun vs H Q E h => ?_) (fun cdv A outer s H vs Q E hr h => ?_)
  · obtain ⟨x, y, rfl, _⟩ := hyp _ _ _ _ h
    rfl
  · obtain ⟨x, y, rfl, q, ways⟩ := hyp _ _ _ _ h
    refine ⟨_, (pss_cons (ps_if (pt_val (pe_callB call_isi (by rfl) m_isinstance (by decide +kernel) (pa_cons (pv 1) (pa_cons (pe_bltn (v := .ty "tuple") (by rfl) m_tuple (by decide +kernel) rfl) pa_nil))))
    (pss_cons (ps_if (PW.pt (pw_or (pt_not (pt_val (pe_callB call_isi (by rfl) m_isinstance (by decide +kernel) (pa_cons (pv 0) (pa_cons (pe_bltn (v := .ty "tuple") (by rfl) m_tuple (by decide +kernel) rfl) pa_nil))))) (pw_or1 (pt_cmpR op_ne (pe_callB call_len (by rfl) m_len (by decide +kernel) (pa_cons (pv 0) pa_nil)) (pe_callB call_len (by rfl) m_len (by decide +kernel) (pa_cons (pv 1) pa_nil)) (nomark _)))))
    (pss_one (ps_ret (pe_bl)))
    pss_nil)
    (pss_one (ps_ret (pe_callB (cr_all rfl) (by rfl) m_all (by decide +kernel) (pa_cons (pe_lc (own := [("_law_k", 2)]) rfl sc__law_same.nd (pi_range1 (by rfl) m_range (pa_cons (pe_callB call_len (by rfl) m_len (by decide +kernel) (pa_cons (pv 1) pa_nil)) pa_nil)) (blkOk_by (N := N__law_same) (sc := defScope s__law_same) (by decide +kernel)) (fun _ _ _ _ _ => (pg_name (i := 2) sc__law_same.nd rfl (Or.inl rfl))) (fun _ _ _ _ _ => pts_nil) (fun _ _ _ _ _ => (pe_c c__law_same hr (Nat.le_refl _) rfl (pa_cons (pe_ix (show IxR _ (rIxT K) from ix_tup) (pv 0) (pv 2) (fun _ _ => rfl)) (pa_cons (pe_ix (show IxR _ (rIxT K) from ix_tup) (pv 1) (pv 2) (fun _ _ => rfl)) pa_nil))))) pa_nil)))))
    pss_nil)
    (pss_cons (ps_if (pt_cmpR op_isN (pv 1) (pe_non) (nomark _))
    (pss_one (ps_ret (pe_cmpR op_isN (pv 0) (pe_non) (nomark _))))
    pss_nil)
    (pss_cons (ps_if (pt_val (pe_callB call_isi (by rfl) m_isinstance (by decide +kernel) (pa_cons (pv 1) (pa_cons (pe_bltn (v := .ty "bool") (by rfl) m_bool (by decide +kernel) rfl) pa_nil))))
    (pss_one (ps_ret (pe_and (pe_callB call_isi (by rfl) m_isinstance (by decide +kernel) (pa_cons (pv 0) (pa_cons (pe_bltn (v := .ty "bool") (by rfl) m_bool (by decide +kernel) rfl) pa_nil))) (pe_one (pe_cmpR op_eq (pv 0) (pv 1) (nomark _))))))
    pss_nil)
    (pss_cons (ps_if (pt_val (pe_callB call_isi (by rfl) m_isinstance (by decide +kernel) (pa_cons (pv 1) (pa_cons (pe_bltn (v := .ty "str") (by rfl) m_str (by decide +kernel) rfl) pa_nil))))
    (pss_one (ps_ret (pe_and (pe_callB call_isi (by rfl) m_isinstance (by decide +kernel) (pa_cons (pv 0) (pa_cons (pe_bltn (v := .ty "str") (by rfl) m_str (by decide +kernel) rfl) pa_nil))) (pe_one (pe_cmpR op_eq (pv 0) (pv 1) (nomark _))))))
    pss_nil)
    (pss_one (ps_ret (pe_and (pe_callB call_isi (by rfl) m_isinstance (by decide +kernel) (pa_cons (pv 0) (pa_cons (pe_bltn (v := .ty "int") (by rfl) m_int (by decide +kernel) rfl) pa_nil))) (pe_and (pe_not (pe_callB call_isi (by rfl) m_isinstance (by decide +kernel) (pa_cons (pv 0) (pa_cons (pe_bltn (v := .ty "bool") (by rfl) m_bool (by decide +kernel) rfl) pa_nil)))) (pe_one (pe_cmpR op_eq (pv 0) (pv 1) (nomark _))))))))))), ?_⟩
    rcases ways with ⟨hp, rfl⟩ | ⟨a, b, xs, ys, rfl, rfl, ha, hb, hl, hl2, hsub⟩
    · have q0 := q H (Same.refl H)
      cases x with
      | non =>
        exact ⟨_, rfl, _, _, _, _, false, rfl, .ty _, .base .non, kit_ty (by decide +kernel), false, rfl, _, rfl, rfl, _, rfl, _, rfl, rfl, q0⟩
      | bl c =>
        refine ⟨_, rfl, _, _, _, _, false, rfl, .ty _, .base (.bl c), kit_ty (by decide +kernel), false, rfl, _, rfl, rfl, _, rfl, _, rfl, _, _, _, _, true, rfl, .ty _, .base (.bl c), kit_ty (by decide +kernel), true, rfl, _, rfl, _, _, _, _, true, rfl, .ty _, .base (.bl c), kit_ty (by decide +kernel), true, rfl, iteT ⟨_, rfl, _, rfl, rfl, ?_⟩⟩
        rw [decide_eq_true rfl]
        exact q0
      | int i =>
        refine ⟨_, rfl, _, _, _, _, false, rfl, .ty _, .base (.int i), kit_ty (by decide +kernel), false, rfl, _, rfl, rfl, _, rfl, _, rfl, _, _, _, _, false, rfl, .ty _, .base (.int i), kit_ty (by decide +kernel), false, rfl, _, rfl, _, _, _, _, false, rfl, .ty _, .base (.int i), kit_ty (by decide +kernel), false, rfl, _, rfl, _, _, _, _, true, rfl, .ty _, .base (.int i), kit_ty (by decide +kernel), true, rfl, iteT ⟨_, rfl, _, _, _, _, false, rfl, .ty _, .base (.int i), kit_ty (by decide +kernel), ?_⟩⟩
        refine ⟨false, rfl, _, rfl, iteT ⟨_, rfl, _, rfl, rfl, ?_⟩⟩
        rw [decide_eq_true rfl]
        exact q0
      | str z =>
        refine ⟨_, rfl, _, _, _, _, false, rfl, .ty _, .base (.str z), kit_ty (by decide +kernel), false, rfl, _, rfl, rfl, _, rfl, _, rfl, _, _, _, _, false, rfl, .ty _, .base (.str z), kit_ty (by decide +kernel), false, rfl, _, rfl, _, _, _, _, true, rfl, .ty _, .base (.str z), kit_ty (by decide +kernel), true, rfl, _, rfl, _, _, _, _, true, rfl, .ty _, .base (.str z), kit_ty (by decide +kernel), true, rfl, iteT ⟨_, rfl, _, rfl, rfl, ?_⟩⟩
        rw [decide_eq_true rfl]
        exact q0
      | ref a => exact hp.elim
      | byt z => exact hp.elim
      | flt z => exact hp.elim
      | ty z => exact hp.elim
    · have hl3 : ys.length ≤ sizeLine := Nat.le_of_lt (small_line (Nat.le_trans hl2 (by decide)))
      have hl4 : xs.length ≤ sizeLine := hl ▸ hl3
      refine ⟨_, rfl, _, _, _, _, true, rfl, .ty _, .base (.tup hb), kit_ty (by decide +kernel), true, rfl, _, rfl, _, _, _, _, true, rfl, .ty _, .base (.tup ha), kit_ty (by decide +kernel), true, rfl, ?_⟩
      refine ⟨_, rfl, _, xs.length, rfl, .inr ⟨_, SqT.of ha, rfl⟩, _, rfl, _, ys.length, rfl, .inr ⟨_, SqT.of hb, rfl⟩, rfl, _, rfl, ?_⟩
      rw [hl]
      refine ite2 (fun e => absurd e (by simp)) (fun _ => ?_)
      refine ⟨_, rfl, _, ys.length, rfl, .inr ⟨_, SqT.of hb, rfl⟩, _, rfl, by omega, by omega, fun D hD => ?_⟩
      refine lc_it (walk_range (lo := 0) (n := ((ys.length : Nat) : Int).toNat)) (fun i H' => Same H H' ∧ H' D = some (.lst (List.replicate i (V.bl true)))) ⟨same_new hD, upd_same⟩ (fun _ _ _ _ => trivial) ?_ ?_
      · rintro i x Ha Hb hi ⟨hs, hd⟩ ⟨rfl, rfl⟩
        have hi' : i < ys.length := by rw [Int.toNat_natCast] at hi; exact hi
        have ex : xs[i]? = some (xs[i]'(hl ▸ hi')) := List.getElem?_eq_getElem (hl ▸ hi')
        have ey : ys[i]? = some (ys[i]'hi') := List.getElem?_eq_getElem hi'
        have at1 : atI xs (0 + (i : Nat)) = some (xs[i]'(hl ▸ hi')) := by rw [Int.zero_add]; exact atI_nat ex
        have at2 : atI ys (0 + (i : Nat)) = some (ys[i]'hi') := by rw [Int.zero_add]; exact atI_nat ey
        refine ⟨rfl, _, rfl, _, rfl, a, xs, _, _, rfl, rfl, SqT.of (hs _ _ ha), at1, _, rfl, _, rfl, b, ys, _, _, rfl, rfl, SqT.of (hs _ _ hb), at2, ?_⟩
        refine hsub i _ _ ex ey _ _ _ hs fun H2 s2 => ⟨_, s2 _ _ hd, ?_, same_over (hs.trans s2) hD, ?_⟩
        · rw [List.length_replicate]
          exact small_line (by omega)
        · rw [upd_same, List.replicate_succ']
      · rintro H' ⟨hs, hd⟩
        have hd2 : H' D = some (.lst ((List.replicate ys.length true).map V.bl)) := by rw [hd, Int.toNat_natCast, List.map_replicate]
        have q' := q H' hs
        have e : (List.replicate ys.length true).all id = true := List.all_eq_true.mpr fun b hb => by rw [List.eq_of_mem_replicate hb]; rfl
        refine ⟨D, _, rfl, SqL.of hd2, ?_⟩
        rw [e]
        exact q'
end
end Sea
namespace Sea
open PySem PySem.Spec PyProof.Rows L2
/-! row_carried, carried -/
/-- a list of triples that grows at D -/
structure Lst (H1 : Hp) (D : Addr) (Hc : Hp) (N : List (Addr × Tri)) : Prop where
  kb : KB D H1 Hc
  at_ : Hc D = some (.lst (refsT N))
  tr : ∀ e ∈ N, TAt Hc e
theorem Lst.put {H1 Hc : Hp} {D T2 : Addr} {N N' : List (Addr × Tri)} {tr : Tri} {ys : List V} (h : Lst H1 D Hc N) (h2 : Hc T2 = none) (ey : ys = refsT N') (hm : ∀ d ∈ N', d ∈ N ∨ d = (T2, tr)) : Lst H1 D (upd (upd Hc T2 (.tup (Tri.vs tr))) D (.lst ys)) N' := by
  subst ey
  have sT2 := same_new (o := .tup (Tri.vs tr)) h2
  have ko : KT Hc (upd (upd Hc T2 (.tup (Tri.vs tr))) D (.lst (refsT N'))) := (KT.of_same sT2).over (sT2 _ _ h.at_)
  refine ⟨kb_put fun b o n hb => sT2 _ _ (h.kb b o n hb), upd_same, fun d hd => ?_⟩
  rcases hm d hd with h' | h'
  · exact ko _ _ (h.tr d h')
  · rw [h']
    exact ((KT.refl (upd Hc T2 (.tup (Tri.vs tr)))).over (zs := refsT N') (sT2 _ _ h.at_)) _ _ upd_same
end Sea
namespace Sea
open PySem PySem.Spec PyProof.Rows L2
/-! _law_showings -/
theorem DI.get {G : Hp → Str → V → Prop} {ns : List Str} {n : Nat} {H : Hp} {d : Addr} {z : Str} (h : DI G ns n H d) (hn : ns.length ≤ n) (hz : z ∈ ns) : ∃ ks v, H d = some (.dK ks) ∧ valV ks (Sum.inr z) = some v ∧ G H z v := by
  obtain ⟨ks, h1, _, h3⟩ := h
  obtain ⟨v, h4, h5⟩ := h3 z (by rw [List.take_of_length_le hn]; exact hz)
  exact ⟨ks, v, h1, h4, h5⟩
end Sea
namespace Sea
open PySem PySem.Spec PyProof.Rows L2
/-! fractions, rules -/
/-! Rules -/
structure Ru where
  s : Int
  l : Option Int
  g : Int
  a : Int
  p : Option (Int × Int)
deriving DecidableEq
def optV : Option Int → V
  | none => .non
  | some i => .int i
def rulesF (a b c d e : V) : List (Str × V) := putF "pace" e (putF "again" d (putF "gap" c (putF "long" b (putF "short" a []))))
/-- a pace, as a tuple -/
def PaceT (H : Hp) (v : V) (p : Option (Int × Int)) : Prop := (p = none ∧ v = .non) ∨ ∃ (t : Addr) (x y : Int), p = some (x, y) ∧ v = .ref t ∧ H t = some (.tup [.int x, .int y])
def RulesAt (H : Hp) (CU x : Addr) (u : Ru) : Prop := ∃ (dx : Addr) (pv : V), H x = some (.ins CU dx (rulesF (.int u.s) (optV u.l) (.int u.g) (.int u.a) pv)) ∧ PaceT H pv u.p
theorem PaceT.km {H H' : Hp} {v : V} {p : Option (Int × Int)} (h : PaceT H v p) (s : KM H H') : PaceT H' v p := h.imp id fun ⟨t, x, y, a, b, c⟩ => ⟨t, x, y, a, b, s.tup c⟩
theorem RulesAt.km {H H' : Hp} {CU x : Addr} {u : Ru} (h : RulesAt H CU x u) (s : KM H H') : RulesAt H' CU x u := let ⟨dx, pv, a, b⟩ := h; ⟨dx, pv, s _ _ a (fun z => z), b.km s⟩
theorem RulesAt.keep {H H' : Hp} {CU x : Addr} {u : Ru} (h : RulesAt H CU x u) (s : Same H H') : RulesAt H' CU x u := h.km (KM.of_same s)
end Sea
namespace Sea
open PySem PySem.Spec PyProof.Rows L2
/-! Rules: ==, loosest -/
def paceP : Option (Int × Int) → PyData
  | none => .none
  | some (x, y) => .tuple [.int x, .int y]
theorem PaceT.dp {K : PySem.W.Frag} {H : Hp} {v : V} {p : Option (Int × Int)} (h : PaceT H v p) : Dp K H v (paceP p) := by
  rcases h with ⟨rfl, rfl⟩ | ⟨t, x, y, rfl, rfl, ht⟩
  · exact .non
  · exact .tup (SqT.of ht) (.cons (.int _) (.cons (.int _) .nil))
end Sea
namespace Sea
open PySem PySem.Spec PyProof.Rows L2
/-! breaches -/
theorem plan_reel (v1 v2 v3 v4 v5 v6 v7 v8 v9 v10 v11 v12 v13 : V) : (planF v1 v2 v3 v4 v5 v6 v7 v8 v9 v10 v11 v12 v13).lookup ("reel" : Str) = some v1 := by unfold planF; (repeat first | rw [lookup_putF, if_neg (by decide +kernel)] | rw [lookup_putF, if_pos rfl])
end Sea
namespace Sea
/-! standings, pure: a course through a piece against the captions of the whole row -/
structure Co where
  wt : Option (Int × Int)
  car : Option Tri
  le : Int → Option Int
def Co.takeUp (close : Int) (s : Co) (c b o : Int) : Co :=
  match s.car with
  | none => ⟨s.wt, some (c, b, o), fun x => if x = c then none else s.le x⟩
  | some l => if l.1 = c ∧ b - l.2.2 < close then ⟨s.wt, some (c, l.2.1, o), s.le⟩
    else ⟨s.wt, some (c, b, o), fun x => if x = c then none else if x = l.1 then some (if b - l.2.2 < close then b else l.2.2) else s.le x⟩
def Co.on (s : Co) (c : Int) : Prop := ∃ l, s.car = some l ∧ l.1 = c ∧ l.2.2 = 0
def Co.from (w0 : Option (Int × Int)) (t : Tri) : Int := if t.2.1 = 0 then (match w0 with | some p => if p.1 = t.1 then p.2 else t.2.1 | none => t.2.1) else t.2.1
def Co.come (least close sh : Int) (s : Co) (c b o : Int) : Co :=
  if least ≤ o - b then s.takeUp close c b o else if o = sh then { s with wt := some (c, b) } else s
open Classical in
noncomputable def Co.one (least close sh : Int) (w0 : Option (Int × Int)) (s : Co) (t : Tri) : Co :=
  if t.2.1 = 0 ∧ w0 = none ∧ s.on t.1 then { s with car := s.car.map fun l => (t.1, l.2.1, t.2.2) } else s.come least close sh t.1 (Co.from w0 t) t.2.2
noncomputable def Co.go (least close sh : Int) (st : List Tri) (s : Co) : Co := st.foldl (Co.one least close sh s.wt) { s with wt := none }
/-- the last end of a cue -/
def lastE (C : List Tri) (x : Int) : Option Int := C.foldl (fun a t => if t.1 = x then some t.2.2 else a) none
/-- the same end, or both far off -/
def FarE (m b v e' e : Int) : Prop := e' = e - b ∨ (e' ≤ v - m ∧ e - b ≤ v - m)
def LenR (m : Int) (l' l : Tri) : Prop := l'.2.2 - l'.2.1 = l.2.2 - l.2.1 ∨ (m ≤ l'.2.2 - l'.2.1 ∧ m ≤ l.2.2 - l.2.1)
def LeR (m ag b v : Int) (a : Option Int) (e : Option Int) : Prop := (e = none ∧ a = none) ∨ ∃ z, e = some z ∧ ((a = none ∧ ag ≤ v - (z - b)) ∨ ∃ y, a = some y ∧ FarE m b v y z)
def Rel (m ag b v : Int) (s : Co) (C : List Tri) : Prop :=
  (s.car = none ∧ C = [] ∧ ∀ x, s.le x = none) ∨ ∃ F l l', C = F ++ [l] ∧ s.car = some l' ∧ l'.1 = l.1 ∧ FarE m b v l'.2.2 l.2.2 ∧ LenR m l' l ∧ l'.2.2 ≤ v ∧ l.2.2 - b ≤ v ∧ s.le l.1 = none ∧ ∀ x, x ≠ l.1 → LeR m ag b v (s.le x) (lastE F x)
theorem FarE.mono {m b v v' e' e : Int} (h : FarE m b v e' e) (k : v ≤ v') : FarE m b v' e' e := h.imp id fun ⟨a, c⟩ => ⟨by omega, by omega⟩
theorem LeR.mono {m ag b v v' : Int} {a e : Option Int} (h : LeR m ag b v a e) (k : v ≤ v') : LeR m ag b v' a e := by
  rcases h with h | ⟨z, h, h2⟩
  · exact .inl h
  · refine .inr ⟨z, h, h2.imp (fun ⟨p, q⟩ => ⟨p, by omega⟩) fun ⟨y, p, q⟩ => ⟨y, p, q.mono k⟩⟩
theorem Rel.mono {m ag b v v' : Int} {s : Co} {C : List Tri} (h : Rel m ag b v s C) (k : v ≤ v') : Rel m ag b v' s C := by
  rcases h with h | ⟨F, l, l', h1, h2, h3, h4, h5, h6, h7, h8, h9⟩
  · exact .inl h
  · exact .inr ⟨F, l, l', h1, h2, h3, h4.mono k, h5, by omega, by omega, h8, fun x hx => (h9 x hx).mono k⟩
theorem Rel.wt {m ag b v : Int} {s : Co} {C : List Tri} (h : Rel m ag b v s C) (w : Option (Int × Int)) : Rel m ag b v { s with wt := w } C := h
end Sea
namespace Sea
/-! standings -/
structure Std where
  pend : Option (Int × Int)
  opn : Option (Int × Int × Int)
  age : Int → Option Int
def edgeP (p : Option (Int × Int)) : Int := match p with | some p => -p.2 | none => 0
def Std.start (d : Std) : Co :=
  ⟨d.pend.map fun p => (p.1, -p.2), d.opn.map fun o => (o.1, edgeP d.pend - o.2.2 - o.2.1, edgeP d.pend - o.2.2), fun x => (d.age x).map fun a => edgeP d.pend - a⟩
end Sea
namespace Sea
open PySem PySem.Spec PyProof.Rows L2
/-! ways: followers, the first wrong step -/
theorem plan_starts (v1 v2 v3 v4 v5 v6 v7 v8 v9 v10 v11 v12 v13 : V) : (planF v1 v2 v3 v4 v5 v6 v7 v8 v9 v10 v11 v12 v13).lookup ("starts" : Str) = some v5 := by unfold planF; (repeat first | rw [lookup_putF, if_neg (by decide +kernel)] | rw [lookup_putF, if_pos rfl])
theorem plan_behind (v1 v2 v3 v4 v5 v6 v7 v8 v9 v10 v11 v12 v13 : V) : (planF v1 v2 v3 v4 v5 v6 v7 v8 v9 v10 v11 v12 v13).lookup ("_behind" : Str) = some v11 := by unfold planF; (repeat first | rw [lookup_putF, if_neg (by decide +kernel)] | rw [lookup_putF, if_pos rfl])
theorem plan_no_followers (v1 v2 v3 v4 v5 v6 v7 v8 v9 v10 v11 v12 v13 : V) : (planF v1 v2 v3 v4 v5 v6 v7 v8 v9 v10 v11 v12 v13).lookup ("followers" : Str) = none := by unfold planF; (repeat rw [lookup_putF, if_neg (by decide +kernel)]); rfl
def spFollow (CP CR : Addr) : Sp := fun vs H Q _ => ∃ (x : Addr) (len : Int) (L : List (Addr × Cue)) (ps : List Piece) (as : List (Str × Str)) (ss es : List Str) (p : Piece), vs = [.ref x, .str p.nm] ∧ PlanAt H CR CP x len L ps as ss es ∧ p ∈ ps ∧
  ∀ (a : Addr) (ys : List Str), H a = some (.tup (ys.map V.str)) → ys.Perm (rightsOf as p.nm) → Q (.ref a) H
section
variable {P : Program} {w : World} {K : PySem.W.Frag} {mg : Str → Option Value} {base : Heap} {CR CP fR fP : Addr}
theorem ok_follow {f : Addr} {fd : FuncData} (F : Fun K "followers" "Plan.followers" s_Plan_followers f fd) (TP : PlC K mg CP fP) (C : OwnC P w K mg base CP CR) : FnOk P w K mg base CX0 2 f fd ["self", "name"] (spFollow CP CR) := by
  obtain ⟨fC, fdC, OC, hs, hf, hb⟩ := C.ex
  refine F.ok sc_Plan_followers (fun vs H Q E h => ?_) (fun cdv A outer s H vs Q E hr h => ?_)
  · obtain ⟨x, len, L, ps, as, ss, es, p, rfl, _⟩ := h
    rfl
  · obtain ⟨x, len, L, ps, as, ss, es, p, rfl, hP, hp, q⟩ := h
    obtain ⟨dx, xr, pt, nt, at', st, et, dP, dF, dS, dB, dT, dQ, hx, B⟩ := id hP
    obtain ⟨ks, hd, hk⟩ := B.kB
    obtain ⟨a, ys, hv, ha, hy, _⟩ := hk p hp
    refine ⟨_, (pss_cons (ps_if (pt_cmpR (op_ownNotIn OC hr (Nat.le_refl _) hs hf hb) (pv 1) (pv 0) rfl)
    (pss_one ps_never)
    pss_nil)
    (pss_one (ps_ret (pe_dget (hu_of hr) (pe_fld (pv 0) rfl) (pv 1) (fun _ _ => rfl))))), ?_⟩
    refine ⟨_, rfl, _, rfl, x, dx, _, rfl, hx, x, .str p.nm, len, L, ps, as, ss, es, rfl, hP, .inl trivial, _, rfl, _, rfl, ?_⟩
    show (if (!decide (p.nm ∈ ps.map (·.nm))) = true then _ else _)
    rw [decide_eq_true (List.mem_map.mpr ⟨p, hp, rfl⟩)]
    have dg : DGet H dB (V.str p.nm) (some (.ref a)) := hv ▸ DGet.k (k := Sum.inr p.nm) hd
    exact ⟨_, rfl, x, CP, dx, _, _, rfl, hx, TP.cl, TP.nB, plan_behind .., _, rfl, dB, _, rfl, dg, q a ys ha hy⟩
end
end Sea
namespace Sea
open PySem PySem.Spec PyProof.Rows L2
/-! stretches of a row -/
def stF (v1 v2 v3 v4 v5 v6 v7 v8 v9 : V) : List (Str × V) := putF "tail" v9 (putF "head" v8 (putF "sent" v7 (putF "shows" v6 (putF "grains" v5 (putF "many" v4 (putF "linked" v3 (putF "last" v2 (putF "first" v1 []))))))))
section
variable (v1 v2 v3 v4 v5 v6 v7 v8 v9 : V)
theorem st_eq : stF v1 v2 v3 v4 v5 v6 v7 v8 v9 = [(("first" : Str), v1), (("last" : Str), v2), (("linked" : Str), v3), (("many" : Str), v4), (("grains" : Str), v5), (("shows" : Str), v6), (("sent" : Str), v7), (("head" : Str), v8), (("tail" : Str), v9)] := by
  unfold stF putF
  rfl
theorem st_first : (stF v1 v2 v3 v4 v5 v6 v7 v8 v9).lookup ("first" : Str) = some v1 := by unfold stF; (repeat first | rw [lookup_putF, if_neg (by decide +kernel)] | rw [lookup_putF, if_pos rfl])
theorem st_last : (stF v1 v2 v3 v4 v5 v6 v7 v8 v9).lookup ("last" : Str) = some v2 := by unfold stF; (repeat first | rw [lookup_putF, if_neg (by decide +kernel)] | rw [lookup_putF, if_pos rfl])
theorem st_linked : (stF v1 v2 v3 v4 v5 v6 v7 v8 v9).lookup ("linked" : Str) = some v3 := by unfold stF; (repeat first | rw [lookup_putF, if_neg (by decide +kernel)] | rw [lookup_putF, if_pos rfl])
theorem st_many : (stF v1 v2 v3 v4 v5 v6 v7 v8 v9).lookup ("many" : Str) = some v4 := by unfold stF; (repeat first | rw [lookup_putF, if_neg (by decide +kernel)] | rw [lookup_putF, if_pos rfl])
theorem st_grains : (stF v1 v2 v3 v4 v5 v6 v7 v8 v9).lookup ("grains" : Str) = some v5 := by unfold stF; (repeat first | rw [lookup_putF, if_neg (by decide +kernel)] | rw [lookup_putF, if_pos rfl])
theorem st_shows : (stF v1 v2 v3 v4 v5 v6 v7 v8 v9).lookup ("shows" : Str) = some v6 := by unfold stF; (repeat first | rw [lookup_putF, if_neg (by decide +kernel)] | rw [lookup_putF, if_pos rfl])
theorem st_sent : (stF v1 v2 v3 v4 v5 v6 v7 v8 v9).lookup ("sent" : Str) = some v7 := by unfold stF; (repeat first | rw [lookup_putF, if_neg (by decide +kernel)] | rw [lookup_putF, if_pos rfl])
theorem st_head : (stF v1 v2 v3 v4 v5 v6 v7 v8 v9).lookup ("head" : Str) = some v8 := by unfold stF; (repeat first | rw [lookup_putF, if_neg (by decide +kernel)] | rw [lookup_putF, if_pos rfl])
theorem st_tail : (stF v1 v2 v3 v4 v5 v6 v7 v8 v9).lookup ("tail" : Str) = some v9 := by unfold stF; (repeat first | rw [lookup_putF, if_neg (by decide +kernel)] | rw [lookup_putF, if_pos rfl])
theorem st_put_linked (z : V) : putF "linked" z (stF v1 v2 v3 v4 v5 v6 v7 v8 v9) = stF v1 v2 z v4 v5 v6 v7 v8 v9 := by rw [st_eq, st_eq]; rfl
theorem st_put_many (z : V) : putF "many" z (stF v1 v2 v3 v4 v5 v6 v7 v8 v9) = stF v1 v2 v3 z v5 v6 v7 v8 v9 := by rw [st_eq, st_eq]; rfl
theorem st_put_grains (z : V) : putF "grains" z (stF v1 v2 v3 v4 v5 v6 v7 v8 v9) = stF v1 v2 v3 v4 z v6 v7 v8 v9 := by rw [st_eq, st_eq]; rfl
theorem st_put_shows (z : V) : putF "shows" z (stF v1 v2 v3 v4 v5 v6 v7 v8 v9) = stF v1 v2 v3 v4 v5 z v7 v8 v9 := by rw [st_eq, st_eq]; rfl
theorem st_put_sent (z : V) : putF "sent" z (stF v1 v2 v3 v4 v5 v6 v7 v8 v9) = stF v1 v2 v3 v4 v5 v6 z v8 v9 := by rw [st_eq, st_eq]; rfl
theorem st_put_head (z : V) : putF "head" z (stF v1 v2 v3 v4 v5 v6 v7 v8 v9) = stF v1 v2 v3 v4 v5 v6 v7 z v9 := by rw [st_eq, st_eq]; rfl
theorem st_put_tail (z : V) : putF "tail" z (stF v1 v2 v3 v4 v5 v6 v7 v8 v9) = stF v1 v2 v3 v4 v5 v6 v7 v8 z := by rw [st_eq, st_eq]; rfl
theorem st_len : (stF v1 v2 v3 v4 v5 v6 v7 v8 v9).length = 9 := by rw [st_eq]; rfl
end
structure StC (K : PySem.W.Frag) (mg : Str → Option Value) (CS fI : Addr) : Prop where
  cl : Cls K CS
  made : Mk K CS fI
  g : mg "Stretch" = some (.ref CS)
  n_first : NoAttr K CS "first"
  n_last : NoAttr K CS "last"
  n_linked : NoAttr K CS "linked"
  n_many : NoAttr K CS "many"
  n_grains : NoAttr K CS "grains"
  n_shows : NoAttr K CS "shows"
  n_sent : NoAttr K CS "sent"
  n_head : NoAttr K CS "head"
  n_tail : NoAttr K CS "tail"
/-- what a stretch tells -/
structure Sx where
  f : Str
  l : Str
  k : Bool
  mn : Int
  gr : Int
  sh : Int
  se : Int
  hd : Option Int
  tl : Option Int
def oiV : Option Int → V
  | none => .non
  | some i => .int i
def Sx.fs (s : Sx) : List (Str × V) := stF (.str s.f) (.str s.l) (.bl s.k) (.int s.mn) (.int s.gr) (.int s.sh) (.int s.se) (oiV s.hd) (oiV s.tl)
def StrAt (H : Hp) (CS x : Addr) (s : Sx) : Prop := ∃ dx, H x = some (.ins CS dx s.fs)
theorem StrAt.keep {H H' : Hp} {CS x : Addr} {s : Sx} (h : StrAt H CS x s) (k : Same H H') : StrAt H' CS x s := let ⟨dx, h⟩ := h; ⟨dx, k _ _ h⟩
theorem plE {f : Str} {v : V} {fs : List (Str × V)} {n : Nat} (h : fs.length ≤ n) : (putF f v fs).length ≤ n + 1 := Nat.le_trans (putF_len f v fs) (Nat.succ_le_succ h)
def joinI (t h : Option Int) : Int := if t ≠ none ∧ t = h then 1 else 0
def spJoins : Sp := fun vs H Q _ => ∃ t h : Option Int, vs = [oiV t, oiV h] ∧ Q (.int (joinI t h)) H
def spStIni (CS : Addr) : Sp := fun vs H Q _ => ∃ (x dx : Addr) (a b : Str), vs = [.ref x, .str a, .str b] ∧ H x = some (.ins CS dx []) ∧
  ∀ H', KB x H H' → H' x = some (.ins CS dx (Sx.fs ⟨a, b, true, 0, 0, 0, 0, none, none⟩)) → Q .non H'
section
variable {P : Program} {w : World} {K : PySem.W.Frag} {mg : Str → Option Value} {base : Heap} {CS fI : Addr}
theorem ok_joins {f : Addr} {fd : FuncData} (F : Fun K "joins" "joins" s_joins f fd) : FnOk P w K mg base CX0 1 f fd ["tail", "head"] spJoins := by
  refine F.ok sc_joins (fun vs H Q E h => ?_) (fun cdv A outer s H vs Q E hr h => ?_)
  · obtain ⟨t, h, rfl, _⟩ := h
    rfl
  · obtain ⟨t, h, rfl, q⟩ := h
    refine ⟨_, (pss_one (ps_ret (pe_ifExp (PW.pt (pw_and (pt_cmpR op_notN (pv 0) (pe_non) (nomark _)) (pw_and1 (pt_cmpR op_eq (pv 0) (pv 1) (nomark _))))) (pe_int) (pe_int)))), ?_⟩
    cases t with
    | none =>
      exact ⟨_, rfl, rfl, _, rfl, q⟩
    | some i =>
      refine ⟨_, rfl, rfl, _, rfl, ?_⟩
      cases h with
      | none =>
        exact ⟨_, rfl, _, rfl, rfl, _, rfl, q⟩
      | some j =>
        refine ⟨_, rfl, _, rfl, rfl, _, rfl, ?_⟩
        by_cases e : i = j
        · subst e
          rw [show decide (oiV (some i) = oiV (some i)) = true from decide_eq_true rfl]
          have ej : joinI (some i) (some i) = 1 := if_pos ⟨(fun h => nomatch h), rfl⟩
          rw [ej] at q
          exact q
        · rw [show decide (oiV (some i) = oiV (some j)) = false from decide_eq_false fun h => e (V.int.inj h)]
          have ej : joinI (some i) (some j) = 0 := if_neg fun h => e (Option.some.inj h.2)
          rw [ej] at q
          exact q
theorem ok_stIni {f : Addr} {fd : FuncData} (F : Fun K "__init__" "Stretch.__init__" s_Stretch___init__ f fd) (T : StC K mg CS fI) : FnOk P w K mg base CX0 1 f fd ["self", "first", "last"] (spStIni CS) := by
  refine F.ok sc_Stretch___init__ (fun vs H Q E h => ?_) (fun cdv A outer s H vs Q E hr h => ?_)
  · obtain ⟨x, dx, a, b, rfl, _⟩ := h
    rfl
  · obtain ⟨x, dx, a, b, rfl, hx, q⟩ := h
    refine ⟨_, (pss_cons (ps_fld (pv 0) (pv 1) rfl)
    (pss_cons (ps_fld (pv 0) (pv 2) rfl)
    (pss_cons (ps_fld (pv 0) (pe_bl) rfl)
    (pss_cons (ps_fld (pv 0) (pe_int) rfl)
    (pss_cons (ps_fld (pv 0) (pe_int) rfl)
    (pss_cons (ps_fld (pv 0) (pe_int) rfl)
    (pss_cons (ps_fld (pv 0) (pe_int) rfl)
    (pss_cons (ps_fld (pv 0) (pe_non) rfl)
    (pss_one (ps_fld (pv 0) (pe_non) rfl)))))))))), ?_⟩
    refine ⟨_, rfl, _, rfl, x, CS, dx, _, rfl, hx, T.cl, T.n_first, (by decide : (0 : Nat) < 1000), ?_⟩
    refine ⟨_, rfl, _, rfl, x, CS, dx, _, rfl, upd_same, T.cl, T.n_last, (Nat.lt_of_le_of_lt (plE (Nat.le_refl 0)) (by decide)), ?_⟩
    refine ⟨_, rfl, x, CS, dx, _, rfl, upd_same, T.cl, T.n_linked, (Nat.lt_of_le_of_lt (plE (plE (Nat.le_refl 0))) (by decide)), ?_⟩
    refine ⟨_, rfl, x, CS, dx, _, rfl, upd_same, T.cl, T.n_many, (Nat.lt_of_le_of_lt (plE (plE (plE (Nat.le_refl 0)))) (by decide)), ?_⟩
    refine ⟨_, rfl, x, CS, dx, _, rfl, upd_same, T.cl, T.n_grains, (Nat.lt_of_le_of_lt (plE (plE (plE (plE (Nat.le_refl 0))))) (by decide)), ?_⟩
    refine ⟨_, rfl, x, CS, dx, _, rfl, upd_same, T.cl, T.n_shows, (Nat.lt_of_le_of_lt (plE (plE (plE (plE (plE (Nat.le_refl 0)))))) (by decide)), ?_⟩
    refine ⟨_, rfl, x, CS, dx, _, rfl, upd_same, T.cl, T.n_sent, (Nat.lt_of_le_of_lt (plE (plE (plE (plE (plE (plE (Nat.le_refl 0))))))) (by decide)), ?_⟩
    refine ⟨_, rfl, x, CS, dx, _, rfl, upd_same, T.cl, T.n_head, (Nat.lt_of_le_of_lt (plE (plE (plE (plE (plE (plE (plE (Nat.le_refl 0)))))))) (by decide)), ?_⟩
    refine ⟨_, rfl, x, CS, dx, _, rfl, upd_same, T.cl, T.n_tail, (Nat.lt_of_le_of_lt (plE (plE (plE (plE (plE (plE (plE (plE (Nat.le_refl 0))))))))) (by decide)), ?_⟩
    refine q _ ?_ upd_same
    intro b' o n e
    simp only [upd_ne n]
    exact e
end
end Sea
namespace Sea
open PySem PySem.Spec PyProof.Rows L2
/-! one behind the other, several times -/
theorem op_mulB {X : Cx} : OpR X (binaryOp Operator.Mult) (rI IntMulOk fun i j => V.int (i * j)) := opI fun _ _ _ _ _ _ _ hc q => mul_int q hc
def bothSx (as : List (Str × Str)) (l r : Sx) : Sx := ⟨l.f, r.l, l.k && (r.k && decide (r.f ∈ rightsOf as l.l)), l.mn + r.mn, l.gr + r.gr, l.sh + r.sh - joinI l.tl r.hd, l.se + r.se, l.hd, r.tl⟩
def repSx (as : List (Str × Str)) (b : Sx) (n : Int) : Sx := ⟨b.f, b.l, b.k && decide (b.f ∈ rightsOf as b.l), b.mn * n, b.gr * n, b.sh * n - joinI b.tl b.hd * (n - 1), b.se * n, b.hd, b.tl⟩
/-- bits of what is counted -/
structure Sx.Fits (s : Sx) (m : Nat) : Prop where
  mn : Builtin.Int.intBits s.mn ≤ m
  gr : Builtin.Int.intBits s.gr ≤ m
  sh : Builtin.Int.intBits s.sh ≤ m
  se : Builtin.Int.intBits s.se ≤ m
theorem nextS {H Hn H' : Hp} {y : Addr} {o : HO} (hy : H y = none) (s : Same H Hn) (e : upd Hn y o = H') : Same H H' ∧ H' y = some o := by
  subst e
  refine ⟨fun b o' e => ?_, upd_same⟩
  rw [upd_ne fun e' => by rw [e', hy] at e; cases e]
  exact s b o' e
theorem kbS {H H1 : Hp} {y dy : Addr} {o1 o2 : HO} (hy : H y = none) (hd : H dy = none) (k : KB y (upd (upd H dy o1) y o2) H1) : Same H H1 := fun b o e => by
  have n1 : b ≠ y := fun e' => by rw [e', hy] at e; cases e
  have n2 : b ≠ dy := fun e' => by rw [e', hd] at e; cases e
  refine k b o n1 ?_
  rw [upd_ne n1, upd_ne n2]
  exact e
theorem stLt {v1 v2 v3 v4 v5 v6 v7 v8 v9 : V} : (stF v1 v2 v3 v4 v5 v6 v7 v8 v9).length < 1000 := by rw [st_len]; decide
theorem andB {ta tb : TE} {σ : List (Option V)} {H : Hp} {Q : VK} {a b : Bool} (h1 : ∀ Q' : VK, Q' (.bl a) H → ta σ H Q') (h2 : a = true → ∀ Q' : VK, Q' (.bl b) H → tb σ H Q') (q : Q (.bl (a && b)) H) : tAndV ta tb σ H Q := by
  refine h1 _ ⟨a, rfl, ?_⟩
  cases a with
  | true => exact h2 rfl _ q
  | false => exact q
def spBoth (CP CR CS : Addr) : Sp := fun vs H Q _ => ∃ (x a b : Addr) (len : Int) (L : List (Addr × Cue)) (ps : List Piece) (as : List (Str × Str)) (ss es : List Str) (l r : Sx), vs = [.ref x, .ref a, .ref b] ∧ PlanAt H CR CP x len L ps as ss es ∧ StrAt H CS a l ∧ StrAt H CS b r ∧
  (∃ p ∈ ps, l.l = p.nm) ∧ ∀ (H' : Hp) (y : Addr), Same H H' → StrAt H' CS y (bothSx as l r) → Q (.ref y) H'
def spRep (CP CR CS : Addr) : Sp := fun vs H Q _ => ∃ (x a : Addr) (n : Int) (len : Int) (L : List (Addr × Cue)) (ps : List Piece) (as : List (Str × Str)) (ss es : List Str) (l : Sx), vs = [.ref x, .ref a, .int n] ∧ PlanAt H CR CP x len L ps as ss es ∧ StrAt H CS a l ∧
  l.Fits 10000 ∧ Builtin.Int.intBits n ≤ 10000 ∧ (∃ p ∈ ps, l.l = p.nm) ∧ ∀ (H' : Hp) (y : Addr), Same H H' → StrAt H' CS y (repSx as l n) → Q (.ref y) H'
section
variable {P : Program} {w : World} {K : PySem.W.Frag} {mg : Str → Option Value} {base : Heap} {CR CP CS fI fP : Addr} {fdI : FuncData} {fJ : Addr} {fdJ : FuncData}
theorem ok_both {f : Addr} {fd : FuncData} (F : Fun K "behind_one_another" "behind_one_another" s_behind_one_another f fd) (T : StC K mg CS fI) (FI : FnOk P w K mg base CX0 1 fI fdI ["self", "first", "last"] (spStIni CS)) (bI : Binds K fdI ["self", "first", "last"] [])
    (TP : PlC K mg CP fP) (MF : MCal P w K mg base 2 CP "followers" (spFollow CP CR)) (c_joins : Cal P w K mg base 1 "joins" spJoins) : FnOk P w K mg base CX0 3 f fd ["plan", "left", "right"] (spBoth CP CR CS) := by
  refine F.ok sc_behind_one_another (fun vs H Q E h => ?_) (fun cdv A outer s H vs Q E hr h => ?_)
  · obtain ⟨x, a, b, len, L, ps, as, ss, es, l, r, rfl, _⟩ := h
    rfl
  · obtain ⟨x, a, b, len, L, ps, as, ss, es, l, r, rfl, hP, ⟨da, ha⟩, ⟨db, hb⟩, hm, q⟩ := h
    obtain ⟨dx, xr, pt, nt, at', st, et, dP, dF, dS, dB, dT, dQ, hx, _⟩ := id hP
    refine ⟨_, (pss_cons (ps_set (i := 3) sc_behind_one_another.nd rfl (Or.inl rfl) (pe_make (E := E0) T.made FI (hr.mono (by decide)) rfl T.g bI .nil pass0 (pa_cons (pe_fld (pv 1) rfl) (pa_cons (pe_fld (pv 2) rfl) pa_nil))))
    (pss_cons (ps_fld (pv 3) (pe_and (pe_fld (pv 1) rfl) (pe_and (pe_fld (pv 2) rfl) (pe_one (pe_cmpR op_in_seq (pe_fld (pv 2) rfl) (pe_mc (pv 0) TP.cl MF hr (by decide) (pa_cons (pe_fld (pv 1) rfl) pa_nil)) rfl)))) rfl)
    (pss_cons (ps_fld (pv 3) (pe_op op_add (pe_fld (pv 1) rfl) (pe_fld (pv 2) rfl)) rfl)
    (pss_cons (ps_fld (pv 3) (pe_op op_add (pe_fld (pv 1) rfl) (pe_fld (pv 2) rfl)) rfl)
    (pss_cons (ps_fld (pv 3) (pe_op op_sub (pe_op op_add (pe_fld (pv 1) rfl) (pe_fld (pv 2) rfl)) (pe_c c_joins hr (by decide) rfl (pa_cons (pe_fld (pv 1) rfl) (pa_cons (pe_fld (pv 2) rfl) pa_nil)))) rfl)
    (pss_cons (ps_fld (pv 3) (pe_op op_add (pe_fld (pv 1) rfl) (pe_fld (pv 2) rfl)) rfl)
    (pss_cons (ps_fld (pv 3) (pe_fld (pv 1) rfl) rfl)
    (pss_cons (ps_fld (pv 3) (pe_fld (pv 2) rfl) rfl)
    (pss_one (ps_ret (pv 3))))))))))), ?_⟩
    refine ⟨_, rfl, a, CS, da, _, _, rfl, ha, T.cl, T.n_first, st_first .., _, rfl, b, CS, db, _, _, rfl, hb, T.cl, T.n_last, st_last .., fun y dy hy hdy hne => ?_⟩
    refine ⟨y, dy, _, _, rfl, upd_same, fun H1 kb e1 => ⟨rfl, ?_⟩⟩
    have s1 := kbS hy hdy kb
    have e1 : H1 y = some (HO.ins CS dy (stF (.str l.f) (.str r.l) (.bl true) (.int 0) (.int 0) (.int 0) (.int 0) .non .non)) := e1
    dsimp only [gName, tSeq, sFld]
    refine andB (a := l.k) (b := r.k && decide (r.f ∈ rightsOf as l.l)) (fun Q' q' => ⟨_, rfl, a, CS, da, _, _, rfl, (s1 _ _ ha), T.cl, T.n_linked, st_linked .., q'⟩) (fun _ Q' q' => andB (a := r.k) (b := decide (r.f ∈ rightsOf as l.l)) (fun Q' q' => ⟨_, rfl, b, CS, db, _, _, rfl, (s1 _ _ hb), T.cl, T.n_linked, st_linked .., q'⟩) (fun _ Q' q' => ?_) q') ?_
    · refine ⟨_, rfl, b, CS, db, _, _, rfl, (s1 _ _ hb), T.cl, T.n_first, st_first .., ?_⟩
      refine ⟨_, rfl, x, dx, _, rfl, s1 _ _ hx, plan_no_followers .., _, rfl, a, CS, da, _, _, rfl, (s1 _ _ ha), T.cl, T.n_last, st_last .., ?_⟩
      obtain ⟨p, hp, ep⟩ := hm
      refine ⟨x, len, L, ps, as, ss, es, p, (by show [V.ref x, V.str l.l] = [V.ref x, V.str p.nm]; rw [ep]), hP.keep s1, hp, fun c ys hc hy => ?_⟩
      refine ⟨c, _, rfl, .inr (SqT.of hc), rfl, flat_strs _, ?_⟩
      rw [inV_strs]
      rw [show decide (r.f ∈ ys) = decide (r.f ∈ rightsOf as l.l) from decide_eq_decide.mpr (by rw [ep]; exact hy.mem_iff)]
      exact q'
    refine ⟨_, rfl, y, CS, dy, _, rfl, e1, T.cl, T.n_linked, stLt, ?_⟩
    rw [st_put_linked]
    generalize eH2 : upd _ y _ = H2
    obtain ⟨s2, e2⟩ := nextS hy s1 eH2
    clear eH2
    refine ⟨_, rfl, a, CS, da, _, _, rfl, (s2 _ _ ha), T.cl, T.n_many, st_many .., _, rfl, b, CS, db, _, _, rfl, (s2 _ _ hb), T.cl, T.n_many, st_many .., _, _, rfl, rfl, _, rfl, y, CS, dy, _, rfl, e2, T.cl, T.n_many, stLt, ?_⟩
    rw [st_put_many]
    generalize eH3 : upd _ y _ = H3
    obtain ⟨s3, e3⟩ := nextS hy s2 eH3
    clear eH3
    refine ⟨_, rfl, a, CS, da, _, _, rfl, (s3 _ _ ha), T.cl, T.n_grains, st_grains .., _, rfl, b, CS, db, _, _, rfl, (s3 _ _ hb), T.cl, T.n_grains, st_grains .., _, _, rfl, rfl, _, rfl, y, CS, dy, _, rfl, e3, T.cl, T.n_grains, stLt, ?_⟩
    rw [st_put_grains]
    generalize eH4 : upd _ y _ = H4
    obtain ⟨s4, e4⟩ := nextS hy s3 eH4
    clear eH4
    refine ⟨_, rfl, a, CS, da, _, _, rfl, (s4 _ _ ha), T.cl, T.n_shows, st_shows .., _, rfl, b, CS, db, _, _, rfl, (s4 _ _ hb), T.cl, T.n_shows, st_shows .., _, _, rfl, rfl, _, rfl, a, CS, da, _, _, rfl, (s4 _ _ ha), T.cl, T.n_tail, st_tail .., _, rfl, b, CS, db, _, _, rfl, (s4 _ _ hb), T.cl, T.n_head, st_head .., l.tl, r.hd, rfl, _, _, rfl, rfl, _, rfl, y, CS, dy, _, rfl, e4, T.cl, T.n_shows, stLt, ?_⟩
    rw [st_put_shows]
    generalize eH5 : upd _ y _ = H5
    obtain ⟨s5, e5⟩ := nextS hy s4 eH5
    clear eH5
    refine ⟨_, rfl, a, CS, da, _, _, rfl, (s5 _ _ ha), T.cl, T.n_sent, st_sent .., _, rfl, b, CS, db, _, _, rfl, (s5 _ _ hb), T.cl, T.n_sent, st_sent .., _, _, rfl, rfl, _, rfl, y, CS, dy, _, rfl, e5, T.cl, T.n_sent, stLt, ?_⟩
    rw [st_put_sent]
    generalize eH6 : upd _ y _ = H6
    obtain ⟨s6, e6⟩ := nextS hy s5 eH6
    clear eH6
    refine ⟨_, rfl, a, CS, da, _, _, rfl, (s6 _ _ ha), T.cl, T.n_head, st_head .., _, rfl, y, CS, dy, _, rfl, e6, T.cl, T.n_head, stLt, ?_⟩
    rw [st_put_head]
    generalize eH7 : upd _ y _ = H7
    obtain ⟨s7, e7⟩ := nextS hy s6 eH7
    clear eH7
    refine ⟨_, rfl, b, CS, db, _, _, rfl, (s7 _ _ hb), T.cl, T.n_tail, st_tail .., _, rfl, y, CS, dy, _, rfl, e7, T.cl, T.n_tail, stLt, ?_⟩
    rw [st_put_tail]
    generalize eH8 : upd _ y _ = H8
    obtain ⟨s8, e8⟩ := nextS hy s7 eH8
    clear eH8
    exact ⟨_, rfl, q _ y s8 ⟨dy, e8⟩⟩
theorem joinI_bits (t h : Option Int) : Builtin.Int.intBits (joinI t h) ≤ 64 := by
  unfold joinI
  split <;> exact intBits_le_64 (by decide) (by decide)
theorem ok_rep {f : Addr} {fd : FuncData} (F : Fun K "repeated" "repeated" s_repeated f fd) (T : StC K mg CS fI) (FI : FnOk P w K mg base CX0 1 fI fdI ["self", "first", "last"] (spStIni CS)) (bI : Binds K fdI ["self", "first", "last"] [])
    (TP : PlC K mg CP fP) (MF : MCal P w K mg base 2 CP "followers" (spFollow CP CR)) (c_joins : Cal P w K mg base 1 "joins" spJoins) : FnOk P w K mg base CX0 3 f fd ["plan", "body", "times"] (spRep CP CR CS) := by
  refine F.ok sc_repeated (fun vs H Q E h => ?_) (fun cdv A outer s H vs Q E hr h => ?_)
  · obtain ⟨x, a, n, len, L, ps, as, ss, es, l, rfl, _⟩ := h
    rfl
  · obtain ⟨x, a, n, len, L, ps, as, ss, es, l, rfl, hP, ⟨da, ha⟩, hF, hn, hm, q⟩ := h
    obtain ⟨dx, xr, pt, nt, at', st, et, dP, dF, dS, dB, dT, dQ, hx, _⟩ := id hP
    refine ⟨_, (pss_cons (ps_set (i := 3) sc_repeated.nd rfl (Or.inl rfl) (pe_make (E := E0) T.made FI (hr.mono (by decide)) rfl T.g bI .nil pass0 (pa_cons (pe_fld (pv 1) rfl) (pa_cons (pe_fld (pv 1) rfl) pa_nil))))
    (pss_cons (ps_fld (pv 3) (pe_and (pe_fld (pv 1) rfl) (pe_one (pe_cmpR op_in_seq (pe_fld (pv 1) rfl) (pe_mc (pv 0) TP.cl MF hr (by decide) (pa_cons (pe_fld (pv 1) rfl) pa_nil)) rfl))) rfl)
    (pss_cons (ps_fld (pv 3) (pe_op op_mulB (pe_fld (pv 1) rfl) (pv 2)) rfl)
    (pss_cons (ps_fld (pv 3) (pe_op op_mulB (pe_fld (pv 1) rfl) (pv 2)) rfl)
    (pss_cons (ps_fld (pv 3) (pe_op op_sub (pe_op op_mulB (pe_fld (pv 1) rfl) (pv 2)) (pe_op op_mulB (pe_c c_joins hr (by decide) rfl (pa_cons (pe_fld (pv 1) rfl) (pa_cons (pe_fld (pv 1) rfl) pa_nil))) (pe_op op_sub (pv 2) (pe_int)))) rfl)
    (pss_cons (ps_fld (pv 3) (pe_op op_mulB (pe_fld (pv 1) rfl) (pv 2)) rfl)
    (pss_cons (ps_fld (pv 3) (pe_fld (pv 1) rfl) rfl)
    (pss_cons (ps_fld (pv 3) (pe_fld (pv 1) rfl) rfl)
    (pss_one (ps_ret (pv 3))))))))))), ?_⟩
    refine ⟨_, rfl, a, CS, da, _, _, rfl, ha, T.cl, T.n_first, st_first .., _, rfl, a, CS, da, _, _, rfl, ha, T.cl, T.n_last, st_last .., fun y dy hy hdy hne => ?_⟩
    refine ⟨y, dy, _, _, rfl, upd_same, fun H1 kb e1 => ⟨rfl, ?_⟩⟩
    have s1 := kbS hy hdy kb
    have e1 : H1 y = some (HO.ins CS dy (stF (.str l.f) (.str l.l) (.bl true) (.int 0) (.int 0) (.int 0) (.int 0) .non .non)) := e1
    have hmul : ∀ i : Int, Builtin.Int.intBits i ≤ 10000 → IntMulOk i n := fun i hi => IntMulOk.of_bits (Nat.le_trans hi (by decide)) (Nat.le_trans hn (by decide))
    dsimp only [gName, tSeq, sFld]
    refine andB (a := l.k) (b := decide (l.f ∈ rightsOf as l.l)) (fun Q' q' => ⟨_, rfl, a, CS, da, _, _, rfl, (s1 _ _ ha), T.cl, T.n_linked, st_linked .., q'⟩) (fun _ Q' q' => ?_) ?_
    · refine ⟨_, rfl, a, CS, da, _, _, rfl, (s1 _ _ ha), T.cl, T.n_first, st_first .., ?_⟩
      refine ⟨_, rfl, x, dx, _, rfl, s1 _ _ hx, plan_no_followers .., _, rfl, a, CS, da, _, _, rfl, (s1 _ _ ha), T.cl, T.n_last, st_last .., ?_⟩
      obtain ⟨p, hp, ep⟩ := hm
      refine ⟨x, len, L, ps, as, ss, es, p, (by show [V.ref x, V.str l.l] = [V.ref x, V.str p.nm]; rw [ep]), hP.keep s1, hp, fun c ys hc hy => ?_⟩
      refine ⟨c, _, rfl, .inr (SqT.of hc), rfl, flat_strs _, ?_⟩
      rw [inV_strs]
      rw [show decide (l.f ∈ ys) = decide (l.f ∈ rightsOf as l.l) from decide_eq_decide.mpr (by rw [ep]; exact hy.mem_iff)]
      exact q'
    refine ⟨_, rfl, y, CS, dy, _, rfl, e1, T.cl, T.n_linked, stLt, ?_⟩
    rw [st_put_linked]
    generalize eH2 : upd _ y _ = H2
    obtain ⟨s2, e2⟩ := nextS hy s1 eH2
    clear eH2
    refine ⟨_, rfl, a, CS, da, _, _, rfl, (s2 _ _ ha), T.cl, T.n_many, st_many .., _, rfl, _, _, rfl, rfl, hmul _ hF.mn, _, rfl, y, CS, dy, _, rfl, e2, T.cl, T.n_many, stLt, ?_⟩
    rw [st_put_many]
    generalize eH3 : upd _ y _ = H3
    obtain ⟨s3, e3⟩ := nextS hy s2 eH3
    clear eH3
    refine ⟨_, rfl, a, CS, da, _, _, rfl, (s3 _ _ ha), T.cl, T.n_grains, st_grains .., _, rfl, _, _, rfl, rfl, hmul _ hF.gr, _, rfl, y, CS, dy, _, rfl, e3, T.cl, T.n_grains, stLt, ?_⟩
    rw [st_put_grains]
    generalize eH4 : upd _ y _ = H4
    obtain ⟨s4, e4⟩ := nextS hy s3 eH4
    clear eH4
    refine ⟨_, rfl, a, CS, da, _, _, rfl, (s4 _ _ ha), T.cl, T.n_shows, st_shows .., _, rfl, _, _, rfl, rfl, hmul _ hF.sh, _, rfl, a, CS, da, _, _, rfl, (s4 _ _ ha), T.cl, T.n_tail, st_tail .., _, rfl, a, CS, da, _, _, rfl, (s4 _ _ ha), T.cl, T.n_head, st_head .., l.tl, l.hd, rfl, _, rfl, _, _, rfl, rfl, _, _, rfl, rfl, IntMulOk.of_left (joinI_bits _ _), _, _, rfl, rfl, _, rfl, y, CS, dy, _, rfl, e4, T.cl, T.n_shows, stLt, ?_⟩
    rw [st_put_shows]
    generalize eH5 : upd _ y _ = H5
    obtain ⟨s5, e5⟩ := nextS hy s4 eH5
    clear eH5
    refine ⟨_, rfl, a, CS, da, _, _, rfl, (s5 _ _ ha), T.cl, T.n_sent, st_sent .., _, rfl, _, _, rfl, rfl, hmul _ hF.se, _, rfl, y, CS, dy, _, rfl, e5, T.cl, T.n_sent, stLt, ?_⟩
    rw [st_put_sent]
    generalize eH6 : upd _ y _ = H6
    obtain ⟨s6, e6⟩ := nextS hy s5 eH6
    clear eH6
    refine ⟨_, rfl, a, CS, da, _, _, rfl, (s6 _ _ ha), T.cl, T.n_head, st_head .., _, rfl, y, CS, dy, _, rfl, e6, T.cl, T.n_head, stLt, ?_⟩
    rw [st_put_head]
    generalize eH7 : upd _ y _ = H7
    obtain ⟨s7, e7⟩ := nextS hy s6 eH7
    clear eH7
    refine ⟨_, rfl, a, CS, da, _, _, rfl, (s7 _ _ ha), T.cl, T.n_tail, st_tail .., _, rfl, y, CS, dy, _, rfl, e7, T.cl, T.n_tail, stLt, ?_⟩
    rw [st_put_tail]
    generalize eH8 : upd _ y _ = H8
    obtain ⟨s8, e8⟩ := nextS hy s7 eH8
    clear eH8
    exact ⟨_, rfl, q _ y s8 ⟨dy, e8⟩⟩
end
end Sea
namespace Sea
open PySem PySem.Spec PyProof.Rows L2
/-! the stretch of one piece -/
theorem plan_sends (v1 v2 v3 v4 v5 v6 v7 v8 v9 v10 v11 v12 v13 : V) : (planF v1 v2 v3 v4 v5 v6 v7 v8 v9 v10 v11 v12 v13).lookup ("_sends" : Str) = some v13 := by unfold planF; (repeat first | rw [lookup_putF, if_neg (by decide +kernel)] | rw [lookup_putF, if_pos rfl])
theorem plan_no_sends (v1 v2 v3 v4 v5 v6 v7 v8 v9 v10 v11 v12 v13 : V) : (planF v1 v2 v3 v4 v5 v6 v7 v8 v9 v10 v11 v12 v13).lookup ("sends_of" : Str) = none := by unfold planF; (repeat rw [lookup_putF, if_neg (by decide +kernel)]); rfl
def spSendsOf (CP CR : Addr) : Sp := fun vs H Q _ => ∃ (x : Addr) (len : Int) (L : List (Addr × Cue)) (ps : List Piece) (as : List (Str × Str)) (ss es : List Str) (p : Piece), vs = [.ref x, .str p.nm] ∧ PlanAt H CR CP x len L ps as ss es ∧
  p ∈ ps ∧ ∀ (a : Addr) (N : List (Addr × Duo)), H a = some (.tup (refsD N)) → duos N = sendsF p (cuesC L) (stripF p (factorOf (grainTo ps) p) (cuesC L)) → (∀ e ∈ N, DAt H e) → Q (.ref a) H
def headOf (T : List Tri) : Option Int := match T.head? with | some t => if t.2.1 = 0 then some t.1 else none | none => none
def tailOf (g : Int) (T : List Tri) : Option Int := match T.getLast? with | some t => if t.2.2 = g then some t.1 else none | none => none
def pieceSx (ps : List Piece) (cs : List Cue) (p : Piece) : Sx := ⟨p.nm, p.nm, true, 1, shownOf (grainTo ps) p, (stripF p (factorOf (grainTo ps) p) cs).length, (sendsF p cs (stripF p (factorOf (grainTo ps) p) cs)).length, headOf (stripF p (factorOf (grainTo ps) p) cs), tailOf (shownOf (grainTo ps) p) (stripF p (factorOf (grainTo ps) p) cs)⟩
def spPieceS (CP CR CS : Addr) : Sp := fun vs H Q _ => ∃ (x : Addr) (len : Int) (L : List (Addr × Cue)) (ps : List Piece) (as : List (Str × Str)) (ss es : List Str) (p : Piece), vs = [.ref x, .str p.nm] ∧ PlanAt H CR CP x len L ps as ss es ∧
  p ∈ ps ∧ ∀ (H' : Hp) (y : Addr), Same H H' → StrAt H' CS y (pieceSx ps (cuesC L) p) → Q (.ref y) H'
section
variable {P : Program} {w : World} {K : PySem.W.Frag} {mg : Str → Option Value} {base : Heap} {CR CP CS fI fP : Addr} {fdI : FuncData}
theorem ok_sends_of {f : Addr} {fd : FuncData} (F : Fun K "sends_of" "Plan.sends_of" s_Plan_sends_of f fd) (TP : PlC K mg CP fP) (C : OwnC P w K mg base CP CR) : FnOk P w K mg base CX0 2 f fd ["self", "name"] (spSendsOf CP CR) := by
  obtain ⟨fC, fdC, OC, hs, hf, hb⟩ := C.ex
  refine F.ok sc_Plan_sends_of (fun vs H Q E h => ?_) (fun cdv A outer s H vs Q E hr h => ?_)
  · obtain ⟨x, len, L, ps, as, ss, es, p, rfl, _⟩ := h
    rfl
  · obtain ⟨x, len, L, ps, as, ss, es, p, rfl, hP, hp, q⟩ := h
    obtain ⟨dx, xr, pt, nt, at', st, et, dP, dF, dS, dB, dT, dQ, hx, B⟩ := id hP
    obtain ⟨ks, hd, hk⟩ := B.kQ
    obtain ⟨a, N, hv, ha, eN, hN⟩ := hk p hp
    refine ⟨_, (pss_cons (ps_if (pt_cmpR (op_ownNotIn OC hr (Nat.le_refl _) hs hf hb) (pv 1) (pv 0) rfl)
    (pss_one ps_never)
    pss_nil)
    (pss_one (ps_ret (pe_dget (hu_of hr) (pe_fld (pv 0) rfl) (pv 1) (fun _ _ => rfl))))), ?_⟩
    refine ⟨_, rfl, _, rfl, x, dx, _, rfl, hx, x, .str p.nm, len, L, ps, as, ss, es, rfl, hP, .inl trivial, _, rfl, _, rfl, ?_⟩
    show (if (!decide (p.nm ∈ ps.map (·.nm))) = true then _ else _)
    rw [decide_eq_true (List.mem_map.mpr ⟨p, hp, rfl⟩)]
    have dg : DGet H dQ (V.str p.nm) (some (.ref a)) := hv ▸ DGet.k (k := Sum.inr p.nm) hd
    exact ⟨_, rfl, x, CP, dx, _, _, rfl, hx, TP.cl, TP.nD, plan_sends .., _, rfl, dQ, _, rfl, dg, q a N ha eN hN⟩
theorem atI_0 {α : Type} (x : α) (r : List α) : atI (x :: r) 0 = some x := by
  unfold atI ixN
  rw [if_pos (by decide), if_pos (by rw [List.length_cons]; omega)]
  rfl
theorem atI_last {α : Type} {l : List α} {x : α} (h : l.getLast? = some x) : atI l (-1) = some x := by
  cases l with
  | nil => cases h
  | cons a r =>
    unfold atI
    rw [show ixN (a :: r).length (-1) = some r.length from ixN_last r.length]
    rw [List.getLast?_eq_getElem?] at h
    exact h
theorem tris_head {N : List (Addr × Tri)} {e : Addr × Tri} {r : List (Addr × Tri)} (h : N = e :: r) : (tris N).head? = some e.2 := by rw [h]; rfl
theorem tris_last {N : List (Addr × Tri)} {e : Addr × Tri} (h : N.getLast? = some e) : (tris N).getLast? = some e.2 := by
  show (N.map (·.2)).getLast? = _
  rw [List.getLast?_map, h]
  rfl
theorem refs_last {N : List (Addr × Tri)} {e : Addr × Tri} (h : N.getLast? = some e) : (refsT N).getLast? = some (V.ref e.1) := by
  show (N.map fun e => V.ref e.1).getLast? = _
  rw [List.getLast?_map, h]
  rfl
theorem ok_pieceS {f : Addr} {fd : FuncData} (F : Fun K "piece_stretch" "piece_stretch" s_piece_stretch f fd) (T : StC K mg CS fI) (FI : FnOk P w K mg base CX0 1 fI fdI ["self", "first", "last"] (spStIni CS)) (bI : Binds K fdI ["self", "first", "last"] [])
    (TP : PlC K mg CP fP) (m_len : mg "len" = none) (MT : MCal P w K mg base 2 CP "strip_of" (spStripOf CP CR)) (MS : MCal P w K mg base 2 CP "shown_of" (spShown CP CR)) (MQ : MCal P w K mg base 2 CP "sends_of" (spSendsOf CP CR)) : FnOk P w K mg base CX0 3 f fd ["plan", "name"] (spPieceS CP CR CS) := by
  refine F.ok sc_piece_stretch (fun vs H Q E h => ?_) (fun cdv A outer s H vs Q E hr h => ?_)
  · obtain ⟨x, len, L, ps, as, ss, es, p, rfl, _⟩ := h
    rfl
  · obtain ⟨x, len, L, ps, as, ss, es, p, rfl, hP, hp, q⟩ := h
    obtain ⟨dx, xr, pt, nt, at', st, et, dP, dF, dS, dB, dT, dQ, hx, _⟩ := id hP
    refine ⟨_, (pss_cons (ps_set (i := 2) sc_piece_stretch.nd rfl (Or.inl rfl) (pe_mc (pv 0) TP.cl MT hr (by decide) (pa_cons (pv 1) pa_nil)))
    (pss_cons (ps_set (i := 3) sc_piece_stretch.nd rfl (Or.inl rfl) (pe_make (E := E0) T.made FI (hr.mono (by decide)) rfl T.g bI .nil pass0 (pa_cons (pv 1) (pa_cons (pv 1) pa_nil))))
    (pss_cons (ps_fld (pv 3) (pe_int) rfl)
    (pss_cons (ps_fld (pv 3) (pe_mc (pv 0) TP.cl MS hr (by decide) (pa_cons (pv 1) pa_nil)) rfl)
    (pss_cons (ps_fld (pv 3) (pe_callB call_len (by rfl) m_len (by decide +kernel) (pa_cons (pv 2) pa_nil)) rfl)
    (pss_cons (ps_fld (pv 3) (pe_callB call_len (by rfl) m_len (by decide +kernel) (pa_cons (pe_mc (pv 0) TP.cl MQ hr (by decide) (pa_cons (pv 1) pa_nil)) pa_nil)) rfl)
    (C8.pss_cut (ps_if (PW.pt (pw_and (pt_cmpR op_gt (pe_callB call_len (by rfl) m_len (by decide +kernel) (pa_cons (pv 2) pa_nil)) (pe_int) (nomark _)) (pw_and1 (pt_cmpR op_eq (pe_ix (show IxR _ (rIxT K) from ix_tup) (pe_ix (show IxR _ (rIxT K) from ix_tup) (pv 2) (pe_int) (fun _ _ => rfl)) (pe_int) (fun _ _ => rfl)) (pe_int) (nomark _)))))
    (pss_one (ps_fld (pv 3) (pe_ix (show IxR _ (rIxT K) from ix_tup) (pe_ix (show IxR _ (rIxT K) from ix_tup) (pv 2) (pe_int) (fun _ _ => rfl)) (pe_int) (fun _ _ => rfl)) rfl))
    pss_nil)
    (C8.pss_cut (ps_if (PW.pt (pw_and (pt_cmpR op_gt (pe_callB call_len (by rfl) m_len (by decide +kernel) (pa_cons (pv 2) pa_nil)) (pe_int) (nomark _)) (pw_and1 (pt_cmpR op_eq (pe_ix (show IxR _ (rIxT K) from ix_tup) (pe_ix (show IxR _ (rIxT K) from ix_tup) (pv 2) (pe_un un_neg (pe_int)) (fun _ _ => rfl)) (pe_int) (fun _ _ => rfl)) (pe_fld (pv 3) rfl) (nomark _)))))
    (pss_one (ps_fld (pv 3) (pe_ix (show IxR _ (rIxT K) from ix_tup) (pe_ix (show IxR _ (rIxT K) from ix_tup) (pv 2) (pe_un un_neg (pe_int)) (fun _ _ => rfl)) (pe_int) (fun _ _ => rfl)) rfl))
    pss_nil)
    (pss_one (ps_ret (pv 3))))))))))), ?_⟩
    refine ⟨_, rfl, x, dx, _, rfl, hx, plan_no_strip .., _, rfl, x, len, L, ps, as, ss, es, p, rfl, hP, hp, fun t N ht eN hN => ?_⟩
    dsimp only [gName, tSeq]
    refine ⟨_, rfl, _, rfl, fun y dy hy hdy hne => ?_⟩
    refine ⟨y, dy, _, _, rfl, upd_same, fun H1 kb e1 => ⟨rfl, ?_⟩⟩
    have s1 := kbS hy hdy kb
    have e1 : H1 y = some (HO.ins CS dy (stF (.str p.nm) (.str p.nm) (.bl true) (.int 0) (.int 0) (.int 0) (.int 0) .non .non)) := e1
    generalize eg : shownOf (grainTo ps) p = g at q
    dsimp only [gName, tSeq, sFld]
    refine ⟨_, rfl, y, CS, dy, _, rfl, e1, T.cl, T.n_many, stLt, ?_⟩
    rw [st_put_many]
    generalize eH2 : upd _ y _ = H2
    obtain ⟨s2, e2⟩ := nextS hy s1 eH2
    clear eH2
    refine ⟨_, rfl, x, dx, _, rfl, s2 _ _ hx, plan_no_shown .., _, rfl, x, len, L, ps, as, ss, es, p, rfl, hP.keep s2, hp, ?_⟩
    rw [eg]
    refine ⟨_, rfl, y, CS, dy, _, rfl, e2, T.cl, T.n_grains, stLt, ?_⟩
    rw [st_put_grains]
    generalize eH3 : upd _ y _ = H3
    obtain ⟨s3, e3⟩ := nextS hy s2 eH3
    clear eH3
    refine ⟨_, rfl, _, _, rfl, .inr ⟨_, SqT.of (s3 _ _ ht), rfl⟩, _, rfl, y, CS, dy, _, rfl, e3, T.cl, T.n_shows, stLt, ?_⟩
    rw [st_put_shows]
    generalize eH4 : upd _ y _ = H4
    obtain ⟨s4, e4⟩ := nextS hy s3 eH4
    clear eH4
    refine ⟨_, rfl, x, dx, _, rfl, s4 _ _ hx, plan_no_sends .., _, rfl, x, len, L, ps, as, ss, es, p, rfl, hP.keep s4, hp, fun tq D hq eD hD => ?_⟩
    refine ⟨_, _, rfl, .inr ⟨_, SqT.of hq, rfl⟩, _, rfl, y, CS, dy, _, rfl, e4, T.cl, T.n_sent, stLt, ?_⟩
    rw [st_put_sent]
    generalize eH5 : upd _ y _ = H5
    obtain ⟨s5, e5⟩ := nextS hy s4 eH5
    clear eH5
    have l1 : (refsT N).length = N.length := List.length_map _
    have l2 : (refsD D).length = D.length := List.length_map _
    rw [l1, l2] at e5
    refine ⟨fun σ' H' => σ' = ((L2.start N_piece_stretch [V.ref x, V.str p.nm]).set 2 (some (V.ref t))).set 3 (some (V.ref y)) ∧ Same H H' ∧ H' y = some (HO.ins CS dy (stF (.str p.nm) (.str p.nm) (.bl true) (.int 1) (.int g) (.int (N.length : Nat)) (.int (D.length : Nat)) (oiV (headOf (tris N))) .non)), ?_, ?_⟩
    · have hl : LenV K (.ref t) H5 N.length := .inr ⟨_, SqT.of (s5 _ _ ht), l1.symm⟩
      refine ⟨_, rfl, _, _, rfl, hl, _, _, rfl, rfl, _, rfl, ?_⟩
      cases hNe : N with
      | nil =>
        rw [hNe] at e5
        exact ⟨rfl, s5, e5⟩
      | cons e r =>
        have hN0 : decide ((0 : Int) < ((N.length : Nat) : Int)) = true := decide_eq_true (by rw [hNe, List.length_cons]; omega)
        rw [← hNe]
        rw [hN0]
        have he : TAt H5 e := (hN e (by rw [hNe]; exact List.mem_cons_self)).keep s5
        have a0 : atI (refsT N) 0 = some (V.ref e.1) := by rw [hNe]; exact atI_0 _ _
        have hd : headOf (tris N) = if e.2.2.1 = 0 then some e.2.1 else none := by unfold headOf; rw [tris_head hNe]
        refine iteT ⟨_, rfl, t, _, _, _, rfl, rfl, SqT.of (s5 _ _ ht), a0, e.1, _, _, _, rfl, rfl, SqT.of he, (rfl : atI (Tri.vs e.2) 1 = some (V.int e.2.2.1)), rfl, _, rfl, ?_⟩
        by_cases hz : e.2.2.1 = 0
        · rw [show decide (V.int e.2.2.1 = V.int 0) = true from decide_eq_true (congrArg V.int hz)]
          rw [if_pos hz] at hd
          obtain ⟨s6, e6⟩ := nextS (o := HO.ins CS dy (putF "head" (.int e.2.1) (stF (.str p.nm) (.str p.nm) (.bl true) (.int 1) (.int g) (.int (N.length : Nat)) (.int (D.length : Nat)) .non .non))) hy s5 rfl
          refine ⟨_, rfl, t, _, _, _, rfl, rfl, SqT.of (s5 _ _ ht), a0, e.1, _, _, _, rfl, rfl, SqT.of he, (rfl : atI (Tri.vs e.2) 0 = some (V.int e.2.1)), _, rfl, y, CS, dy, _, rfl, e5, T.cl, T.n_head, stLt, rfl, s6, ?_⟩
          rw [e6, st_put_head, hd]
          rfl
        · rw [show decide (V.int e.2.2.1 = V.int 0) = false from decide_eq_false fun h => hz (V.int.inj h)]
          rw [if_neg hz] at hd
          refine ⟨rfl, s5, ?_⟩
          rw [e5, hd]
          rfl
    · rintro σ6 H6 ⟨rfl, s6, e6⟩
      refine ⟨fun σ' H' => σ' = ((L2.start N_piece_stretch [V.ref x, V.str p.nm]).set 2 (some (V.ref t))).set 3 (some (V.ref y)) ∧ Same H H' ∧ H' y = some (HO.ins CS dy (stF (.str p.nm) (.str p.nm) (.bl true) (.int 1) (.int g) (.int (N.length : Nat)) (.int (D.length : Nat)) (oiV (headOf (tris N))) (oiV (tailOf g (tris N))))), ?_, ?_⟩
      · have hl : LenV K (.ref t) H6 N.length := .inr ⟨_, SqT.of (s6 _ _ ht), l1.symm⟩
        refine ⟨_, rfl, _, _, rfl, hl, _, _, rfl, rfl, _, rfl, ?_⟩
        cases hNe : N.getLast? with
        | none =>
          have eN0 : N = [] := List.getLast?_eq_none_iff.mp hNe
          rw [eN0] at e6
          rw [eN0]
          exact ⟨rfl, s6, e6⟩
        | some e =>
          have hm0 : e ∈ N := List.mem_of_getLast? hNe
          have hN0 : decide ((0 : Int) < ((N.length : Nat) : Int)) = true := decide_eq_true (by have := List.length_pos_of_mem hm0; omega)
          rw [hN0]
          have he : TAt H6 e := (hN e hm0).keep s6
          have a0 : atI (refsT N) (-1) = some (V.ref e.1) := atI_last (refs_last hNe)
          have hd : tailOf g (tris N) = if e.2.2.2 = g then some e.2.1 else none := by unfold tailOf; rw [tris_last hNe]
          refine iteT ⟨_, rfl, _, rfl, t, _, _, _, rfl, rfl, SqT.of (s6 _ _ ht), a0, e.1, _, _, _, rfl, rfl, SqT.of he, (rfl : atI (Tri.vs e.2) 2 = some (V.int e.2.2.2)), _, rfl, y, CS, dy, _, _, rfl, e6, T.cl, T.n_grains, st_grains .., rfl, _, rfl, ?_⟩
          by_cases hz : e.2.2.2 = g
          · rw [show decide (V.int e.2.2.2 = V.int g) = true from decide_eq_true (congrArg V.int hz)]
            rw [if_pos hz] at hd
            obtain ⟨s7, e7⟩ := nextS (o := HO.ins CS dy (putF "tail" (.int e.2.1) (stF (.str p.nm) (.str p.nm) (.bl true) (.int 1) (.int g) (.int (N.length : Nat)) (.int (D.length : Nat)) (oiV (headOf (tris N))) .non))) hy s6 rfl
            refine ⟨_, rfl, _, rfl, t, _, _, _, rfl, rfl, SqT.of (s6 _ _ ht), a0, e.1, _, _, _, rfl, rfl, SqT.of he, (rfl : atI (Tri.vs e.2) 0 = some (V.int e.2.1)), _, rfl, y, CS, dy, _, rfl, e6, T.cl, T.n_tail, stLt, rfl, s7, ?_⟩
            rw [e7, st_put_tail, hd]
            rfl
          · rw [show decide (V.int e.2.2.2 = V.int g) = false from decide_eq_false fun h => hz (V.int.inj h)]
            rw [if_neg hz] at hd
            refine ⟨rfl, s6, ?_⟩
            rw [e6, hd]
            rfl
      · rintro σ7 H7 ⟨rfl, s7, e7⟩
        refine ⟨_, rfl, q _ y s7 ⟨dy, ?_⟩⟩
        have n1 : N.length = (stripF p (factorOf (grainTo ps) p) (cuesC L)).length := by rw [← eN]; exact (List.length_map _).symm
        have n2 : D.length = (sendsF p (cuesC L) (stripF p (factorOf (grainTo ps) p) (cuesC L))).length := by rw [← eD]; exact (List.length_map _).symm
        rw [e7, eN, n1, n2]
        unfold Sx.fs pieceSx
        rw [eg]
end
end Sea
namespace Sea
open PySem PySem.Spec PyProof.Rows L2
/-! parts of a roll -/
def ptF (v1 v2 v3 v4 v5 : V) : List (Str × V) := putF "whole" v5 (putF "body" v4 (putF "parts" v3 (putF "times" v2 (putF "name" v1 []))))
section
variable (v1 v2 v3 v4 v5 : V)
theorem pt_whole : (ptF v1 v2 v3 v4 v5).lookup ("whole" : Str) = some v5 := by unfold ptF; (repeat first | rw [lookup_putF, if_neg (by decide +kernel)] | rw [lookup_putF, if_pos rfl])
end
structure PtC (K : PySem.W.Frag) (mg : Str → Option Value) (CT fI : Addr) : Prop where
  cl : Cls K CT
  made : Mk K CT fI
  g : mg "Part" = some (.ref CT)
  n_name : NoAttr K CT "name"
  n_times : NoAttr K CT "times"
  n_parts : NoAttr K CT "parts"
  n_body : NoAttr K CT "body"
  n_whole : NoAttr K CT "whole"
def PtW (H : Hp) (CS CT : Addr) (e : Addr × Sx) : Prop := ∃ (dx wa : Addr) (v1 v2 v3 v4 : V), H e.1 = some (.ins CT dx (ptF v1 v2 v3 v4 (.ref wa))) ∧ StrAt H CS wa e.2
theorem PtW.keep {H H' : Hp} {CS CT : Addr} {e : Addr × Sx} (h : PtW H CS CT e) (k : Same H H') : PtW H' CS CT e := let ⟨dx, wa, v1, v2, v3, v4, h1, h2⟩ := h; ⟨dx, wa, v1, v2, v3, v4, k _ _ h1, h2.keep k⟩
abbrev refsX (L : List (Addr × Sx)) : List V := L.map fun e => V.ref e.1
def sumSx (as : List (Str × Str)) (s : Sx) (l : List Sx) : Sx := l.foldl (bothSx as) s
theorem sumSx_snoc (as : List (Str × Str)) (s : Sx) (l : List Sx) (t : Sx) : sumSx as s (l ++ [t]) = bothSx as (sumSx as s l) t := by
  unfold sumSx
  rw [List.foldl_append]
  rfl
theorem sumSx_l (as : List (Str × Str)) (s : Sx) : ∀ (l : List Sx) (ns : List Str), s.l ∈ ns → (∀ t ∈ l, t.l ∈ ns) → (sumSx as s l).l ∈ ns
  | [], ns, h, _ => h
  | t :: r, ns, _, h => sumSx_l as (bothSx as s t) r ns (h t List.mem_cons_self) fun u hu => h u (List.mem_cons_of_mem _ hu)
def spPtIni (CT : Addr) : Sp := fun vs H Q _ => ∃ (x dx : Addr) (a b c d e : V), vs = [.ref x, a, b, c, d, e] ∧ H x = some (.ins CT dx []) ∧
  ∀ H', KB x H H' → H' x = some (.ins CT dx (ptF a b c d e)) → Q .non H'
def spAll (CP CR CS CT : Addr) : Sp := fun vs H Q _ => ∃ (x la : Addr) (len : Int) (L : List (Addr × Cue)) (ps : List Piece) (as : List (Str × Str)) (ss es : List Str) (e0 : Addr × Sx) (r : List (Addr × Sx)), vs = [.ref x, .ref la] ∧ PlanAt H CR CP x len L ps as ss es ∧
  H la = some (.lst (refsX (e0 :: r))) ∧ (∀ e ∈ e0 :: r, PtW H CS CT e) ∧ (∀ e ∈ e0 :: r, e.2.l ∈ ps.map (·.nm)) ∧
  ∀ (H' : Hp) (y : Addr), Same H H' → StrAt H' CS y (sumSx as e0.2 (r.map (·.2))) → Q (.ref y) H'
section
variable {P : Program} {w : World} {K : PySem.W.Frag} {mg : Str → Option Value} {base : Heap} {CR CP CS CT fI fP : Addr} {fdI : FuncData}
theorem ok_ptIni {f : Addr} {fd : FuncData} (F : Fun K "__init__" "Part.__init__" s_Part___init__ f fd) (T : PtC K mg CT fI) : FnOk P w K mg base CX0 1 f fd ["self", "name", "times", "parts", "body", "whole"] (spPtIni CT) := by
  refine F.ok sc_Part___init__ (fun vs H Q E h => ?_) (fun cdv A outer s H vs Q E hr h => ?_)
  · obtain ⟨x, dx, a, b, c, d, e, rfl, _⟩ := h
    rfl
  · obtain ⟨x, dx, a, b, c, d, e, rfl, hx, q⟩ := h
    refine ⟨_, (pss_cons (ps_fld (pv 0) (pv 1) rfl)
    (pss_cons (ps_fld (pv 0) (pv 2) rfl)
    (pss_cons (ps_fld (pv 0) (pv 3) rfl)
    (pss_cons (ps_fld (pv 0) (pv 4) rfl)
    (pss_one (ps_fld (pv 0) (pv 5) rfl)))))), ?_⟩
    refine ⟨_, rfl, _, rfl, x, CT, dx, _, rfl, hx, T.cl, T.n_name, (by decide : (0 : Nat) < 1000), ?_⟩
    refine ⟨_, rfl, _, rfl, x, CT, dx, _, rfl, upd_same, T.cl, T.n_times, (Nat.lt_of_le_of_lt (plE (Nat.le_refl 0)) (by decide)), ?_⟩
    refine ⟨_, rfl, _, rfl, x, CT, dx, _, rfl, upd_same, T.cl, T.n_parts, (Nat.lt_of_le_of_lt (plE (plE (Nat.le_refl 0))) (by decide)), ?_⟩
    refine ⟨_, rfl, _, rfl, x, CT, dx, _, rfl, upd_same, T.cl, T.n_body, (Nat.lt_of_le_of_lt (plE (plE (plE (Nat.le_refl 0)))) (by decide)), ?_⟩
    refine ⟨_, rfl, _, rfl, x, CT, dx, _, rfl, upd_same, T.cl, T.n_whole, (Nat.lt_of_le_of_lt (plE (plE (plE (plE (Nat.le_refl 0))))) (by decide)), ?_⟩
    refine q _ ?_ upd_same
    intro b' o n e
    simp only [upd_ne n]
    exact e
theorem cut_from1 (x : V) (xs : List V) : cutV (x :: xs) (some 1) none = xs := by
  unfold cutV
  rw [show HT.sIx (x :: xs).length 0 (some 1) = min 1 (x :: xs).length from HT.sIx_nat ..]
  rw [show HT.sIx (x :: xs).length (x :: xs).length none = (x :: xs).length from rfl, Nat.min_eq_left (by rw [List.length_cons]; omega)]
  exact List.take_of_length_le (by rw [List.length_drop]; exact Nat.le_refl _)
theorem ok_all {f : Addr} {fd : FuncData} (F : Fun K "all_of" "all_of" s_all_of f fd) (T : PtC K mg CT fI) (TP : PlC K mg CP fP) (c_behind_one_another : Cal P w K mg base 3 "behind_one_another" (spBoth CP CR CS)) : FnOk P w K mg base CX0 4 f fd ["plan", "parts"] (spAll CP CR CS CT) := by
  refine F.ok sc_all_of (fun vs H Q E h => ?_) (fun cdv A outer s H vs Q E hr h => ?_)
  · obtain ⟨x, la, len, L, ps, as, ss, es, e0, r, rfl, _⟩ := h
    rfl
  · obtain ⟨x, la, len, L, ps, as, ss, es, e0, r, rfl, hP, hla, hW, hn, q⟩ := h
    refine ⟨_, (pss_cons (ps_set (i := 2) sc_all_of.nd rfl (Or.inl rfl) (pe_fld (pe_ix ix_list (pv 1) (pe_int) (fun _ _ => rfl)) rfl))
    (pss_cons (ps_for PassesOwn.never rfl (pi_list (pe_slice sl_list (pv 1) (po_some (pe_int)) po_none)) (pg_name (i := 3) sc_all_of.nd rfl (Or.inl rfl))
    (pss_one (ps_set (i := 2) sc_all_of.nd rfl (Or.inl rfl) (pe_c c_behind_one_another hr (by decide) rfl (pa_cons (pv 0) (pa_cons (pv 2) (pa_cons (pe_fld (pv 3) rfl) pa_nil)))))))
    (pss_one (ps_ret (pv 2))))), ?_⟩
    obtain ⟨d0, w0, a1, a2, a3, a4, h0, hs0⟩ := hW e0 List.mem_cons_self
    refine ⟨_, rfl, la, _, _, _, rfl, rfl, SqL.of hla, atI_0 _ _, e0.1, CT, d0, _, _, rfl, h0, T.cl, T.n_whole, pt_whole .., ?_⟩
    refine ⟨_, rfl, _, rfl, la, _, rfl, SqL.of hla, fun p hp => ⟨p, rfl, ⟨_, SqL.of upd_same⟩, ?_⟩⟩
    rw [show cutV (refsX (e0 :: r)) (some 1) none = refsX r from cut_from1 _ _]
    have s0 : Same H (upd H p (HO.lst (refsX r))) := fun b o e => by
      rw [upd_ne fun e' => by rw [e', hp] at e; cases e]
      exact e
    refine for_list (a := p) (xs := refsX r) (fun i σ' H' => ∃ (y : Addr) (u : Option V), σ' = ((L2.start N_all_of [V.ref x, V.ref la]).set 2 (some (V.ref y))).set 3 u ∧ Same H H' ∧ H' p = some (.lst (refsX r)) ∧ StrAt H' CS y (sumSx as e0.2 ((r.take i).map (·.2)))) ?_ ?_ ?_ ?_
    · exact ⟨w0, none, rfl, s0, upd_same, hs0.keep s0⟩
    · rintro i σ' H' _ ⟨y, u, _, _, hp', _⟩
      exact SqL.of hp'
    · rintro i v σ' H' hi ⟨y, u, rfl, sH, hp', hy⟩
      rw [List.getElem?_map] at hi
      cases hri : r[i]? with
      | none => rw [hri] at hi; cases hi
      | some e =>
        rw [hri] at hi
        cases hi
        have hm : e ∈ e0 :: r := List.mem_cons_of_mem _ (List.mem_of_getElem? hri)
        obtain ⟨d1, w1, b1, b2, b3, b4, h1, hs1⟩ := (hW e hm).keep sH
        have hl : (sumSx as e0.2 ((r.take i).map (·.2))).l ∈ ps.map (·.nm) := sumSx_l as e0.2 _ _ (hn e0 List.mem_cons_self) fun t ht => by
          obtain ⟨e', he', rfl⟩ := List.mem_map.mp ht
          exact hn e' (List.mem_cons_of_mem _ (List.mem_of_mem_take he'))
        obtain ⟨pc, hpc, epc⟩ := List.mem_map.mp hl
        refine ⟨_, rfl, _, rfl, _, rfl, e.1, CT, d1, _, _, rfl, h1, T.cl, T.n_whole, pt_whole .., ?_⟩
        refine ⟨x, y, w1, len, L, ps, as, ss, es, _, e.2, rfl, hP.keep sH, hy, hs1, ⟨pc, hpc, epc.symm⟩, fun H2 y2 sH2 hy2 => ?_⟩
        refine ⟨y2, some (V.ref e.1), rfl, fun b o h => sH2 _ _ (sH _ _ h), sH2 _ _ hp', ?_⟩
        rw [List.take_add_one, hri]
        show StrAt H2 CS y2 (sumSx as e0.2 ((List.take i r ++ [e]).map (·.2)))
        rw [List.map_append]
        show StrAt H2 CS y2 (sumSx as e0.2 ((List.take i r).map (·.2) ++ [e.2]))
        rw [sumSx_snoc]
        exact hy2
    · rintro σ' H' ⟨y, u, rfl, sH, hp', hy⟩
      rw [List.length_map, List.take_length] at hy
      exact ⟨_, rfl, q _ y sH hy⟩
end
end Sea
namespace Sea
open PySem PySem.Spec PyProof.Rows L2
/-! part_of, which calls itself -/
def sumL (as : List (Str × Str)) : List Sx → Sx
  | [] => ⟨"", "", true, 0, 0, 0, 0, none, none⟩
  | s :: r => sumSx as s r
/-- the part of a name; no list of it lies in B -/
def PtName (B : Addr → Prop) (H : Hp) (CS CT y : Addr) (z : Str) (s : Sx) : Prop := ∃ dx la sa, ¬B la ∧ H y = some (.ins CT dx (ptF (.str z) (.int 1) (.ref la) (.ref sa) (.ref sa))) ∧ H la = some (.lst []) ∧ StrAt H CS sa s
/-- the part of a repeat -/
def PtRep (B : Addr → Prop) (H : Hp) (CS CT y : Addr) (n : Int) (E : List Addr) (b s : Sx) : Prop := ∃ dx la ba wa, ¬B la ∧ H y = some (.ins CT dx (ptF .non (.int n) (.ref la) (.ref ba) (.ref wa))) ∧ H la = some (.lst (E.map V.ref)) ∧ StrAt H CS ba b ∧ StrAt H CS wa s
section
variable {B B' : Addr → Prop} {H H' : Hp} {CS CT y D : Addr} {z : Str} {n : Int} {E : List Addr} {b s : Sx} {xs : List V} {o : HO}
theorem PtName.keep (h : PtName B H CS CT y z s) (k : Same H H') : PtName B H' CS CT y z s := let ⟨dx, la, sa, h0, h1, h2, h3⟩ := h; ⟨dx, la, sa, h0, k _ _ h1, k _ _ h2, h3.keep k⟩
theorem PtRep.keep (h : PtRep B H CS CT y n E b s) (k : Same H H') : PtRep B H' CS CT y n E b s := let ⟨dx, la, ba, wa, h0, h1, h2, h3, h4⟩ := h; ⟨dx, la, ba, wa, h0, k _ _ h1, k _ _ h2, h3.keep k, h4.keep k⟩
theorem PtName.anti (h : PtName B H CS CT y z s) (k : ∀ a, B' a → B a) : PtName B' H CS CT y z s := let ⟨dx, la, sa, h0, h1⟩ := h; ⟨dx, la, sa, fun e => h0 (k _ e), h1⟩
theorem PtRep.anti (h : PtRep B H CS CT y n E b s) (k : ∀ a, B' a → B a) : PtRep B' H CS CT y n E b s := let ⟨dx, la, ba, wa, h0, h1⟩ := h; ⟨dx, la, ba, wa, fun e => h0 (k _ e), h1⟩
theorem insU {a C dx : Addr} {fs : List (Str × V)} (hD : H D = some (.lst xs)) (h : H a = some (.ins C dx fs)) : upd H D o a = some (.ins C dx fs) := by
  rw [upd_ne fun e => by rw [e, hD] at h; cases h]
  exact h
theorem StrAt.over {x : Addr} (h : StrAt H CS x s) (hD : H D = some (.lst xs)) : StrAt (upd H D o) CS x s := let ⟨dx, h⟩ := h; ⟨dx, insU hD h⟩
theorem PtName.over (h : PtName B H CS CT y z s) (hB : B D) (hD : H D = some (.lst xs)) : PtName B (upd H D o) CS CT y z s := by
  obtain ⟨dx, la, sa, h0, h1, h2, h3⟩ := h
  refine ⟨dx, la, sa, h0, insU hD h1, ?_, h3.over hD⟩
  rw [upd_ne fun e => h0 (by rw [e]; exact hB)]
  exact h2
theorem PtRep.over (h : PtRep B H CS CT y n E b s) (hB : B D) (hD : H D = some (.lst xs)) : PtRep B (upd H D o) CS CT y n E b s := by
  obtain ⟨dx, la, ba, wa, h0, h1, h2, h3, h4⟩ := h
  refine ⟨dx, la, ba, wa, h0, insU hD h1, ?_, h3.over hD, h4.over hD⟩
  rw [upd_ne fun e => h0 (by rw [e]; exact hB)]
  exact h2
theorem PtName.w (h : PtName B H CS CT y z s) : PtW H CS CT (y, s) := let ⟨dx, la, sa, _, h1, h2, h3⟩ := h; ⟨dx, sa, _, _, _, _, h1, h3⟩
theorem PtRep.w (h : PtRep B H CS CT y n E b s) : PtW H CS CT (y, s) := let ⟨dx, la, ba, wa, _, h1, h2, h3, h4⟩ := h; ⟨dx, wa, _, _, _, _, h1, h4⟩
end
abbrev Old (H : Hp) : Addr → Prop := fun a => H a ≠ none
theorem Old.not {H H' : Hp} {a : Addr} (k : Same H H') (h : H' a = none) : ¬Old H a := fun e => by
  cases ho : H a with
  | none => exact e ho
  | some o =>
    rw [k _ _ ho] at h
    cases h
def spPartN (CP CR CS CT : Addr) (sp : Sp) : Sp := fun vs H Q E => ∃ (x : Addr) (v : V) (len : Int) (L : List (Addr × Cue)) (ps : List Piece) (as : List (Str × Str)) (ss es : List Str), vs = [.ref x, v] ∧ PlanAt H CR CP x len L ps as ss es ∧
  ((∃ p ∈ ps, v = .str p.nm ∧ ∀ (H' : Hp) (y : Addr), Same H H' → PtName (Old H) H' CS CT y p.nm (pieceSx ps (cuesC L) p) → Q (.ref y) H') ∨
  ∃ (a b : Addr) (n : Int) (xs : List V) (ws : List Sx) (R : Nat → (Addr → Prop) → Hp → Addr → Prop), v = .ref a ∧ H a = some (.tup [.int n, .ref b]) ∧ H b = some (.tup xs) ∧ xs.length = ws.length ∧ 1 ≤ ws.length ∧ ws.length ≤ 1000 ∧ (∀ s ∈ ws, s.l ∈ ps.map (·.nm)) ∧ (sumL as ws).Fits 10000 ∧ Builtin.Int.intBits n ≤ 10000 ∧
    (∀ i B H1 H2 y, Same H1 H2 → R i B H1 y → R i B H2 y) ∧ (∀ i B H1 D xs o y, B D → H1 D = some (.lst xs) → R i B H1 y → R i B (upd H1 D o) y) ∧ (∀ i B B' H1 y, (∀ a, B' a → B a) → R i B H1 y → R i B' H1 y) ∧ (∀ i B H1 y s, R i B H1 y → ws[i]? = some s → PtW H1 CS CT (y, s)) ∧
    (∀ (i : Nat) (u : V), xs[i]? = some u → ∀ H1 Q1 E1, Same H H1 → (∀ H2 y, Same H1 H2 → R i (Old H1) H2 y → Q1 (.ref y) H2) → sp [.ref x, u] H1 Q1 E1) ∧
    ∀ (H' : Hp) (y : Addr) (E : List Addr), Same H H' → E.length = ws.length → (∀ i e, E[i]? = some e → R i (Old H) H' e) → PtRep (Old H) H' CS CT y n E (sumL as ws) (repSx as (sumL as ws) n) → Q (.ref y) H')
section
variable {P : Program} {w : World} {K : PySem.W.Frag} {mg : Str → Option Value} {base : Heap} {CR CP CS CT fI fP : Addr} {fdI : FuncData}
theorem ok_part_at {f : Addr} {fd : FuncData} (F : Fun K "part_of" "part_of" s_part_of f fd) (T : PtC K mg CT fI) (FI : FnOk P w K mg base CX0 1 fI fdI ["self", "name", "times", "parts", "body", "whole"] (spPtIni CT)) (bI : Binds K fdI ["self", "name", "times", "parts", "body", "whole"] [])
    (m_isinstance : mg "isinstance" = none) (m_str : mg "str" = none) {k : Nat} (hk : 4 ≤ k) {sp : Sp} (c_part_of : Cal P w K mg base k "part_of" sp)
    (c_piece_stretch : Cal P w K mg base 3 "piece_stretch" (spPieceS CP CR CS)) (c_all_of : Cal P w K mg base 4 "all_of" (spAll CP CR CS CT)) (c_repeated : Cal P w K mg base 3 "repeated" (spRep CP CR CS)) : FnOk P w K mg base CX0 (k + 1) f fd ["plan", "item"] (spPartN CP CR CS CT sp) := by
  refine F.ok sc_part_of (fun vs H Q E h => ?_) (fun cdv A outer s H vs Q E hr h => ?_)
  · obtain ⟨x, v, len, L, ps, as, ss, es, rfl, _⟩ := h
    rfl
  · obtain ⟨x, v, len, L, ps, as, ss, es, rfl, hP, ways⟩ := h
    refine ⟨_, (pss_cons (ps_if (pt_val (pe_callB call_isi (by rfl) m_isinstance (by decide +kernel) (pa_cons (pv 1) (pa_cons (pe_bltn (v := .ty "str") (by rfl) m_str (by decide +kernel) rfl) pa_nil))))
    (pss_cons (ps_set (i := 2) sc_part_of.nd rfl (Or.inl rfl) (pe_c c_piece_stretch hr (by omega) rfl (pa_cons (pv 0) (pa_cons (pv 1) pa_nil))))
    (pss_one (ps_ret (pe_make (E := E0) T.made FI (hr.mono (by omega)) rfl T.g bI .nil pass0 (pa_cons (pv 1) (pa_cons (pe_int) (pa_cons (pe_lst pa_nil) (pa_cons (pv 2) (pa_cons (pv 2) pa_nil)))))))))
    pss_nil)
    (pss_cons (ps_asg (pv 1) (pg_tup rfl (pgs_cons (pg_name (i := 3) sc_part_of.nd rfl (Or.inl rfl)) (pgs_cons (pg_name (i := 4) sc_part_of.nd rfl (Or.inl rfl)) pgs_nil))))
    (pss_cons (ps_setLc (i := 5) (own := [("inner", 7)]) rfl sc_part_of.nd rfl rfl (sw_true rfl rfl rfl (by decide +kernel)) (pi_tup (pv 4)) (blkOk_by (N := N_part_of) (sc := defScope s_part_of) (by decide +kernel)) (fun _ _ _ _ _ => (pg_name (i := 7) sc_part_of.nd rfl (Or.inl rfl))) (fun _ _ _ _ _ => pts_nil) (fun _ _ _ _ _ => (pe_c c_part_of hr (by omega) rfl (pa_cons (pv 0) (pa_cons (pv 7) pa_nil)))))
    (pss_cons (ps_set (i := 6) sc_part_of.nd rfl (Or.inl rfl) (pe_c c_all_of hr (by omega) rfl (pa_cons (pv 0) (pa_cons (pv 5) pa_nil))))
    (pss_one (ps_ret (pe_make (E := E0) T.made FI (hr.mono (by omega)) rfl T.g bI .nil pass0 (pa_cons (pe_non) (pa_cons (pv 3) (pa_cons (pv 5) (pa_cons (pv 6) (pa_cons (pe_c c_repeated hr (by omega) rfl (pa_cons (pv 0) (pa_cons (pv 6) (pa_cons (pv 3) pa_nil)))) pa_nil)))))))))))), ?_⟩
    rcases ways with ⟨p, hp, rfl, q⟩ | ⟨a, b, n, xs, ws, R, rfl, ha, hb, hxl, hw1, hw2, hwn, hF, hnb, hkeep, hupd, hanti, hRW, hsub, q⟩
    · refine ⟨_, rfl, _, _, _, _, true, rfl, .ty _, .base (.str p.nm), kit_ty (by decide +kernel), true, rfl, ?_⟩
      refine iteT ⟨_, rfl, _, rfl, x, len, L, ps, as, ss, es, p, rfl, hP, hp, fun H1 sa s1 hsa => ?_⟩
      refine ⟨_, rfl, (by show 0 ≤ sizeLine; decide), fun la hla => ⟨_, rfl, _, rfl, fun y dy hy hdy hne => ?_⟩⟩
      refine ⟨y, dy, _, _, _, _, _, rfl, upd_same, fun H2 kb e2 => ⟨rfl, ?_⟩⟩
      have sl : Same H1 (upd H1 la (HO.lst [])) := same_new hla
      have s2 : Same (upd H1 la (HO.lst [])) H2 := kbS hy hdy kb
      exact q H2 y (fun b' o h => s2 _ _ (sl _ _ (s1 _ _ h))) ⟨dy, la, sa, Old.not s1 hla, e2, s2 _ _ upd_same, (hsa.keep sl).keep s2⟩
    · refine ⟨_, rfl, _, _, _, _, false, rfl, .ty _, .base (.tup ha), kit_ty (by decide +kernel), false, rfl, ?_⟩
      refine ite2 (fun e => absurd e (by decide)) (fun _ => ?_)
      refine ⟨_, rfl, a, _, rfl, SqT.of ha, rfl, ?_⟩
      refine ⟨_, _, rfl, _, _, rfl, rfl, ?_⟩
      refine ⟨_, rfl, b, rfl, ⟨_, SqT.of hb⟩, fun D hD => ?_⟩
      refine lc_tup (K := K) (a := b) (xs := xs) (fun i H' => Same H H' ∧ ∃ E : List Addr, H' D = some (.lst (E.map V.ref)) ∧ E.length = i ∧ ∀ j e, E[j]? = some e → R j (fun a => Old H a ∨ a = D) H' e) ⟨same_new hD, [], upd_same, rfl, fun _ _ h => nomatch h⟩ (fun i H' _ hq => SqT.of (hq.1 _ _ hb)) ?_ ?_
      · rintro i u H1 hu ⟨s1, E', hd, hm, hR⟩
        refine ⟨rfl, _, rfl, _, rfl, ?_⟩
        refine hsub i u hu _ _ _ s1 fun H2 y s2 hy => ⟨_, s2 _ _ hd, ?_, same_over (s1.trans s2) hD, E' ++ [y], ?_, ?_, ?_⟩
        · rw [List.length_map]
          exact small_line (by have := (List.getElem?_eq_some_iff.mp hu).1; omega)
        · rw [upd_same, List.map_append]
          rfl
        · rw [List.length_append, hm]
          rfl
        · intro j e he
          have hd2 := s2 _ _ hd
          by_cases hj : j < E'.length
          · rw [List.getElem?_append_left hj] at he
            exact hupd _ _ _ _ _ _ _ (Or.inr rfl) hd2 (hkeep _ _ _ _ _ s2 (hR j e he))
          · rw [List.getElem?_append_right (by omega)] at he
            have ej : j = i := by
              have := (List.getElem?_eq_some_iff.mp he).1
              rw [List.length_singleton] at this
              omega
            subst ej
            rw [hm, Nat.sub_self] at he
            cases he
            refine hupd _ _ _ _ _ _ _ (Or.inr rfl) hd2 (hanti _ _ _ _ _ (fun a' ha' => ?_) hy)
            rcases ha' with h | h
            · intro e0
              exact Old.not s1 e0 h
            · intro e0
              rw [h, hd] at e0
              cases e0
      · rintro H1 ⟨s1, E', hd, hm, hR⟩
        have hE : E'.length = ws.length := by rw [hm, hxl]
        obtain ⟨e0, r0, hE0⟩ : ∃ e0 r0, E'.zip ws = e0 :: r0 := by
          cases hz : E'.zip ws with
          | nil =>
            have := congrArg List.length hz
            rw [List.length_zip, hE, Nat.min_self] at this
            rw [List.length_nil] at this
            omega
          | cons e0 r0 => exact ⟨e0, r0, rfl⟩
        have hm1 : (e0 :: r0).map (·.1) = E' := by rw [← hE0]; exact List.map_fst_zip (by omega)
        have hm2 : (e0 :: r0).map (·.2) = ws := by rw [← hE0]; exact List.map_snd_zip (by omega)
        have hsum : sumSx as e0.2 (r0.map (·.2)) = sumL as ws := by rw [← hm2]; rfl
        have hlst : H1 D = some (.lst (refsX (e0 :: r0))) := by
          rw [hd, ← hm1, List.map_map]
          rfl
        have hWs : ∀ e ∈ e0 :: r0, PtW H1 CS CT e := fun e he => by
          rw [← hE0] at he
          obtain ⟨j, hj⟩ := List.getElem?_of_mem he
          obtain ⟨h1, h2⟩ := List.getElem?_zip_eq_some.mp hj
          exact hRW j _ _ _ _ (hR j _ h1) h2
        have hns : ∀ e ∈ e0 :: r0, e.2.l ∈ ps.map (·.nm) := fun e he => hwn _ (by rw [← hm2]; exact List.mem_map_of_mem he)
        refine ⟨_, rfl, _, rfl, x, D, len, L, ps, as, ss, es, e0, r0, rfl, hP.keep s1, hlst, hWs, hns, fun H2 ba s2 hba => ?_⟩
        rw [hsum] at hba
        have hbn : ∃ p ∈ ps, (sumL as ws).l = p.nm := by
          have : (sumSx as e0.2 (r0.map (·.2))).l ∈ ps.map (·.nm) := sumSx_l as e0.2 _ _ (hns e0 List.mem_cons_self) fun t ht => by
            obtain ⟨e', he', rfl⟩ := List.mem_map.mp ht
            exact hns e' (List.mem_cons_of_mem _ he')
          rw [hsum] at this
          obtain ⟨p, hp, ep⟩ := List.mem_map.mp this
          exact ⟨p, hp, ep.symm⟩
        refine ⟨_, rfl, _, rfl, _, rfl, _, rfl, _, rfl, _, rfl, x, ba, n, len, L, ps, as, ss, es, _, rfl, (hP.keep s1).keep s2, hba, hF, hnb, hbn, fun H3 wa s3 hwa => ?_⟩
        refine fun y dy hy hdy hne => ?_
        refine ⟨y, dy, _, _, _, _, _, rfl, upd_same, fun H4 kb e4 => ⟨rfl, ?_⟩⟩
        have s4 : Same H3 H4 := kbS hy hdy kb
        have s24 : Same H2 H4 := fun b' o h => s4 _ _ (s3 _ _ h)
        have s14 : Same H1 H4 := fun b' o h => s24 _ _ (s2 _ _ h)
        refine q H4 y E' (fun b' o h => s14 _ _ (s1 _ _ h)) hE (fun i e he => hkeep _ _ _ _ _ s14 (hanti _ _ _ _ _ (fun a' h => Or.inl h) (hR i e he))) ⟨dy, D, ba, wa, Old.not (fun b' o h => h) hD, e4, s14 _ _ hd, hba.keep s24, hwa.keep s4⟩
end
end Sea
namespace Sea
open PySem PySem.Spec PyProof.Rows L2
/-! items of a roll, by depth -/
def It : Nat → Type
  | 0 => Piece
  | d + 1 => Piece ⊕ (Int × List (It d))
def sxOf (ps : List Piece) (as : List (Str × Str)) (cs : List Cue) : (d : Nat) → It d → Sx
  | 0, p => pieceSx ps cs p
  | _ + 1, .inl p => pieceSx ps cs p
  | d + 1, .inr (n, l) => repSx as (sumL as (l.map (sxOf ps as cs d))) n
/-- the item as it is written: tuples within tuples -/
def ItV : (d : Nat) → Hp → V → It d → Prop
  | 0, _, v, (p : Piece) => v = .str p.nm
  | _ + 1, _, v, .inl p => v = .str p.nm
  | d + 1, H, v, .inr (n, l) => ∃ (a b : Addr) (E : List (V × It d)), v = .ref a ∧ H a = some (.tup [.int n, .ref b]) ∧ H b = some (.tup (E.map (·.1))) ∧ l = E.map (·.2) ∧ ∀ e ∈ E, ItV d H e.1 e.2
def ItOk (ps : List Piece) (as : List (Str × Str)) (cs : List Cue) : (d : Nat) → It d → Prop
  | 0, (p : Piece) => p ∈ ps
  | _ + 1, .inl p => p ∈ ps
  | d + 1, .inr (n, l) => 1 ≤ l.length ∧ l.length ≤ 1000 ∧ (sumL as (l.map (sxOf ps as cs d))).Fits 10000 ∧ Builtin.Int.intBits n ≤ 10000 ∧ ∀ e ∈ l, ItOk ps as cs d e
def PartAt (ps : List Piece) (as : List (Str × Str)) (cs : List Cue) (CS CT : Addr) : (d : Nat) → (Addr → Prop) → Hp → Addr → It d → Prop
  | 0, B, H, y, (p : Piece) => PtName B H CS CT y p.nm (pieceSx ps cs p)
  | _ + 1, B, H, y, .inl p => PtName B H CS CT y p.nm (pieceSx ps cs p)
  | d + 1, B, H, y, .inr (n, l) => ∃ E : List (Addr × It d), PtRep B H CS CT y n (E.map (·.1)) (sumL as (l.map (sxOf ps as cs d))) (repSx as (sumL as (l.map (sxOf ps as cs d))) n) ∧ l = E.map (·.2) ∧ ∀ e ∈ E, PartAt ps as cs CS CT d B H e.1 e.2
theorem ItV.keep {H H' : Hp} (k : Same H H') : ∀ (d : Nat) (v : V) (i : It d), ItV d H v i → ItV d H' v i
  | 0, _, _, h => h
  | _ + 1, _, .inl _, h => h
  | d + 1, _, .inr (_, _), ⟨a, b, E, h1, h2, h3, h4, h5⟩ => ⟨a, b, E, h1, k _ _ h2, k _ _ h3, h4, fun e he => ItV.keep k d _ _ (h5 e he)⟩
section
variable {ps : List Piece} {as : List (Str × Str)} {cs : List Cue} {CS CT : Addr} {B B' : Addr → Prop} {H H' : Hp}
theorem PartAt.keep (k : Same H H') : ∀ (d : Nat) (y : Addr) (i : It d), PartAt ps as cs CS CT d B H y i → PartAt ps as cs CS CT d B H' y i
  | 0, _, _, h => PtName.keep h k
  | _ + 1, _, .inl _, h => PtName.keep h k
  | d + 1, _, .inr (_, _), ⟨E, h1, h2, h3⟩ => ⟨E, h1.keep k, h2, fun e he => PartAt.keep k d _ _ (h3 e he)⟩
theorem PartAt.anti (k : ∀ a, B' a → B a) : ∀ (d : Nat) (y : Addr) (i : It d), PartAt ps as cs CS CT d B H y i → PartAt ps as cs CS CT d B' H y i
  | 0, _, _, h => PtName.anti h k
  | _ + 1, _, .inl _, h => PtName.anti h k
  | d + 1, _, .inr (_, _), ⟨E, h1, h2, h3⟩ => ⟨E, h1.anti k, h2, fun e he => PartAt.anti k d _ _ (h3 e he)⟩
theorem PartAt.over {D : Addr} {xs : List V} {o : HO} (hB : B D) (hD : H D = some (.lst xs)) : ∀ (d : Nat) (y : Addr) (i : It d), PartAt ps as cs CS CT d B H y i → PartAt ps as cs CS CT d B (upd H D o) y i
  | 0, _, _, h => PtName.over h hB hD
  | _ + 1, _, .inl _, h => PtName.over h hB hD
  | d + 1, _, .inr (_, _), ⟨E, h1, h2, h3⟩ => ⟨E, h1.over hB hD, h2, fun e he => PartAt.over hB hD d _ _ (h3 e he)⟩
theorem PartAt.w : ∀ (d : Nat) (y : Addr) (i : It d), PartAt ps as cs CS CT d B H y i → PtW H CS CT (y, sxOf ps as cs d i)
  | 0, _, _, h => PtName.w h
  | _ + 1, _, .inl _, h => PtName.w h
  | _ + 1, _, .inr (_, _), ⟨_, h1, _⟩ => h1.w
theorem sumL_l (as : List (Str × Str)) {ns : List Str} : ∀ (l : List Sx), 1 ≤ l.length → (∀ s ∈ l, s.l ∈ ns) → (sumL as l).l ∈ ns
  | [], h, _ => absurd h (by decide)
  | s :: r, _, h => sumSx_l as s r ns (h s List.mem_cons_self) fun t ht => h t (List.mem_cons_of_mem _ ht)
theorem sxOf_l : ∀ (d : Nat) (i : It d), ItOk ps as cs d i → (sxOf ps as cs d i).l ∈ ps.map (·.nm)
  | 0, _, h => List.mem_map_of_mem h
  | _ + 1, .inl _, h => List.mem_map_of_mem h
  | d + 1, .inr (_, l), ⟨h1, _, _, _, h5⟩ => sumL_l as _ (by rw [List.length_map]; exact h1) fun s hs => by
    obtain ⟨e, he, rfl⟩ := List.mem_map.mp hs
    exact sxOf_l d e (h5 e he)
end
def spPart (CP CR CS CT : Addr) (d : Nat) : Sp := fun vs H Q _ => ∃ (x : Addr) (v : V) (len : Int) (L : List (Addr × Cue)) (ps : List Piece) (as : List (Str × Str)) (ss es : List Str) (i : It d), vs = [.ref x, v] ∧ PlanAt H CR CP x len L ps as ss es ∧ ItV d H v i ∧ ItOk ps as (cuesC L) d i ∧
  ∀ (H' : Hp) (y : Addr), Same H H' → PartAt ps as (cuesC L) CS CT d (Old H) H' y i → Q (.ref y) H'
theorem part_name {CP CR CS CT : Addr} {sp : Sp} {H : Hp} {Q : VK} {E : XK} {x : Addr} {v : V} {len : Int} {L : List (Addr × Cue)} {ps : List Piece} {as : List (Str × Str)} {ss es : List Str} {p : Piece} (hP : PlanAt H CR CP x len L ps as ss es) (hv : v = .str p.nm) (hp : p ∈ ps)
    (q : ∀ (H' : Hp) (y : Addr), Same H H' → PtName (Old H) H' CS CT y p.nm (pieceSx ps (cuesC L) p) → Q (.ref y) H') : spPartN CP CR CS CT sp [.ref x, v] H Q E :=
  ⟨x, v, len, L, ps, as, ss, es, rfl, hP, .inl ⟨p, hp, hv, q⟩⟩
theorem part_zero {CP CR CS CT : Addr} {sp : Sp} {vs : List V} {H : Hp} {Q : VK} {E : XK} (h : spPart CP CR CS CT 0 vs H Q E) : spPartN CP CR CS CT sp vs H Q E := by
  obtain ⟨x, v, len, L, ps, as, ss, es, i, rfl, hP, hv, ho, q⟩ := h
  exact part_name (p := i) hP hv ho q
theorem part_succ {CP CR CS CT : Addr} {d : Nat} {vs : List V} {H : Hp} {Q : VK} {E : XK} (h : spPart CP CR CS CT (d + 1) vs H Q E) : spPartN CP CR CS CT (spPart CP CR CS CT d) vs H Q E := by
  obtain ⟨x, v, len, L, ps, as, ss, es, i, rfl, hP, hv, ho, q⟩ := h
  match i, hv, ho, q with
  | .inl p, hv, ho, q => exact part_name (p := p) hP hv ho q
  | .inr (n, l), ⟨a, b, En, h1, h2, h3, h4, h5⟩, ⟨o1, o2, o3, o4, o5⟩, q =>
    have hl : l.length = En.length := by rw [h4, List.length_map]
    refine ⟨x, v, len, L, ps, as, ss, es, rfl, hP, .inr ⟨a, b, n, En.map (·.1), l.map (sxOf ps as (cuesC L) d), fun i B H y => ∃ e, l[i]? = some e ∧ PartAt ps as (cuesC L) CS CT d B H y e, h1, h2, h3, by rw [List.length_map, List.length_map, hl], by rw [List.length_map]; exact o1, by rw [List.length_map]; exact o2, ?_, o3, o4, ?_, ?_, ?_, ?_, ?_, ?_⟩⟩
    · intro s hs
      obtain ⟨e, he, rfl⟩ := List.mem_map.mp hs
      exact sxOf_l d e (o5 e he)
    · rintro i B H1 H2 y k ⟨e, he, h⟩
      exact ⟨e, he, h.keep k d _ _⟩
    · rintro i B H1 D xs o y hB hD ⟨e, he, h⟩
      exact ⟨e, he, h.over hB hD d _ _⟩
    · rintro i B B' H1 y k ⟨e, he, h⟩
      exact ⟨e, he, h.anti k d _ _⟩
    · rintro i B H1 y s ⟨e, he, h⟩ hs
      rw [List.getElem?_map, he] at hs
      cases hs
      exact h.w d _ _
    · intro i u hu H1 Q1 E1 s1 q1
      rw [List.getElem?_map] at hu
      cases hi : En[i]? with
      | none => rw [hi] at hu; cases hu
      | some e =>
        rw [hi] at hu
        cases hu
        have hm := List.mem_of_getElem? hi
        have hle : l[i]? = some e.2 := by rw [h4, List.getElem?_map, hi]; rfl
        exact ⟨x, e.1, len, L, ps, as, ss, es, e.2, rfl, hP.keep s1, (h5 e hm).keep s1 d _ _, o5 _ (List.mem_of_getElem? hle), fun H2 y s2 hy => q1 H2 y s2 ⟨e.2, hle, hy⟩⟩
    · intro H' y Ea s1 hEl hR hpt
      rw [List.length_map] at hEl
      refine q H' y s1 ⟨Ea.zip l, ?_, (List.map_snd_zip (by omega)).symm, fun e he => ?_⟩
      · rw [List.map_fst_zip (by omega)]
        exact hpt
      · obtain ⟨j, hj⟩ := List.getElem?_of_mem he
        obtain ⟨g1, g2⟩ := List.getElem?_zip_eq_some.mp hj
        obtain ⟨e', he', h⟩ := hR j _ g1
        rw [g2] at he'
        cases he'
        exact h
section
variable {P : Program} {w : World} {K : PySem.W.Frag} {mg : Str → Option Value} {base : Heap} {CR CP CS CT fI fP : Addr} {fdI : FuncData}
theorem ok_part {f : Addr} {fd : FuncData} (F : Fun K "part_of" "part_of" s_part_of f fd) (T : PtC K mg CT fI) (FI : FnOk P w K mg base CX0 1 fI fdI ["self", "name", "times", "parts", "body", "whole"] (spPtIni CT)) (bI : Binds K fdI ["self", "name", "times", "parts", "body", "whole"] [])
    (g : mg "part_of" = some (.ref f)) (kp : PySem.W.keepIn K (.ref f) = true) (b : Binds K fd ["plan", "item"] [])
    (m_isinstance : mg "isinstance" = none) (m_str : mg "str" = none)
    (c_piece_stretch : Cal P w K mg base 3 "piece_stretch" (spPieceS CP CR CS)) (c_all_of : Cal P w K mg base 4 "all_of" (spAll CP CR CS CT)) (c_repeated : Cal P w K mg base 3 "repeated" (spRep CP CR CS)) :
    ∀ d : Nat, FnOk P w K mg base CX0 (5 + d) f fd ["plan", "item"] (spPart CP CR CS CT d)
  | 0 => by
    have f0 : FnOk P w K mg base CX0 4 f fd ["plan", "item"] (fun _ _ _ _ => False) := F.ok sc_part_of (fun _ _ _ _ h => h.elim) (fun _ _ _ _ _ _ _ _ _ h => h.elim)
    exact (ok_part_at F T FI bI m_isinstance m_str (Nat.le_refl 4) ⟨f, fd, _, f0, g, kp, b⟩ c_piece_stretch c_all_of c_repeated).imp fun vs H Q E h => part_zero h
  | d + 1 => by
    have h := ok_part F T FI bI g kp b m_isinstance m_str c_piece_stretch c_all_of c_repeated d
    exact (ok_part_at F T FI bI m_isinstance m_str (by omega) ⟨f, fd, _, h, g, kp, b⟩ c_piece_stretch c_all_of c_repeated).imp fun vs H Q E h => part_succ h
end
end Sea
namespace Sea
open PySem PySem.Spec PyProof.Rows L2
/-! repeat_of a good item -/
def Seq2 (H : Hp) (a : Addr) (xs : List V) : Prop := H a = some (.tup xs) ∨ H a = some (.lst xs)
def spRepOf : Sp := fun vs H Q _ => ∃ v, vs = [v] ∧ ((∃ z, v = .str z ∧ ∀ H', Same H H' → Q .non H') ∨ ∃ (a b : Addr) (n : Int) (xs : List V), v = .ref a ∧ Seq2 H a [.int n, .ref b] ∧ Seq2 H b xs ∧ 2 ≤ n ∧ 1 ≤ xs.length ∧ xs.length ≤ 1000 ∧
  ∀ H' r c, Same H H' → H' r = some (.tup [.int n, .ref c]) → H' c = some (.tup xs) → Q (.ref r) H')
section
variable {P : Program} {w : World} {K : PySem.W.Frag} {mg : Str → Option Value} {base : Heap}
theorem ok_repOf {f : Addr} {fd : FuncData} (F : Fun K "repeat_of" "repeat_of" s_repeat_of f fd) (c_parts_of : Cal P w K mg base 2 "parts_of" spPartsA) (c_items_of : Cal P w K mg base 1 "items_of" (spItemsA K)) (c_is_integer : Cal P w K mg base 1 "is_integer" spIsIntA) :
    FnOk P w K mg base CX0 3 f fd ["item"] spRepOf := by
  refine F.ok sc_repeat_of (fun vs H Q E h => ?_) (fun cdv A outer s H vs Q E hr h => ?_)
  · obtain ⟨v, rfl, _⟩ := h
    rfl
  · obtain ⟨v, rfl, hv⟩ := h
    refine ⟨_, (pss_cons (ps_set (i := 1) sc_repeat_of.nd rfl (Or.inl rfl) (pe_c c_parts_of hr (by decide) rfl (pa_cons (pv 0) (pa_cons (pe_int) pa_nil))))
    (pss_cons (ps_if (PW.pt (pw_or (pt_cmpR op_isN (pv 1) (pe_non) (nomark _)) (pw_or (pt_not (pt_val (pe_c c_is_integer hr (by decide) rfl (pa_cons (pe_ix (show IxR _ (rIxT K) from ix_tup) (pv 1) (pe_int) (fun _ _ => rfl)) pa_nil)))) (pw_or1 (pt_cmpR op_lt (pe_ix (show IxR _ (rIxT K) from ix_tup) (pv 1) (pe_int) (fun _ _ => rfl)) (pe_int) (nomark _))))))
    (pss_one (ps_ret (pe_non)))
    pss_nil)
    (pss_cons (ps_set (i := 2) sc_repeat_of.nd rfl (Or.inl rfl) (pe_c c_items_of hr (by decide) rfl (pa_cons (pe_ix (show IxR _ (rIxT K) from ix_tup) (pv 1) (pe_int) (fun _ _ => rfl)) pa_nil)))
    (pss_cons (ps_if (pt_not (pt_truth (pv 2) (by intro _; rfl)))
    (pss_one (ps_ret (pe_non)))
    pss_nil)
    (pss_one (ps_ret (pe_tup (pa_cons (pe_ix (show IxR _ (rIxT K) from ix_tup) (pv 1) (pe_int) (fun _ _ => rfl)) (pa_cons (pv 2) pa_nil))))))))), ?_⟩
    rcases hv with ⟨z, rfl, q⟩ | ⟨a, b, n, xs, rfl, ha, hb, hn, h1, h2, q⟩
    · exact ⟨_, rfl, .str z, 2, rfl, .inl ⟨trivial, fun H1 s1 => ⟨_, rfl, rfl, _, rfl, q H1 s1⟩⟩⟩
    · refine ⟨_, rfl, .ref a, 2, rfl, .inr ⟨a, [.int n, .ref b], rfl, ha, (by show 2 ≤ 1000; decide), fun _ H1 t s1 ht => ?_, fun e => absurd rfl e⟩⟩
      refine ⟨_, rfl, rfl, _, rfl, ?_⟩
      refine ⟨_, rfl, t, _, _, _, rfl, rfl, SqT.of ht, rfl, .int n, rfl, .inl trivial, _, rfl, ?_⟩
      refine ⟨_, rfl, t, _, _, _, rfl, rfl, SqT.of ht, rfl, _, _, rfl, rfl, _, rfl, ?_⟩
      rw [show decide (n < 2) = false from decide_eq_false (by omega)]
      refine ite2 (fun e => absurd e (by decide)) (fun _ => ?_)
      refine ⟨_, rfl, t, _, _, _, rfl, rfl, SqT.of ht, rfl, .ref b, rfl, .inr (.inr ⟨b, xs, rfl, ?_, fun H2 c s2 hc => ?_⟩)⟩
      · rcases hb with hb | hb
        · exact .inl (s1 _ _ hb)
        · exact .inr (s1 _ _ hb)
      · refine ⟨_, rfl, true, ?_, ?_⟩
        · refine .inr (.inl ⟨xs, SqT.of hc, ?_⟩)
          cases xs with
          | nil => exact absurd h1 (by decide)
          | cons y r => rfl
        · refine ⟨_, rfl, t, _, _, _, rfl, rfl, SqT.of (s2 _ _ ht), rfl, _, rfl, (by show 2 ≤ sizeLine; decide), fun r hr0 => ?_⟩
          exact q _ r c (fun b' o h => same_new hr0 _ _ (s2 _ _ (s1 _ _ h))) upd_same (same_new hr0 _ _ hc)
end
end Sea
namespace Sea
open PySem PySem.Spec PyProof.Rows L2
/-! the bits of what is counted -/
theorem bits_le {m n : Nat} {x : Int} (h : Builtin.Int.intBits x ≤ m) (k : m ≤ n) : Builtin.Int.intBits x ≤ n := Nat.le_trans h k
theorem Sx.Fits.mono {s : Sx} {m n : Nat} (h : s.Fits m) (k : m ≤ n) : s.Fits n := ⟨bits_le h.mn k, bits_le h.gr k, bits_le h.sh k, bits_le h.se k⟩
theorem add_bits {m : Nat} {x y : Int} (hx : Builtin.Int.intBits x ≤ m) (hy : Builtin.Int.intBits y ≤ m) : Builtin.Int.intBits (x + y) ≤ m + 1 := by
  have := intBits_add_le hx hy
  rw [Nat.max_self] at this
  exact this
theorem sub_bits {m : Nat} {x y : Int} (hx : Builtin.Int.intBits x ≤ m) (hy : Builtin.Int.intBits y ≤ m) : Builtin.Int.intBits (x - y) ≤ m + 1 := by
  have := intBits_sub_le hx hy
  rw [Nat.max_self] at this
  exact this
theorem both_fits {as : List (Str × Str)} {l r : Sx} {m : Nat} (h64 : 64 ≤ m) (hl : l.Fits m) (hr : r.Fits m) : (bothSx as l r).Fits (m + 2) :=
  ⟨bits_le (add_bits hl.mn hr.mn) (by omega), bits_le (add_bits hl.gr hr.gr) (by omega), sub_bits (m := m + 1) (add_bits hl.sh hr.sh) (bits_le (joinI_bits _ _) (by omega)), bits_le (add_bits hl.se hr.se) (by omega)⟩
theorem sum_fits {as : List (Str × Str)} {m : Nat} (h64 : 64 ≤ m) : ∀ (l : List Sx) (s : Sx) (k : Nat), s.Fits (m + 2 * k) → (∀ t ∈ l, t.Fits m) → (sumSx as s l).Fits (m + 2 * (k + l.length))
  | [], _, _, h, _ => h
  | t :: r, s, k, h, ht => by
    have h1 : (bothSx as s t).Fits (m + 2 * (k + 1)) := (both_fits (m := m + 2 * k) (by omega) h ((ht t List.mem_cons_self).mono (by omega))).mono (by omega)
    have h2 := sum_fits (as := as) h64 r (bothSx as s t) (k + 1) h1 fun u hu => ht u (List.mem_cons_of_mem _ hu)
    exact h2.mono (by rw [List.length_cons]; omega)
theorem sumL_fits {as : List (Str × Str)} {m : Nat} (h64 : 64 ≤ m) {l : List Sx} (h0 : 1 ≤ l.length) (h : ∀ t ∈ l, t.Fits m) : (sumL as l).Fits (m + 2 * l.length) := by
  cases l with
  | nil => exact absurd h0 (by decide)
  | cons s r => exact (sum_fits h64 r s 0 ((h s List.mem_cons_self).mono (by omega)) fun t ht => h t (List.mem_cons_of_mem _ ht)).mono (by rw [List.length_cons]; omega)
theorem rep_fits {as : List (Str × Str)} {b : Sx} {n : Int} {m k : Nat} (h65 : 65 ≤ m) (hb : b.Fits m) (hn : Builtin.Int.intBits n ≤ k) : (repSx as b n).Fits (m + k + 2) :=
  ⟨bits_le (intBits_mul_le hb.mn hn) (by omega), bits_le (intBits_mul_le hb.gr hn) (by omega),
   sub_bits (m := m + k + 1) (bits_le (intBits_mul_le hb.sh hn) (by omega)) (bits_le (intBits_mul_le (joinI_bits _ _) (bits_le (intBits_sub_le hn (show Builtin.Int.intBits 1 ≤ 1 from intBits_le_iff.mpr (by decide))) (Nat.le_refl _))) (by rcases Nat.le_total k 1 with h | h <;> simp only [Nat.max_def] <;> split <;> omega)),
   bits_le (intBits_mul_le hb.se hn) (by omega)⟩
/-- how many bits a depth wants: lists of at most 60, numbers of at most 140 bits -/
def fitM : Nat → Nat
  | 0 => 65
  | d + 1 => fitM d + 262
/-- an item that is written within the bounds -/
def ItIn (ps : List Piece) : (d : Nat) → It d → Prop
  | 0, (p : Piece) => p ∈ ps
  | _ + 1, .inl p => p ∈ ps
  | d + 1, .inr (n, l) => 1 ≤ l.length ∧ l.length ≤ 60 ∧ Builtin.Int.intBits n ≤ 140 ∧ ∀ e ∈ l, ItIn ps d e
theorem fitM_65 : ∀ d, 65 ≤ fitM d
  | 0 => Nat.le_refl _
  | d + 1 => by have := fitM_65 d; unfold fitM; omega
theorem fitM_le : ∀ d, fitM d = 65 + 262 * d
  | 0 => rfl
  | d + 1 => by have := fitM_le d; unfold fitM; omega
theorem itIn_fits {ps : List Piece} {as : List (Str × Str)} {cs : List Cue} (h : ∀ p ∈ ps, (pieceSx ps cs p).Fits 65) : ∀ (d : Nat) (i : It d), ItIn ps d i → (sxOf ps as cs d i).Fits (fitM d)
  | 0, p, hp => h p hp
  | d + 1, .inl p, hp => (h p hp).mono (fitM_65 _)
  | d + 1, .inr (n, l), ⟨h1, h2, h3, h4⟩ => by
    have hs : (sumL as (l.map (sxOf ps as cs d))).Fits (fitM d + 120) := (sumL_fits (m := fitM d) (by have := fitM_65 d; omega) (by rw [List.length_map]; exact h1) fun t ht => by
      obtain ⟨e, he, rfl⟩ := List.mem_map.mp ht
      exact itIn_fits h d e (h4 e he)).mono (by rw [List.length_map]; omega)
    exact (rep_fits (by have := fitM_65 d; omega) hs h3).mono (by show fitM d + 120 + 140 + 2 ≤ fitM d + 262; omega)
theorem itIn_ok {ps : List Piece} {as : List (Str × Str)} {cs : List Cue} (h : ∀ p ∈ ps, (pieceSx ps cs p).Fits 65) : ∀ (d : Nat) (i : It d), d ≤ 30 → ItIn ps d i → ItOk ps as cs d i
  | 0, _, _, hp => hp
  | _ + 1, .inl _, _, hp => hp
  | d + 1, .inr (n, l), hd, ⟨h1, h2, h3, h4⟩ => by
    refine ⟨h1, by omega, ?_, bits_le h3 (by omega), fun e he => itIn_ok h d e (by omega) (h4 e he)⟩
    exact (sumL_fits (m := fitM d) (by have := fitM_65 d; omega) (by rw [List.length_map]; exact h1) fun t ht => by
      obtain ⟨e, he, rfl⟩ := List.mem_map.mp ht
      exact itIn_fits h d e (h4 e he)).mono (by rw [List.length_map]; have := fitM_le d; omega)
end Sea
namespace Sea
open PySem PySem.Spec PyProof.Rows L2
/-! what is counted of one piece fits 65 bits -/
theorem bits65 {x : Int} (h0 : 0 ≤ x) (h : x ≤ 1000000000) : Builtin.Int.intBits x ≤ 65 := bits_le (intBits_le_64 (by omega) (by omega)) (by decide)
theorem piece_fits {len : Int} {ps : List Piece} {cs : List Cue} {p : Piece} (gP : ∀ q ∈ ps, GoodP len q) (hp : p ∈ ps) (hlen : len ≤ 2000) (hc : cs.length ≤ 100000) : (pieceSx ps cs p).Fits 65 := by
  have g := gP p hp
  obtain ⟨g1, g2⟩ := grain_le (ps := ps) fun q hq => ⟨(gP q hq).d1, (gP q hq).d6⟩
  obtain ⟨f1, f2⟩ := factor_le g1 g2 g.u1 g.u6 g.d1
  have e0 := g.s0
  have e1 := g.lt
  have e2 := g.el
  have h1 := strip_len p (factorOf (grainTo ps) p) cs
  have h2 := sendsF_len p cs (stripF p (factorOf (grainTo ps) p) cs)
  refine ⟨bits65 (by show (0 : Int) ≤ 1; decide) (by show (1 : Int) ≤ 1000000000; decide), bits65 ?_ ?_, bits65 (Int.natCast_nonneg _) ?_, bits65 (Int.natCast_nonneg _) ?_⟩
  · exact Int.mul_nonneg (by omega) f1
  · have : (p.e - p.s) * factorOf (grainTo ps) p ≤ 2000 * 360 := Int.mul_le_mul (by omega) f2 f1 (by omega)
    show (p.e - p.s) * factorOf (grainTo ps) p ≤ 1000000000
    omega
  · show (((stripF p (factorOf (grainTo ps) p) cs).length : Nat) : Int) ≤ 1000000000
    omega
  · show (((sendsF p cs (stripF p (factorOf (grainTo ps) p) cs)).length : Nat) : Int) ≤ 1000000000
    omega
end Sea
namespace Sea
open PySem PySem.Spec PyProof.Rows L2
/-! items as they are handed in: lists or tuples; how many there are -/
def ItW : (d : Nat) → Hp → V → It d → Prop
  | 0, _, v, (p : Piece) => v = .str p.nm
  | _ + 1, _, v, .inl p => v = .str p.nm
  | d + 1, H, v, .inr (n, l) => ∃ (a b : Addr) (E : List (V × It d)), v = .ref a ∧ Seq2 H a [.int n, .ref b] ∧ Seq2 H b (E.map (·.1)) ∧ l = E.map (·.2) ∧ 2 ≤ n ∧ 1 ≤ E.length ∧ E.length ≤ 1000 ∧ ∀ e ∈ E, ItW d H e.1 e.2
def cntI : (d : Nat) → It d → Nat
  | 0, _ => 1
  | _ + 1, .inl _ => 1
  | d + 1, .inr (_, l) => 1 + (l.map (cntI d)).sum
theorem Seq2.kb {H H' : Hp} {J a : Addr} {xs : List V} (h : Seq2 H a xs) (hJ : H J = none) (k : KB J H H') : Seq2 H' a xs := by
  have hn : a ≠ J := fun e => by
    rcases h with h | h <;> rw [e, hJ] at h <;> cases h
  rcases h with h | h
  · exact .inl (k _ _ hn h)
  · exact .inr (k _ _ hn h)
theorem Seq2.keep {H H' : Hp} {a : Addr} {xs : List V} (h : Seq2 H a xs) (k : Same H H') : Seq2 H' a xs := by
  rcases h with h | h
  · exact .inl (k _ _ h)
  · exact .inr (k _ _ h)
theorem ItW.kb {H H' : Hp} {J : Addr} (hJ : H J = none) (k : KB J H H') : ∀ (d : Nat) (v : V) (i : It d), ItW d H v i → ItW d H' v i
  | 0, _, _, h => h
  | _ + 1, _, .inl _, h => h
  | d + 1, _, .inr (_, _), ⟨a, b, E, h1, h2, h3, h4, h5, h6, h7, h8⟩ => ⟨a, b, E, h1, h2.kb hJ k, h3.kb hJ k, h4, h5, h6, h7, fun e he => ItW.kb hJ k d _ _ (h8 e he)⟩
theorem ItW.keep {H H' : Hp} (k : Same H H') : ∀ (d : Nat) (v : V) (i : It d), ItW d H v i → ItW d H' v i
  | 0, _, _, h => h
  | _ + 1, _, .inl _, h => h
  | d + 1, _, .inr (_, _), ⟨a, b, E, h1, h2, h3, h4, h5, h6, h7, h8⟩ => ⟨a, b, E, h1, h2.keep k, h3.keep k, h4, h5, h6, h7, fun e he => ItW.keep k d _ _ (h8 e he)⟩
/-- what is judged is tuples within tuples: it outlives the filling of a list -/
theorem ItV.kt {H H' : Hp} (k : KT H H') : ∀ (d : Nat) (v : V) (i : It d), ItV d H v i → ItV d H' v i
  | 0, _, _, h => h
  | _ + 1, _, .inl _, h => h
  | d + 1, _, .inr (_, _), ⟨a, b, E, h1, h2, h3, h4, h5⟩ => ⟨a, b, E, h1, k _ _ h2, k _ _ h3, h4, fun e he => ItV.kt k d _ _ (h5 e he)⟩
theorem cntI_pos : ∀ (d : Nat) (i : It d), 1 ≤ cntI d i
  | 0, _ => Nat.le_refl _
  | _ + 1, .inl _ => Nat.le_refl _
  | _ + 1, .inr (_, _) => Nat.le_add_right _ _
end Sea
namespace Sea
open PySem PySem.Spec PyProof.Rows L2
/-! judged_items of good items, one level over another -/
def spJdN (CP CR : Addr) (sp : Sp) : Sp := fun vs H Q E => ∃ (x it : Addr) (n dep : Int) (len : Int) (L : List (Addr × Cue)) (ps : List Piece) (as : List (Str × Str)) (ss es : List Str) (xs : List V) (cn : List Nat) (R : Nat → Hp → V → Prop),
  vs = [.ref x, .ref it, .int n, .int dep] ∧ PlanAt H CR CP x len L ps as ss es ∧ H it = some (.tup xs) ∧ xs.length = cn.length ∧ xs.length ≤ 1000 ∧ dep ≤ 5 ∧
  (∀ i H1 H2 v, KT H1 H2 → R i H1 v → R i H2 v) ∧
  (∀ (i : Nat) (u : V), xs[i]? = some u → (∃ p ∈ ps, u = .str p.nm ∧ cn[i]? = some 1 ∧ ∀ H1, R i H1 u) ∨ ∃ (a b : Addr) (m : Int) (ys : List V) (c : Nat), u = .ref a ∧ Seq2 H a [.int m, .ref b] ∧ Seq2 H b ys ∧ 2 ≤ m ∧ 1 ≤ ys.length ∧ ys.length ≤ 1000 ∧ cn[i]? = some (1 + c) ∧
    ∀ H1 it2 (k : Int) Q1 E1, Same H H1 → H1 it2 = some (.tup ys) → (∀ H2 r j, Same H1 H2 → H2 r = some (.tup [.ref j, .int (k + (c : Nat))]) → (∀ H3 v, KT H2 H3 → H3 v = some (.tup [.int m, .ref j]) → R i H3 (.ref v)) → Q1 (.ref r) H2) → sp [.ref x, .ref it2, .int k, .int (dep + 1)] H1 Q1 E1) ∧
  ∀ H' r j ys, Same H H' → H' r = some (.tup [.ref j, .int (n + (cn.sum : Nat))]) → H' j = some (.tup ys) → ys.length = xs.length → (∀ i v, ys[i]? = some v → R i H' v) → Q (.ref r) H'
section
variable {P : Program} {w : World} {K : PySem.W.Frag} {mg : Str → Option Value} {base : Heap} {CR CP fP : Addr}
theorem ok_judge_at {f : Addr} {fd : FuncData} (F : Fun K "judged_items" "judged_items" s_judged_items f fd) (TP : PlC K mg CP fP) (C : OwnC P w K mg base CP CR) (m_tuple : mg "tuple" = none) {t : Tok} (g_MOST_DEEP : mg "MOST_DEEP" = some (.int 5 t))
    (c_repeat_of : Cal P w K mg base 3 "repeat_of" spRepOf) {k : Nat} (hk : 3 ≤ k) {sp : Sp} (c_judged_items : Cal P w K mg base k "judged_items" sp) : FnOk P w K mg base CX0 (k + 1) f fd ["plan", "items", "number", "depth"] (spJdN CP CR sp) := by
  obtain ⟨fC, fdC, OC, hs, hf, hb⟩ := C.ex
  refine F.ok sc_judged_items (fun vs H Q E h => ?_) (fun cdv A outer s H vs Q E hr h => ?_)
  · obtain ⟨x, it, n, dep, len, L, ps, as, ss, es, xs, cn, R, rfl, _⟩ := h
    rfl
  · obtain ⟨x, it, n, dep, len, L, ps, as, ss, es, xs, cn, R, rfl, hP, hit, hlen, h1000, hdep, hkt, hsub, q⟩ := h
    obtain ⟨dx, xr, pt, nt, at', st, et, dP, dF, dS, dB, dT, dQ, hx, _⟩ := id hP
    refine ⟨_, (pss_cons (ps_set (i := 4) sc_judged_items.nd rfl (Or.inl rfl) (pe_lst pa_nil))
    (pss_cons (ps_for PassesOwn.never rfl (pi_tup (pv 1)) (pg_name (i := 5) sc_judged_items.nd rfl (Or.inl rfl))
    (pss_cons (ps_set (i := 6) sc_judged_items.nd rfl (Or.inl rfl) (pe_c c_repeat_of hr (by omega) rfl (pa_cons (pv 5) pa_nil)))
    (pss_cons (ps_if (PW.pt (pw_or (pt_cmpR op_gt (pv 3) (pe_glob (v := .int 5) rfl g_MOST_DEEP ⟨_, rfl⟩) (nomark _)) (pw_or1 (PW.pt (pw_and (pt_cmpR op_isN (pv 6) (pe_non) (nomark _)) (pw_and1 (pt_cmpR (op_ownNotIn OC hr (by omega) hs hf hb) (pv 5) (pv 0) rfl)))))))
    (pss_one ps_never)
    pss_nil)
    (pss_cons (ps_aug (i := 2) sc_judged_items.nd rfl (Or.inl rfl) (pe_int) ip_add)
    (pss_one (ps_if (pt_cmpR op_isN (pv 6) (pe_non) (nomark _))
    (pss_one (ps_expr (pe_bm PySem.F.plainAttrs_list PySem.F.slot_list_append PySem.F.type_list_append mt_append (pv 4) (pa_cons (pv 5) pa_nil))))
    (pss_cons (ps_asg (pe_c c_judged_items hr (by omega) rfl (pa_cons (pv 0) (pa_cons (pe_ix (show IxR _ (rIxT K) from ix_tup) (pv 6) (pe_int) (fun _ _ => rfl)) (pa_cons (pv 2) (pa_cons (pe_op op_add (pv 3) (pe_int)) pa_nil))))) (pg_tup rfl (pgs_cons (pg_name (i := 7) sc_judged_items.nd rfl (Or.inl rfl)) (pgs_cons (pg_name (i := 2) sc_judged_items.nd rfl (Or.inl rfl)) pgs_nil))))
    (pss_one (ps_expr (pe_bm PySem.F.plainAttrs_list PySem.F.slot_list_append PySem.F.type_list_append mt_append (pv 4) (pa_cons (pe_tup (pa_cons (pe_ix (show IxR _ (rIxT K) from ix_tup) (pv 6) (pe_int) (fun _ _ => rfl)) (pa_cons (pv 7) pa_nil))) pa_nil)))))))))))
    (pss_one (ps_ret (pe_tup (pa_cons (pe_callTy call_tuple_of (by rfl) m_tuple (by decide +kernel) (pa_cons (pv 4) pa_nil)) (pa_cons (pv 2) pa_nil))))))), ?_⟩
    refine ⟨(by show 0 ≤ sizeLine; decide), fun J hJ => ?_⟩
    refine ⟨_, rfl, it, rfl, ⟨_, SqT.of (same_new hJ _ _ hit)⟩, ?_⟩
    refine for_tup (a := it) (xs := xs) (fun i σ' H' => ∃ (u5 u6 u7 : Option V) (ys : List V), σ' = [some (.ref x), some (.ref it), some (.int (n + ((cn.take i).sum : Nat))), some (.int dep), some (.ref J), u5, u6, u7] ∧ Same H H' ∧ H' J = some (.lst ys) ∧ ys.length = i ∧ ∀ j v, ys[j]? = some v → R j H' v) ?_ ?_ ?_ ?_
    · refine ⟨none, none, none, [], ?_, same_new hJ, upd_same, rfl, fun _ _ h => nomatch h⟩
      rw [show ((cn.take 0).sum : Nat) = 0 from rfl]
      rw [show n + ((0 : Nat) : Int) = n from Int.add_zero n]
      rfl
    · rintro i σ' H' _ ⟨u5, u6, u7, ys, _, sH, _⟩
      exact SqT.of (sH _ _ hit)
    · rintro i u σ' H' hi ⟨u5, u6, u7, ys, rfl, sH, hd, hm, hR⟩
      rcases hsub i u hi with ⟨p, hp, rfl, hc, hRi⟩ | ⟨a, b, m, zs, c, rfl, ha, hb2, hm2, hz1, hz2, hc, hcall⟩
      · refine ⟨_, rfl, .str p.nm, rfl, .inl ⟨p.nm, rfl, fun H1 s1 => ?_⟩⟩
        refine ⟨_, rfl, _, _, rfl, rfl, _, rfl, ?_⟩
        rw [show decide (5 < dep) = false from decide_eq_false (by omega)]
        refine ite2 (fun e => absurd e (by decide)) (fun _ => ?_)
        have sA : Same H H1 := fun b' o h => s1 _ _ (sH _ _ h)
        refine ⟨_, rfl, rfl, _, rfl, ?_⟩
        refine ⟨_, rfl, _, rfl, x, dx, _, rfl, sA _ _ hx, x, .str p.nm, len, L, ps, as, ss, es, rfl, hP.keep sA, .inl trivial, _, rfl, _, rfl, ?_⟩
        rw [show hasV (ps.map (·.nm)) (.str p.nm) = true from decide_eq_true (List.mem_map.mpr ⟨p, hp, rfl⟩)]
        refine ite2 (fun e => absurd e (by decide)) (fun _ => ?_)
        have hd1 : H1 J = some (.lst ys) := s1 _ _ hd
        have hi' : i < xs.length := (List.getElem?_eq_some_iff.mp hi).1
        refine ⟨_, rfl, _, _, rfl, rfl, ?_⟩
        refine ⟨_, rfl, rfl, _, rfl, ?_⟩
        refine ⟨_, rfl, .inl ⟨rfl, _, SqL.of hd1⟩, _, rfl, J, ys, _, rfl, rfl, hd1, small_line (by omega), ?_⟩
        refine ⟨some (.str p.nm), some .non, u7, ys ++ [V.str p.nm], ?_, fun b' o h => ?_, upd_same, by rw [List.length_append, hm]; rfl, fun j v hv => ?_⟩
        · rw [List.take_add_one, hc, List.sum_append]
          show _ = ([some (.ref x), some (.ref it), some (.int (n + (((cn.take i).sum + 1 : Nat) : Int))), some (.int dep), some (.ref J), some (.str p.nm), some .non, u7] : List (Option V))
          rw [show n + (((cn.take i).sum + 1 : Nat) : Int) = n + ((cn.take i).sum : Nat) + 1 by omega]
          rfl
        · rw [upd_ne (ne_of_none h hJ)]
          exact sA _ _ h
        · have hk1 : KT H1 (upd H1 J (.lst (ys ++ [V.str p.nm]))) := (KT.refl _).over hd1
          by_cases hj : j < ys.length
          · rw [List.getElem?_append_left hj] at hv
            exact hkt _ _ _ _ (fun a l h => hk1 _ _ (s1 _ _ h)) (hR j v hv)
          · rw [List.getElem?_append_right (by omega)] at hv
            have ej : j = i := by
              have := (List.getElem?_eq_some_iff.mp hv).1
              rw [List.length_singleton] at this
              omega
            subst ej
            rw [hm, Nat.sub_self] at hv
            cases hv
            exact hRi _
      · refine ⟨_, rfl, .ref a, rfl, .inr ⟨a, b, m, zs, rfl, ha.keep sH, hb2.keep sH, hm2, hz1, hz2, fun H1 r c2 s1 hr1 hc2 => ?_⟩⟩
        have sA : Same H H1 := fun b' o h => s1 _ _ (sH _ _ h)
        have hd1 : H1 J = some (.lst ys) := s1 _ _ hd
        have hi' : i < xs.length := (List.getElem?_eq_some_iff.mp hi).1
        refine ⟨_, rfl, _, _, rfl, rfl, _, rfl, ?_⟩
        rw [show decide (5 < dep) = false from decide_eq_false (by omega)]
        refine ite2 (fun e => absurd e (by decide)) (fun _ => ?_)
        refine ⟨_, rfl, rfl, _, rfl, ?_⟩
        have nn : decide (V.ref r = V.non) = false := decide_eq_false fun e => nomatch e
        rw [nn]
        refine ite2 (fun e => absurd e (by decide)) (fun _ => ?_)
        refine ite2 (fun e => absurd e (by decide)) (fun _ => ?_)
        refine ⟨_, rfl, _, _, rfl, rfl, ?_⟩
        refine ⟨_, rfl, rfl, _, rfl, ?_⟩
        rw [nn]
        refine ite2 (fun e => absurd e (by decide)) (fun _ => ?_)
        refine ⟨_, rfl, _, rfl, r, _, _, _, rfl, rfl, SqT.of hr1, rfl, _, rfl, _, rfl, _, _, rfl, rfl, ?_⟩
        refine hcall H1 c2 _ _ _ sA hc2 fun H2 r2 j s2 hr2 hRj => ?_
        refine ⟨r2, _, rfl, SqT.of hr2, rfl, _, _, rfl, _, _, rfl, rfl, ?_⟩
        have hd2 : H2 J = some (.lst ys) := s2 _ _ hd1
        refine ⟨_, rfl, .inl ⟨rfl, _, SqL.of hd2⟩, _, rfl, r, _, _, _, rfl, rfl, SqT.of (s2 _ _ hr1), rfl, _, rfl, (by show 2 ≤ sizeLine; decide), fun T hT => ?_⟩
        have sT := same_new (o := HO.tup [V.int m, V.ref j]) hT
        have hd3 := sT _ _ hd2
        refine ⟨J, ys, _, rfl, rfl, hd3, small_line (by omega), ?_⟩
        refine ⟨some (.ref a), some (.ref r), some (.ref j), ys ++ [V.ref T], ?_, fun b' o h => ?_, upd_same, by rw [List.length_append, hm]; rfl, fun i2 v hv => ?_⟩
        · rw [List.take_add_one, hc, List.sum_append]
          show _ = ([some (.ref x), some (.ref it), some (.int (n + (((cn.take i).sum + (1 + c) : Nat) : Int))), some (.int dep), some (.ref J), some (.ref a), some (.ref r), some (.ref j)] : List (Option V))
          rw [show n + (((cn.take i).sum + (1 + c) : Nat) : Int) = n + ((cn.take i).sum : Nat) + 1 + (c : Nat) by omega]
          rfl
        · rw [upd_ne (ne_of_none h hJ)]
          exact sT _ _ (s2 _ _ (sA _ _ h))
        · have hk3 : KT (upd H2 T (HO.tup [V.int m, V.ref j])) (upd (upd H2 T (HO.tup [V.int m, V.ref j])) J (.lst (ys ++ [V.ref T]))) := (KT.refl _).over hd3
          by_cases hj : i2 < ys.length
          · rw [List.getElem?_append_left hj] at hv
            exact hkt _ _ _ _ (fun a l h => hk3 _ _ (sT _ _ (s2 _ _ (s1 _ _ h)))) (hR i2 v hv)
          · rw [List.getElem?_append_right (by omega)] at hv
            have ej : i2 = i := by
              have := (List.getElem?_eq_some_iff.mp hv).1
              rw [List.length_singleton] at this
              omega
            subst ej
            rw [hm, Nat.sub_self] at hv
            cases hv
            exact hRj _ T (fun a l h => hk3 _ _ (sT _ _ h)) (hk3 _ _ upd_same)
    · rintro σ' H' ⟨u5, u6, u7, ys, rfl, sH, hd, hm, hR⟩
      refine ⟨_, rfl, J, _, rfl, .inl ⟨SqL.of hd, fun j hj => ?_⟩⟩
      refine ⟨_, rfl, (by show 2 ≤ sizeLine; decide), fun r hr0 => ?_⟩
      have s1 := same_new (o := HO.tup ys) hj
      have s2 := same_new (o := HO.tup [V.ref j, V.int (n + ((cn.take xs.length).sum : Nat))]) hr0
      refine q _ r j ys (fun b o h => s2 _ _ (s1 _ _ (sH _ _ h))) ?_ (s2 _ _ upd_same) hm (fun i v hv => hkt i _ _ v (fun a l h => s2 _ _ (s1 _ _ h)) (hR i v hv))
      rw [upd_same, hlen, List.take_length]
end
end Sea
namespace Sea
open PySem PySem.Spec PyProof.Rows L2
/-! judged_items of good items at every depth -/
def spJudge (CP CR : Addr) (d : Nat) : Sp := fun vs H Q _ => ∃ (x it : Addr) (n dep : Int) (len : Int) (L : List (Addr × Cue)) (ps : List Piece) (as : List (Str × Str)) (ss es : List Str) (M : List (V × It d)),
  vs = [.ref x, .ref it, .int n, .int dep] ∧ PlanAt H CR CP x len L ps as ss es ∧ H it = some (.tup (M.map (·.1))) ∧ M.length ≤ 1000 ∧ dep + (d : Nat) ≤ 5 ∧ (∀ e ∈ M, ItW d H e.1 e.2) ∧ (∀ e ∈ M, ItIn ps d e.2) ∧
  ∀ H' r j ys, Same H H' → H' r = some (.tup [.ref j, .int (n + ((M.map fun (e : V × It d) => cntI d e.2).sum : Nat))]) → H' j = some (.tup ys) → ys.length = M.length → (∀ (i : Nat) (v : V) (e : V × It d), ys[i]? = some v → M[i]? = some e → ItV d H' v e.2) → Q (.ref r) H'
theorem jd_any {CP CR : Addr} {sp : Sp} {d : Nat} {vs : List V} {H : Hp} {Q : VK} {E : XK} (h : spJudge CP CR d vs H Q E)
    (one : ∀ (x : Addr) (dep : Int) (len : Int) (L : List (Addr × Cue)) (ps : List Piece) (as : List (Str × Str)) (ss es : List Str) (v : V) (i : It d), PlanAt H CR CP x len L ps as ss es → dep + (d : Nat) ≤ 5 → ItW d H v i → ItIn ps d i → (∃ p ∈ ps, v = .str p.nm ∧ cntI d i = 1 ∧ ∀ H1, ItV d H1 v i) ∨ ∃ (a b : Addr) (m : Int) (ys : List V) (c : Nat), v = .ref a ∧ Seq2 H a [.int m, .ref b] ∧ Seq2 H b ys ∧ 2 ≤ m ∧ 1 ≤ ys.length ∧ ys.length ≤ 1000 ∧ cntI d i = 1 + c ∧
      ∀ H1 it2 (k : Int) Q1 E1, Same H H1 → H1 it2 = some (.tup ys) → (∀ H2 r j, Same H1 H2 → H2 r = some (.tup [.ref j, .int (k + (c : Nat))]) → (∀ H3 v, KT H2 H3 → H3 v = some (.tup [.int m, .ref j]) → ItV d H3 (.ref v) i) → Q1 (.ref r) H2) → sp [.ref x, .ref it2, .int k, .int (dep + 1)] H1 Q1 E1) : spJdN CP CR sp vs H Q E := by
  obtain ⟨x, it, n, dep, len, L, ps, as, ss, es, M, rfl, hP, hit, h1000, hdep, hW, hI, q⟩ := h
  refine ⟨x, it, n, dep, len, L, ps, as, ss, es, M.map (·.1), M.map fun e => cntI d e.2, fun i H v => ∃ e, M[i]? = some e ∧ ItV d H v e.2, rfl, hP, hit, by rw [List.length_map, List.length_map], by rw [List.length_map]; exact h1000, by omega, ?_, ?_, ?_⟩
  · rintro i H1 H2 v k ⟨e, he, h⟩
    exact ⟨e, he, h.kt k d _ _⟩
  · intro i u hu
    rw [List.getElem?_map] at hu
    cases hi : M[i]? with
    | none => rw [hi] at hu; cases hu
    | some e =>
      rw [hi] at hu
      cases hu
      have hm := List.mem_of_getElem? hi
      have hc : (M.map fun e => cntI d e.2)[i]? = some (cntI d e.2) := by rw [List.getElem?_map, hi]; rfl
      rcases one x dep len L ps as ss es e.1 e.2 hP hdep (hW e hm) (hI e hm) with ⟨p, hp, h1, h2, h3⟩ | ⟨a, b, m, ys, c, h1, h2, h3, h4, h5, h6, h7, h8⟩
      · exact .inl ⟨p, hp, h1, by rw [hc, h2], fun H1 => ⟨e, hi, h3 H1⟩⟩
      · refine .inr ⟨a, b, m, ys, c, h1, h2, h3, h4, h5, h6, by rw [hc, h7], fun H1 it2 k Q1 E1 s1 ht q1 => h8 H1 it2 k Q1 E1 s1 ht fun H2 r j s2 hr hv => q1 H2 r j s2 hr fun H3 v k3 hv3 => ⟨e, hi, hv H3 v k3 hv3⟩⟩
  · intro H' r j ys s1 hr hj hl hR
    rw [List.length_map] at hl
    refine q H' r j ys s1 hr hj hl fun i v e hv he => ?_
    obtain ⟨e', he', h⟩ := hR i v hv
    rw [he] at he'
    cases he'
    exact h
theorem jd_zero {CP CR : Addr} {sp : Sp} {vs : List V} {H : Hp} {Q : VK} {E : XK} (h : spJudge CP CR 0 vs H Q E) : spJdN CP CR sp vs H Q E :=
  jd_any h fun x dep len L ps as ss es v i hP hd hw hi => .inl ⟨i, hi, hw, rfl, fun _ => hw⟩
theorem jd_succ {CP CR : Addr} {d : Nat} {vs : List V} {H : Hp} {Q : VK} {E : XK} (h : spJudge CP CR (d + 1) vs H Q E) : spJdN CP CR (spJudge CP CR d) vs H Q E := by
  refine jd_any h fun x dep len L ps as ss es v i hP hd hw hi => ?_
  match i, hw, hi with
  | .inl p, hw, hi => exact .inl ⟨p, hi, hw, rfl, fun _ => hw⟩
  | .inr (m, l), ⟨a, b, M, h1, h2, h3, h4, h5, h6, h7, h8⟩, ⟨o1, o2, o3, o4⟩ =>
    refine .inr ⟨a, b, m, M.map (·.1), (l.map (cntI d)).sum, h1, h2, h3, h5, by rw [List.length_map]; exact h6, by rw [List.length_map]; exact h7, rfl, fun H1 it2 k Q1 E1 s1 ht q1 => ?_⟩
    refine ⟨x, it2, k, dep + 1, len, L, ps, as, ss, es, M, rfl, hP.keep s1, ht, h7, by omega, fun e he => (h8 e he).keep s1 d _ _, fun e he => o4 _ (by rw [h4]; exact List.mem_map_of_mem he), fun H2 r j ys s2 hr hj hl hv => ?_⟩
    refine q1 H2 r j s2 ?_ fun H3 v3 k3 h33 => ?_
    · rw [hr, h4, List.map_map]
      all_goals rfl
    · refine ⟨v3, j, ys.zip (M.map (·.2)), rfl, h33, ?_, ?_, fun e he => ?_⟩
      · rw [List.map_fst_zip (by rw [List.length_map]; omega)]
        exact k3 _ _ hj
      · rw [List.map_snd_zip (by rw [List.length_map]; omega)]
        exact h4
      · obtain ⟨i, hi2⟩ := List.getElem?_of_mem he
        obtain ⟨g1, g2⟩ := List.getElem?_zip_eq_some.mp hi2
        rw [List.getElem?_map] at g2
        cases hM : M[i]? with
        | none => rw [hM] at g2; cases g2
        | some e' =>
          rw [hM] at g2
          have e2 : e'.2 = e.2 := Option.some.inj g2
          have := hv i _ e' g1 hM
          rw [e2] at this
          exact this.kt k3 d _ _
section
variable {P : Program} {w : World} {K : PySem.W.Frag} {mg : Str → Option Value} {base : Heap} {CR CP fP : Addr}
theorem ok_judge {f : Addr} {fd : FuncData} (F : Fun K "judged_items" "judged_items" s_judged_items f fd) (TP : PlC K mg CP fP) (C : OwnC P w K mg base CP CR) (m_tuple : mg "tuple" = none) {t : Tok} (g_MOST_DEEP : mg "MOST_DEEP" = some (.int 5 t))
    (g : mg "judged_items" = some (.ref f)) (kp : PySem.W.keepIn K (.ref f) = true) (b : Binds K fd ["plan", "items", "number", "depth"] [])
    (c_repeat_of : Cal P w K mg base 3 "repeat_of" spRepOf) : ∀ d : Nat, FnOk P w K mg base CX0 (4 + d) f fd ["plan", "items", "number", "depth"] (spJudge CP CR d)
  | 0 => by
    have f0 : FnOk P w K mg base CX0 3 f fd ["plan", "items", "number", "depth"] (fun _ _ _ _ => False) := F.ok sc_judged_items (fun _ _ _ _ h => h.elim) (fun _ _ _ _ _ _ _ _ _ h => h.elim)
    exact (ok_judge_at F TP C m_tuple g_MOST_DEEP c_repeat_of (Nat.le_refl 3) ⟨f, fd, _, f0, g, kp, b⟩).imp fun vs H Q E h => jd_zero h
  | d + 1 => by
    have h := ok_judge F TP C m_tuple g_MOST_DEEP g kp b c_repeat_of d
    exact (ok_judge_at F TP C m_tuple g_MOST_DEEP c_repeat_of (by omega) ⟨f, fd, _, h, g, kp, b⟩).imp fun vs H Q E h => jd_succ h
end
end Sea
namespace Sea
open PySem PySem.Spec PyProof.Rows L2
/-! judged_roll of good items -/
/-- what is counted of rows of items -/
def cntL (d : Nat) (l : List (It d)) : Nat := (l.map (cntI d)).sum
def PW5 (H : Hp) (ys : List V) (l : List (It 5)) : Prop := Paired (ItV 5 H) ys l
theorem paired_of {α β : Type} {R : α → β → Prop} : ∀ {l : List α} {r : List β}, l.length = r.length → (∀ (i : Nat) (u : α) (v : β), l[i]? = some u → r[i]? = some v → R u v) → Paired R l r
  | [], [], _, _ => .nil
  | a :: l, b :: r, h, q => .cons (q 0 a b rfl rfl) (paired_of (by simpa using h) fun i u v h1 h2 => q (i + 1) u v h1 h2)
theorem paired_at {α β : Type} {R : α → β → Prop} : ∀ {l : List α} {r : List β}, Paired R l r → ∀ {i : Nat} {u : α} {v : β}, l[i]? = some u → r[i]? = some v → R u v
  | _, _, .cons h _, 0, _, _, h1, h2 => by cases h1; cases h2; exact h
  | _, _, .cons _ t, _ + 1, _, _, h1, h2 => paired_at t h1 h2
theorem paired_ln {α β : Type} {R : α → β → Prop} : ∀ {l : List α} {r : List β}, Paired R l r → l.length = r.length
  | _, _, .nil => rfl
  | _, _, .cons _ t => congrArg (· + 1) (paired_ln t)
def spJRoll (CP CR : Addr) : Sp := fun vs H Q _ => ∃ (x a : Addr) (len : Int) (L : List (Addr × Cue)) (ps : List Piece) (as : List (Str × Str)) (ss es : List Str) (M : List (V × It 5)), vs = [.ref x, .ref a] ∧ PlanAt H CR CP x len L ps as ss es ∧
  Seq2 H a (M.map (·.1)) ∧ 1 ≤ M.length ∧ (∀ e ∈ M, ItW 5 H e.1 e.2) ∧ (∀ e ∈ M, ItIn ps 5 e.2) ∧ cntL 5 (M.map (·.2)) ≤ 60 ∧
  ∀ H' j ys, Same H H' → H' j = some (.tup ys) → PW5 H' ys (M.map (·.2)) → Q (.ref j) H'
theorem cnt_len {d : Nat} : ∀ l : List (It d), l.length ≤ cntL d l
  | [] => Nat.zero_le _
  | i :: r => by
    have h1 := cntI_pos d i
    have h2 := cnt_len r
    show r.length + 1 ≤ (cntI d i) + (r.map (cntI d)).sum
    unfold cntL at h2
    omega
section
variable {P : Program} {w : World} {K : PySem.W.Frag} {mg : Str → Option Value} {base : Heap} {CR CP fP : Addr}
theorem ok_jroll {f : Addr} {fd : FuncData} (F : Fun K "judged_roll" "judged_roll" s_judged_roll f fd) {t : Tok} (g_MOST_ITEMS : mg "MOST_ITEMS" = some (.int 60 t))
    (c_items_of : Cal P w K mg base 1 "items_of" (spItemsA K)) (c_judged_items : Cal P w K mg base 9 "judged_items" (spJudge CP CR 5)) : FnOk P w K mg base CX0 10 f fd ["plan", "written"] (spJRoll CP CR) := by
  refine F.ok sc_judged_roll (fun vs H Q E h => ?_) (fun cdv A outer s H vs Q E hr h => ?_)
  · obtain ⟨x, a, len, L, ps, as, ss, es, M, rfl, _⟩ := h
    rfl
  · obtain ⟨x, a, len, L, ps, as, ss, es, M, rfl, hP, ha, h1, hW, hI, h60, q⟩ := h
    refine ⟨_, (pss_cons (ps_set (i := 2) sc_judged_roll.nd rfl (Or.inl rfl) (pe_c c_items_of hr (by decide) rfl (pa_cons (pv 1) pa_nil)))
    (pss_cons (ps_if (pt_not (pt_truth (pv 2) (by intro _; rfl)))
    (pss_one ps_never)
    pss_nil)
    (pss_cons (ps_asg (pe_c c_judged_items hr (by decide) rfl (pa_cons (pv 0) (pa_cons (pv 2) (pa_cons (pe_int) (pa_cons (pe_int) pa_nil))))) (pg_tup rfl (pgs_cons (pg_name (i := 3) sc_judged_roll.nd rfl (Or.inl rfl)) (pgs_cons (pg_name (i := 4) sc_judged_roll.nd rfl (Or.inl rfl)) pgs_nil))))
    (pss_cons (ps_if (pt_cmpR op_gt (pv 4) (pe_glob (v := .int 60) rfl g_MOST_ITEMS ⟨_, rfl⟩) (nomark _))
    (pss_one ps_never)
    pss_nil)
    (pss_one (ps_ret (pv 3))))))), ?_⟩
    refine ⟨_, rfl, .ref a, rfl, .inr (.inr ⟨a, _, rfl, ha, fun H1 t s1 ht => ?_⟩)⟩
    refine ⟨_, rfl, true, ?_, ?_⟩
    · refine .inr (.inl ⟨_, SqT.of ht, ?_⟩)
      cases M with
      | nil => exact absurd h1 (by decide)
      | cons y r => rfl
    · have hc : (M.map fun (e : V × It 5) => cntI 5 e.2).sum ≤ 60 := by
        have := h60
        unfold cntL at this
        rw [List.map_map] at this
        exact this
      have hl : M.length ≤ 60 := by
        have := cnt_len (M.map (·.2))
        rw [List.length_map] at this
        omega
      refine ⟨_, rfl, _, rfl, x, t, 0, 0, len, L, ps, as, ss, es, M, rfl, hP.keep s1, ht, by omega, by decide, fun e he => (hW e he).keep s1 5 _ _, hI, fun H2 r j ys s2 hr2 hj hl2 hv => ?_⟩
      refine ⟨r, _, rfl, SqT.of hr2, rfl, _, _, rfl, _, _, rfl, rfl, ?_⟩
      refine ⟨_, rfl, _, _, rfl, rfl, _, rfl, ?_⟩
      rw [show decide ((60 : Int) < 0 + ((M.map fun (e : V × It 5) => cntI 5 e.2).sum : Nat)) = false from decide_eq_false (by omega)]
      refine ite2 (fun e => absurd e (by decide)) (fun _ => ?_)
      refine ⟨_, rfl, q _ j ys (fun b' o h => s2 _ _ (s1 _ _ h)) hj (paired_of (by rw [List.length_map, hl2]) fun i u v h1 h2 => ?_)⟩
      rw [List.getElem?_map] at h2
      cases hM : M[i]? with
      | none => rw [hM] at h2; cases h2
      | some e =>
        rw [hM] at h2
        cases h2
        exact hv i u e h1 hM
end
end Sea
namespace Sea
open PySem PySem.Spec PyProof.Rows L2
/-! Roll.__init__ -/
def roF (v1 v2 v3 v4 : V) : List (Str × V) := putF "_whole" v4 (putF "_parts" v3 (putF "written" v2 (putF "plan" v1 [])))
section
variable (v1 v2 v3 v4 : V)
theorem ro_plan : (roF v1 v2 v3 v4).lookup ("plan" : Str) = some v1 := by unfold roF; (repeat first | rw [lookup_putF, if_neg (by decide +kernel)] | rw [lookup_putF, if_pos rfl])
theorem ro_written : (roF v1 v2 v3 v4).lookup ("written" : Str) = some v2 := by unfold roF; (repeat first | rw [lookup_putF, if_neg (by decide +kernel)] | rw [lookup_putF, if_pos rfl])
theorem ro2_written : (putF "written" v2 (putF "plan" v1 [])).lookup ("written" : Str) = some v2 := by (repeat first | rw [lookup_putF, if_neg (by decide +kernel)] | rw [lookup_putF, if_pos rfl])
theorem ro3_parts : (putF "_parts" v3 (putF "written" v2 (putF "plan" v1 []))).lookup ("_parts" : Str) = some v3 := by (repeat first | rw [lookup_putF, if_neg (by decide +kernel)] | rw [lookup_putF, if_pos rfl])
end
structure RoC (K : PySem.W.Frag) (mg : Str → Option Value) (CRo fI : Addr) : Prop where
  cl : Cls K CRo
  made : Mk K CRo fI
  g : mg "Roll" = some (.ref CRo)
  n_plan : NoAttr K CRo "plan"
  n_written : NoAttr K CRo "written"
  n_parts : NoAttr K CRo "_parts"
  n_whole : NoAttr K CRo "_whole"
section
variable {ps : List Piece} {as : List (Str × Str)} {cs : List Cue} {CS CT CRo x dx : Addr} {B : Addr → Prop} {H : Hp} {fs : List (Str × V)} {o : HO}
theorem StrAt.ovI {a : Addr} {s : Sx} (hc : CRo ≠ CS) (hx : H x = some (.ins CRo dx fs)) (h : StrAt H CS a s) : StrAt (upd H x o) CS a s := by
  obtain ⟨d, h⟩ := h
  refine ⟨d, ?_⟩
  rw [upd_ne fun e => by rw [e, hx] at h; exact hc (by cases h; rfl)]
  exact h
theorem PtName.ovI {y : Addr} {z : Str} {s : Sx} (hc : CRo ≠ CS) (ht : CRo ≠ CT) (hx : H x = some (.ins CRo dx fs)) (h : PtName B H CS CT y z s) : PtName B (upd H x o) CS CT y z s := by
  obtain ⟨d, la, sa, h0, h1, h2, h3⟩ := h
  refine ⟨d, la, sa, h0, ?_, ?_, h3.ovI hc hx⟩
  · rw [upd_ne fun e => by rw [e, hx] at h1; exact ht (by cases h1; rfl)]
    exact h1
  · rw [upd_ne fun e => by rw [e, hx] at h2; cases h2]
    exact h2
theorem PtRep.ovI {y : Addr} {n : Int} {E : List Addr} {b s : Sx} (hc : CRo ≠ CS) (ht : CRo ≠ CT) (hx : H x = some (.ins CRo dx fs)) (h : PtRep B H CS CT y n E b s) : PtRep B (upd H x o) CS CT y n E b s := by
  obtain ⟨d, la, ba, wa, h0, h1, h2, h3, h4⟩ := h
  refine ⟨d, la, ba, wa, h0, ?_, ?_, h3.ovI hc hx, h4.ovI hc hx⟩
  · rw [upd_ne fun e => by rw [e, hx] at h1; exact ht (by cases h1; rfl)]
    exact h1
  · rw [upd_ne fun e => by rw [e, hx] at h2; cases h2]
    exact h2
theorem PartAt.ovI (hc : CRo ≠ CS) (ht : CRo ≠ CT) (hx : H x = some (.ins CRo dx fs)) : ∀ (d : Nat) (y : Addr) (i : It d), PartAt ps as cs CS CT d B H y i → PartAt ps as cs CS CT d B (upd H x o) y i
  | 0, _, _, h => PtName.ovI hc ht hx h
  | _ + 1, _, .inl _, h => PtName.ovI hc ht hx h
  | d + 1, _, .inr (_, _), ⟨E, h1, h2, h3⟩ => ⟨E, h1.ovI hc ht hx, h2, fun e he => PartAt.ovI hc ht hx d _ _ (h3 e he)⟩
end
abbrev NoB : Addr → Prop := fun _ => False
/-- a roll as an object -/
def RollAt (CR CP CS CT CRo : Addr) (H : Hp) (x xp : Addr) (len : Int) (L : List (Addr × Cue)) (ps : List Piece) (as : List (Str × Str)) (ss es : List Str) (M : List (It 5)) : Prop :=
  ∃ (dx wt pt wa : Addr) (ys : List V) (E : List Addr), H x = some (.ins CRo dx (roF (.ref xp) (.ref wt) (.ref pt) (.ref wa))) ∧ PlanAt H CR CP xp len L ps as ss es ∧ H wt = some (.tup ys) ∧ PW5 H ys M ∧
    H pt = some (.lst (E.map V.ref)) ∧ Paired (PartAt ps as (cuesC L) CS CT 5 NoB H) E M ∧ StrAt H CS wa (sumL as (M.map (sxOf ps as (cuesC L) 5)))
theorem PW5.keep {H H' : Hp} {ys : List V} {l : List (It 5)} (h : PW5 H ys l) (s : Same H H') : PW5 H' ys l := paired_imp (fun _ _ q => q.keep s 5 _ _) h
theorem PW5.kt {H H' : Hp} {ys : List V} {l : List (It 5)} (h : PW5 H ys l) (s : KT H H') : PW5 H' ys l := paired_imp (fun _ _ q => q.kt s 5 _ _) h
theorem RollAt.keep {CR CP CS CT CRo x xp : Addr} {H H' : Hp} {len : Int} {L : List (Addr × Cue)} {ps : List Piece} {as : List (Str × Str)} {ss es : List Str} {M : List (It 5)} (h : RollAt CR CP CS CT CRo H x xp len L ps as ss es M) (s : Same H H') : RollAt CR CP CS CT CRo H' x xp len L ps as ss es M := by
  obtain ⟨dx, wt, pt, wa, ys, E, h1, h2, h3, h4, h5, h6, h7⟩ := h
  exact ⟨dx, wt, pt, wa, ys, E, s _ _ h1, h2.keep s, s _ _ h3, h4.keep s, s _ _ h5, paired_imp (fun _ _ q => q.keep s 5 _ _) h6, h7.keep s⟩
def spRollI (CR CP CS CT CRo : Addr) : Sp := fun vs H Q _ => ∃ (x dx xp a : Addr) (len : Int) (L : List (Addr × Cue)) (ps : List Piece) (as : List (Str × Str)) (ss es : List Str) (M : List (V × It 5)), vs = [.ref x, .ref xp, .ref a] ∧ H x = some (.ins CRo dx []) ∧ PlanAt (rest x H) CR CP xp len L ps as ss es ∧
  len ≤ 2000 ∧ L.length ≤ 100000 ∧ Seq2 (rest x H) a (M.map (·.1)) ∧ 1 ≤ M.length ∧ (∀ e ∈ M, ItW 5 (rest x H) e.1 e.2) ∧ (∀ e ∈ M, ItIn ps 5 e.2) ∧ cntL 5 (M.map (·.2)) ≤ 60 ∧
  ∀ H', KB x H H' → RollAt CR CP CS CT CRo H' x xp len L ps as ss es (M.map (·.2)) → Q .non H'
theorem kt_ins {H H' : Hp} {x C dx : Addr} {fs : List (Str × V)} {o : HO} (hx : H x = some (.ins C dx fs)) (e : upd H x o = H') : KT H H' := fun a xs h => by
  subst e
  rw [upd_ne fun e => by rw [e, hx] at h; cases h]
  exact h
section
variable {P : Program} {w : World} {K : PySem.W.Frag} {mg : Str → Option Value} {base : Heap} {CR CP CS CT CRo fI : Addr}
theorem ok_rollI {f : Addr} {fd : FuncData} (F : Fun K "__init__" "Roll.__init__" s_Roll___init__ f fd) (T : RoC K mg CRo fI) (nS : CRo ≠ CS) (nT : CRo ≠ CT)
    (c_judged_roll : Cal P w K mg base 10 "judged_roll" (spJRoll CP CR)) (c_part_of : Cal P w K mg base 10 "part_of" (spPart CP CR CS CT 5)) (c_all_of : Cal P w K mg base 4 "all_of" (spAll CP CR CS CT)) : FnOk P w K mg base CX0 11 f fd ["self", "plan", "written"] (spRollI CR CP CS CT CRo) := by
  refine F.ok sc_Roll___init__ (fun vs H Q E h => ?_) (fun cdv A outer s H vs Q E hr h => ?_)
  · obtain ⟨x, dx, xp, a, len, L, ps, as, ss, es, M, rfl, _⟩ := h
    rfl
  · obtain ⟨x, dx, xp, a, len, L, ps, as, ss, es, M, rfl, hx, hP, hlen, hL, ha, h1, hW, hI, h60, q⟩ := h
    refine ⟨_, (pss_cons (ps_fld (pv 0) (pv 1) rfl)
    (pss_cons (ps_fld (pv 0) (pe_c c_judged_roll hr (by decide) rfl (pa_cons (pv 1) (pa_cons (pv 2) pa_nil))) rfl)
    (pss_cons (ps_fld (pv 0) (pe_lc (own := [("item", 3)]) rfl sc_Roll___init__.nd (pi_tup (pe_fld (pv 0) rfl)) (blkOk_by (N := N_Roll___init__) (sc := defScope s_Roll___init__) (by decide +kernel)) (fun _ _ _ _ _ => (pg_name (i := 3) sc_Roll___init__.nd rfl (Or.inl rfl))) (fun _ _ _ _ _ => pts_nil) (fun _ _ _ _ _ => (pe_c c_part_of hr (by decide) rfl (pa_cons (pv 1) (pa_cons (pv 3) pa_nil))))) rfl)
    (pss_one (ps_fld (pv 0) (pe_c c_all_of hr (by decide) rfl (pa_cons (pv 1) (pa_cons (pe_fld (pv 0) rfl) pa_nil))) rfl))))), ?_⟩
    have G0 : rest x H x = none := if_pos rfl
    have s0 := rest_le x H
    refine ⟨_, rfl, _, rfl, x, CRo, dx, _, rfl, hx, T.cl, T.n_plan, (by decide : (0 : Nat) < 1000), ?_⟩
    generalize eH1 : upd _ x _ = H1
    obtain ⟨s1, e1⟩ := nextS G0 s0 eH1
    clear eH1
    refine ⟨_, rfl, _, rfl, xp, a, len, L, ps, as, ss, es, M, rfl, hP.keep s1, ha.keep s1, h1, fun e he => (hW e he).keep s1 5 _ _, hI, h60, fun H2 j ys s2 hj hys => ?_⟩
    have x2 := s2 _ _ e1
    refine ⟨_, rfl, x, CRo, dx, _, rfl, x2, T.cl, T.n_written, (Nat.lt_of_le_of_lt (plE (Nat.le_refl 0)) (by decide)), ?_⟩
    generalize eH3 : upd _ x _ = H3
    obtain ⟨s3, e3⟩ := nextS G0 (s1.trans s2) eH3
    have k3 : KT H2 H3 := kt_ins x2 eH3
    clear eH3
    have hj3 := k3 _ _ hj
    have hys3 := hys.kt k3
    have hl := paired_ln hys3
    rw [List.length_map] at hl
    have h1000 : M.length ≤ 60 := by
      have := cnt_len (M.map (·.2))
      rw [List.length_map] at this
      omega
    have fit : ∀ p ∈ ps, (pieceSx ps (cuesC L) p).Fits 65 := fun p hp => by
      obtain ⟨_, _, _, _, _, _, _, _, _, _, _, _, _, _, B⟩ := hP
      exact piece_fits B.good hp hlen (by rw [List.length_map]; exact hL)
    refine ⟨_, rfl, x, CRo, dx, _, _, rfl, e3, T.cl, T.n_written, ro2_written .., j, rfl, ⟨_, SqT.of hj3⟩, fun D hD => ?_⟩
    refine lc_tup (K := K) (a := j) (xs := ys) (fun i H' => Same H3 H' ∧ ∃ E : List Addr, H' D = some (.lst (E.map V.ref)) ∧ E.length = i ∧ ∀ (k : Nat) (e : Addr) (u : V × It 5), E[k]? = some e → M[k]? = some u → PartAt ps as (cuesC L) CS CT 5 (fun a => a = D) H' e u.2) ⟨same_new hD, [], upd_same, rfl, fun _ _ _ h => nomatch h⟩ (fun i H' _ hq => SqT.of (hq.1 _ _ hj3)) ?_ ?_
    · rintro i u H4 hu ⟨s4, E', hd, hm, hR⟩
      obtain ⟨e, he⟩ : ∃ e, M[i]? = some e := ⟨_, List.getElem?_eq_getElem (by have := (List.getElem?_eq_some_iff.mp hu).1; omega)⟩
      have he2 : (M.map (·.2))[i]? = some e.2 := by rw [List.getElem?_map, he]; rfl
      have hu5 : ItV 5 H3 u e.2 := paired_at hys3 hu he2
      have hin : ItIn ps 5 e.2 := hI e (List.mem_of_getElem? he)
      refine ⟨rfl, _, rfl, _, rfl, xp, u, len, L, ps, as, ss, es, e.2, rfl, (hP.keep s3).keep s4, hu5.keep s4 5 _ _, itIn_ok fit 5 _ (by decide) hin, fun H5 y s5 hy => ?_⟩
      have hd5 := s5 _ _ hd
      refine ⟨_, hd5, ?_, same_over (s4.trans s5) hD, E' ++ [y], ?_, ?_, ?_⟩
      · rw [List.length_map]
        have := (List.getElem?_eq_some_iff.mp he).1
        exact small_line (by omega)
      · rw [upd_same, List.map_append]
        rfl
      · rw [List.length_append, hm]
        rfl
      · intro k e' u' hk hu'
        by_cases hlt : k < E'.length
        · rw [List.getElem?_append_left hlt] at hk
          exact PartAt.over (B := fun a => a = D) rfl hd5 5 _ _ (PartAt.keep s5 5 _ _ (hR k e' u' hk hu'))
        · rw [List.getElem?_append_right (by omega)] at hk
          have ek : k = i := by
            have := (List.getElem?_eq_some_iff.mp hk).1
            rw [List.length_singleton] at this
            omega
          subst ek
          rw [hm, Nat.sub_self] at hk
          cases hk
          rw [he] at hu'
          cases hu'
          refine PartAt.over (B := fun a => a = D) rfl hd5 5 _ _ (PartAt.anti (fun a' ha' => ?_) 5 _ _ hy)
          intro e0
          rw [ha', hd] at e0
          cases e0
    · rintro H4 ⟨s4, E', hd, hm, hR⟩
      have x4 := s4 _ _ e3
      refine ⟨_, rfl, x, CRo, dx, _, rfl, x4, T.cl, T.n_parts, (Nat.lt_of_le_of_lt (plE (plE (Nat.le_refl 0))) (by decide)), ?_⟩
      have hpt : Paired (PartAt ps as (cuesC L) CS CT 5 NoB H4) E' (M.map (·.2)) := paired_of (by rw [List.length_map]; omega) fun i u v hu hv => by
        rw [List.getElem?_map] at hv
        cases hM : M[i]? with
        | none => rw [hM] at hv; cases hv
        | some e =>
          rw [hM] at hv
          cases hv
          exact PartAt.anti (fun _ h => h.elim) 5 _ _ (hR i u e hu hM)
      generalize eH5 : upd _ x _ = H5
      obtain ⟨s5, e5⟩ := nextS G0 (s3.trans s4) eH5
      have k5 : KT H4 H5 := kt_ins x4 eH5
      have hpt5 : Paired (PartAt ps as (cuesC L) CS CT 5 NoB H5) E' (M.map (·.2)) := paired_imp (fun u v h => by rw [← eH5]; exact PartAt.ovI nS nT x4 5 _ _ h) hpt
      have hd5 : H5 D = some (.lst (E'.map V.ref)) := by
        rw [← eH5, upd_ne fun e => by rw [e, x4] at hd; cases hd]
        exact hd
      clear eH5
      have hj5 := k5 _ _ (s4 _ _ hj3)
      have hys5 := (hys3.keep s4).kt k5
      have lw : (M.map fun (e : V × It 5) => sxOf ps as (cuesC L) 5 e.2).length = M.length := List.length_map ..
      obtain ⟨e0, r0, hE0⟩ : ∃ e0 r0, E'.zip (M.map fun (e : V × It 5) => sxOf ps as (cuesC L) 5 e.2) = e0 :: r0 := by
        cases hz : E'.zip (M.map fun (e : V × It 5) => sxOf ps as (cuesC L) 5 e.2) with
        | nil =>
          have := congrArg List.length hz
          rw [List.length_zip, lw, hm, hl, Nat.min_self, List.length_nil] at this
          omega
        | cons e0 r0 => exact ⟨e0, r0, rfl⟩
      have hm1 : (e0 :: r0).map (·.1) = E' := by rw [← hE0]; exact List.map_fst_zip (by omega)
      have hm2 : (e0 :: r0).map (·.2) = M.map fun (e : V × It 5) => sxOf ps as (cuesC L) 5 e.2 := by rw [← hE0]; exact List.map_snd_zip (by omega)
      have hsum : sumSx as e0.2 (r0.map (·.2)) = sumL as ((M.map (·.2)).map (sxOf ps as (cuesC L) 5)) := by
        rw [List.map_map]
        show sumL as ((e0 :: r0).map (·.2)) = _
        rw [hm2]
        rfl
      have hlst : H5 D = some (.lst (refsX (e0 :: r0))) := by
        rw [hd5, ← hm1, List.map_map]
        rfl
      have hWs : ∀ e ∈ e0 :: r0, PtW H5 CS CT e := fun e he => by
        rw [← hE0] at he
        obtain ⟨i, hi⟩ := List.getElem?_of_mem he
        obtain ⟨g1, g2⟩ := List.getElem?_zip_eq_some.mp hi
        rw [List.getElem?_map] at g2
        cases hM : M[i]? with
        | none => rw [hM] at g2; cases g2
        | some u =>
          rw [hM] at g2
          have e2 : sxOf ps as (cuesC L) 5 u.2 = e.2 := Option.some.inj g2
          have hp := paired_at hpt5 g1 (v := u.2) (by rw [List.getElem?_map, hM]; rfl)
          have := PartAt.w 5 _ _ hp
          rw [e2] at this
          exact this
      have hns : ∀ e ∈ e0 :: r0, e.2.l ∈ ps.map (·.nm) := fun e he => by
        have h2 : e.2 ∈ (e0 :: r0).map (·.2) := List.mem_map_of_mem he
        rw [hm2] at h2
        obtain ⟨u, hu, eu⟩ := List.mem_map.mp h2
        rw [← eu]
        exact sxOf_l 5 _ (itIn_ok fit 5 _ (by decide) (hI u hu))
      refine ⟨_, rfl, _, rfl, x, CRo, dx, _, _, rfl, e5, T.cl, T.n_parts, ro3_parts .., xp, D, len, L, ps, as, ss, es, e0, r0, rfl, hP.keep s5, hlst, hWs, hns, fun H6 ba s6 hba => ?_⟩
      rw [hsum] at hba
      have x6 := s6 _ _ e5
      refine ⟨_, rfl, x, CRo, dx, _, rfl, x6, T.cl, T.n_whole, (Nat.lt_of_le_of_lt (plE (plE (plE (Nat.le_refl 0)))) (by decide)), ?_⟩
      generalize eH7 : upd _ x _ = H7
      obtain ⟨s7, e7⟩ := nextS G0 (s5.trans s6) eH7
      have k7 : KT H6 H7 := kt_ins x6 eH7
      refine q H7 (fun b o nb hb => s7 _ _ ?_) ⟨dx, j, D, ba, ys, E', e7, hP.keep s7, k7 _ _ (s6 _ _ hj5), (hys5.keep s6).kt k7, ?_, ?_, ?_⟩
      · show (if b = x then none else H b) = some o
        rw [if_neg nb]
        exact hb
      · rw [← eH7, upd_ne fun e => by rw [e, e5] at hd5; cases hd5]
        exact s6 _ _ hd5
      · exact paired_imp (fun u v h => by rw [← eH7]; exact PartAt.ovI nS nT x6 5 _ _ (PartAt.keep s6 5 _ _ h)) hpt5
      · rw [← eH7]
        exact hba.ovI nS x6
end
end Sea
namespace L2
open PySem PySem.Spec PyProof.Rows
end L2
namespace Sea
open PySem PySem.Spec PyProof.Rows L2
/-! arrows of any kind, judged -/
theorem AscP.s {z : Str} (h : AscP z) : AscS z := fun c hc => by
  have := h c hc
  omega
theorem Sc.lay {x : V} {d : PyData} (h : Sc x d) : d.canLay0 = true ∧ d.depth = 0 := by
  cases d with
  | none => exact ⟨rfl, rfl⟩
  | bool b => exact ⟨rfl, rfl⟩
  | int i => exact ⟨rfl, rfl⟩
  | str z => exact ⟨asc_ok h.2.2.s, rfl⟩
  | tuple ds => exact h.elim
  | list ds => exact h.elim
  | dict ds => exact h.elim
theorem all_lay {R : V → PyData → Prop} {k : Nat} (h : ∀ a b, R a b → b.canLay0 = true ∧ b.depth ≤ k) : ∀ {l : List V} {r : List PyData}, Paired R l r → PyData.canLayAll0 r = true ∧ PyData.depthAll r ≤ k
  | _, _, .nil => ⟨rfl, Nat.zero_le _⟩
  | _, d :: r, .cons a b => by
    obtain ⟨h1, h2⟩ := h _ _ a
    obtain ⟨h3, h4⟩ := all_lay h b
    refine ⟨?_, ?_⟩
    · show (PyData.canLay0 d && PyData.canLayAll0 r) = true
      rw [h1, h3]
      rfl
    · show max (PyData.depth d) (PyData.depthAll r) ≤ k
      omega
theorem Th.lay {l : Bool} : ∀ {ms : List Nat} {H : Hp} {x : V} {d : PyData}, Th l ms H x d → d.canLay0 = true ∧ d.depth ≤ ms.length
  | [], _, _, _, h => ⟨(Sc.lay h).1, Nat.le_of_eq (Sc.lay h).2⟩
  | m :: r, H, x, d, h => by
    rcases h with h | ⟨a, xs, ds, h1, h2, h3, h4⟩
    · exact ⟨h.lay.1, by rw [h.lay.2]; exact Nat.zero_le _⟩
    · obtain ⟨q1, q2⟩ := all_lay (fun _ _ q => Th.lay (ms := r) q) h3
      rcases h4 with ⟨e, _⟩ | ⟨_, e, _⟩
      · rw [e]
        exact ⟨q1, Nat.succ_le_succ q2⟩
      · rw [e]
        exact ⟨q1, Nat.succ_le_succ q2⟩
theorem Th.shaped {l : Bool} {ms : List Nat} {H : Hp} {x : V} {d : PyData} (h : Th l ms H x d) (hm : ms.length ≤ 64) : SeqAt.shaped d = true := by
  obtain ⟨h1, h2⟩ := h.lay
  show (PyData.canLay0 d && decide (PyData.depth d ≤ 64)) = true
  rw [h1, decide_eq_true (Nat.le_trans h2 hm)]
  rfl
end Sea
namespace Sea
open PySem PySem.Spec PyProof.Rows L2
/-! Plan(..) of things of any kind -/
/-- what a plan can be refused for -/
inductive Wh where
  | piece | many | twice | arrow | start | last | unreached
def Wh.nm : Wh → Str
  | .piece => "BadPiece" | .many => "TooMany" | .twice => "Twice" | .arrow => "BadArrow" | .start => "BadStart" | .last => "BadEnd" | .unreached => "Unreached"
end Sea
namespace Sea
open PySem PySem.Spec PyProof.Rows L2
/-! numbers as words; the words of a line -/
abbrev DIG : Str := Str.ofString "0123456789"
theorem dig_cp : cp DIG = (List.range 10).map (· + 48) := by decide +kernel
theorem in_dig {c : Nat} : c ∈ cp DIG ↔ 48 ≤ c ∧ c ≤ 57 := by
  rw [dig_cp, List.mem_map]
  constructor
  · rintro ⟨a, ha, rfl⟩
    have := List.mem_range.mp ha
    omega
  · intro h
    exact ⟨c - 48, List.mem_range.mpr (by omega), by omega⟩
def numS (n : Nat) : Str := Str.ofString (toString ((n : Nat) : Int))
theorem num_cp (n : Nat) : cp (numS n) = TL.numL n := TL.tl_num n
theorem num_one (n : Nat) : 1 ≤ (numS n).length := by
  rw [← cp_len, num_cp]
  exact List.length_pos_iff.mpr (TL.numL_ne n)
theorem num_dig {n c : Nat} (h : c ∈ cp (numS n)) : 48 ≤ c ∧ c ≤ 57 := by
  rw [num_cp] at h
  exact TL.numL_digits n c h
theorem num_head (n : Nat) : 0 < n → ∃ c, (TL.numL n)[0]? = some c ∧ c ≠ 48 := by
  induction n using Nat.strongRecOn with
  | _ n ih =>
    intro h0
    by_cases h : n < 10
    · rw [TL.numL_lt h]
      exact ⟨48 + n, rfl, by omega⟩
    · obtain ⟨c, h1, h2⟩ := ih (n / 10) (by omega) (by omega)
      refine ⟨c, ?_, h2⟩
      rw [TL.numL_step (by omega), List.getElem?_append_left (List.getElem?_eq_some_iff.mp h1).1]
      exact h1
abbrev B1 : Str := Str.ofString " "
theorem len_b1 : B1.length = 1 := by decide +kernel
theorem app_cp (a b : Str) : cp (a ++ b) = cp a ++ cp b := by
  show (a.cps ++ b.cps).toList = _
  rw [Array.toList_append]
theorem app_len (a b : Str) : (a ++ b).length = a.length + b.length := by
  rw [← cp_len, ← cp_len, ← cp_len, app_cp, List.length_append]
def lwF (n t : Int) (wl : Addr) : List (Str × V) := putF "taken" (.int t) (putF "words" (.ref wl) (putF "number" (.int n) []))
def LWAt (H : Hp) (CL p : Addr) (ws : List Str) (t : Nat) : Prop := ∃ (dx wl : Addr) (n : Int), H p = some (.ins CL dx (lwF n (t : Nat) wl)) ∧ H wl = some (.lst (ws.map V.str))
theorem LWAt.keep {H H' : Hp} {CL p : Addr} {ws : List Str} {t : Nat} (h : LWAt H CL p ws t) (s : Same H H') : LWAt H' CL p ws t :=
  let ⟨dx, wl, n, h1, h2⟩ := h
  ⟨dx, wl, n, s _ _ h1, s _ _ h2⟩
def LinesAt (H : Hp) (a : Addr) (ls : List Str) : Prop := H a = some (.lst (ls.map V.str)) ∨ H a = some (.tup (ls.map V.str))
theorem LinesAt.keep {H H' : Hp} {a : Addr} {ls : List Str} (h : LinesAt H a ls) (s : Same H H') : LinesAt H' a ls := h.imp (s _ _) (s _ _)
theorem LinesAt.len {K : PySem.W.Frag} {H : Hp} {a : Addr} {ls : List Str} (h : LinesAt H a ls) : LenV K (.ref a) H ls.length := by
  rcases h with h | h
  · exact .inl ⟨_, SqL.of h, (List.length_map ..).symm⟩
  · exact .inr ⟨_, SqT.of h, (List.length_map ..).symm⟩
theorem join_one (a : Str) : Txt.join B1 [a] = a := cp_inj (by
  rw [TL.join_eq, join_cp]
  show ((32 :: (cp a ++ flat []))).drop 1 = cp a
  rw [flat_nil, List.append_nil]
  rfl)
theorem join_more (a b : Str) (r : List Str) : Txt.join B1 (a :: b :: r) = a ++ B1 ++ Txt.join B1 (b :: r) := cp_inj (by
  rw [TL.join_eq, TL.join_eq, join_cp, app_cp, app_cp, join_cp, blank_cp]
  show (32 :: (cp a ++ flat (cp b :: r.map cp))).drop 1 = cp a ++ [32] ++ (32 :: (cp b ++ flat (r.map cp))).drop 1
  rw [flat_cons, List.append_assoc]
  rfl)
end Sea
namespace Sea
open PySem PySem.Spec PyProof.Rows L2
/-! rows of names read -/
/-- a tuple of names -/
def NAt (H : Hp) (e : Addr × List Str) : Prop := H e.1 = some (.tup (e.2.map V.str))
theorem NAt.keep {H H' : Hp} {e : Addr × List Str} (h : NAt H e) (s : Same H H') : NAt H' e := s _ _ h
theorem LWAt.over {H : Hp} {CL p D : Addr} {ws : List Str} {t : Nat} {xs : List V} {o : HO} (h : LWAt H CL p ws t) (hd : H D = some (.lst xs)) (ne : xs ≠ ws.map V.str) : LWAt (upd H D o) CL p ws t := by
  obtain ⟨dx, wl, n, h1, h2⟩ := h
  refine ⟨dx, wl, n, ?_, ?_⟩
  · rw [upd_ne (fun e => by rw [e, hd] at h1; cases h1)]
    exact h1
  · rw [upd_ne (fun e => by rw [e, hd] at h2; exact ne (HO.lst.inj (Option.some.inj h2)))]
    exact h2
end Sea
namespace Sea
open PySem PySem.Spec PyProof.Rows L2
/-! a plan read from lines -/
def piP (p : Piece) : PyData := .tuple [.str p.nm, .int p.s, .int p.e, .int p.up, .int p.dn, .str (wayS p.on)]
def dpW (ps : List Piece) : PyData := .tuple (ps.map piP)
def daW (as : List (Str × Str)) : PyData := .tuple (as.map arP)
def dsW (ss : List Str) : PyData := .tuple (ss.map .str)
end Sea
namespace Sea
open PySem PySem.Spec PyProof.Rows L2
/-! the lines of a plan written -/
theorem str_num {i : Int} (h0 : 0 ≤ i) : ((toString i : String) : Str) = numS i.toNat := by
  show _ = Str.ofString (toString ((i.toNat : Nat) : Int))
  rw [Int.toNat_of_nonneg h0]
theorem empty_app (a : Str) : Str.empty ++ a = a := cp_inj (by rw [app_cp]; rfl)
theorem plan_pieces (v1 v2 v3 v4 v5 v6 v7 v8 v9 v10 v11 v12 v13 : V) : (planF v1 v2 v3 v4 v5 v6 v7 v8 v9 v10 v11 v12 v13).lookup ("pieces" : Str) = some v2 := by unfold planF; (repeat first | rw [lookup_putF, if_neg (by decide +kernel)] | rw [lookup_putF, if_pos rfl])
theorem plan_arrows (v1 v2 v3 v4 v5 v6 v7 v8 v9 v10 v11 v12 v13 : V) : (planF v1 v2 v3 v4 v5 v6 v7 v8 v9 v10 v11 v12 v13).lookup ("arrows" : Str) = some v4 := by unfold planF; (repeat first | rw [lookup_putF, if_neg (by decide +kernel)] | rw [lookup_putF, if_pos rfl])
theorem plan_ends (v1 v2 v3 v4 v5 v6 v7 v8 v9 v10 v11 v12 v13 : V) : (planF v1 v2 v3 v4 v5 v6 v7 v8 v9 v10 v11 v12 v13).lookup ("ends" : Str) = some v6 := by unfold planF; (repeat first | rw [lookup_putF, if_neg (by decide +kernel)] | rw [lookup_putF, if_pos rfl])
end Sea
namespace Sea
open PySem PySem.Spec PyProof.Rows L2
/-! plans compared -/
/-- the class at C has an __eq__ of its own that keeps sp -/
def EqOk (P : Program) (w : World) (K : PySem.W.Frag) (mg : Str → Option Value) (base : Heap) (C : Addr) (k : Nat) (sp : Sp) : Prop :=
  ∃ (f : Addr) (fd : FuncData) (ps : List Str), FnOk P w K mg base CX0 k f fd ps sp ∧ PySem.W.findIn K (.ref C) "__eq__" = some (some (.ref f)) ∧ PySem.W.isFn K (.ref f) = true ∧ Binds K fd ps []
theorem asc_way (b : Bool) : AscS (wayS b) := by
  cases b
  · exact fun c hc => (by decide +kernel : ∀ c ∈ cp (wayS false), c < 1114112) c hc
  · exact fun c hc => (by decide +kernel : ∀ c ∈ cp (wayS true), c < 1114112) c hc
theorem piP_lay {p : Piece} (h : NameW (cp p.nm)) : (piP p).canLay0 = true := by
  show (PyData.canLay0 (.str p.nm) && (PyData.canLay0 (.int p.s) && (PyData.canLay0 (.int p.e) && (PyData.canLay0 (.int p.up) && (PyData.canLay0 (.int p.dn) && (PyData.canLay0 (.str (wayS p.on)) && true)))))) = true
  rw [asc_ok (nameS h), asc_ok (asc_way _)]
  rfl
theorem fs_lay {α : Type} {f : α → PyData} : ∀ {xs : List α}, (∀ x ∈ xs, (f x).canLay0 = true) → PyData.canLayAll0 (xs.map f) = true
  | [], _ => rfl
  | a :: r, h => by
    show (PyData.canLay0 (f a) && PyData.canLayAll0 (r.map f)) = true
    rw [h a List.mem_cons_self, fs_lay fun z hz => h z (List.mem_cons_of_mem _ hz)]
    rfl
theorem fs_depth {α : Type} {f : α → PyData} {n : Nat} : ∀ {xs : List α}, (∀ x ∈ xs, PyData.depth (f x) ≤ n) → PyData.depthAll (xs.map f) ≤ n
  | [], _ => Nat.zero_le _
  | a :: r, h => by
    show max (PyData.depth (f a)) (PyData.depthAll (r.map f)) ≤ n
    have h1 := h a List.mem_cons_self
    have h2 := fs_depth (n := n) (xs := r) (f := f) fun z hz => h z (List.mem_cons_of_mem _ hz)
    omega
theorem tup_shaped {α : Type} {f : α → PyData} {xs : List α} (h : ∀ x ∈ xs, (f x).canLay0 = true) (d : ∀ x ∈ xs, PyData.depth (f x) ≤ 9) : SeqAt.shaped (.tuple (xs.map f)) = true := by
  show (PyData.canLayAll0 (xs.map f) && decide (PyData.depthAll (xs.map f) + 1 ≤ 64)) = true
  have := fs_depth d
  rw [fs_lay h, decide_eq_true (by omega)]
  rfl
theorem dpW_shaped {ps : List Piece} (h : ∀ p ∈ ps, NameW (cp p.nm)) : SeqAt.shaped (dpW ps) = true := tup_shaped (fun p hp => piP_lay (h p hp)) fun _ _ => (by show 1 ≤ 9; decide)
theorem daW_shaped {as : List (Str × Str)} (h : ∀ a ∈ as, NameW (cp a.1) ∧ NameW (cp a.2)) : SeqAt.shaped (daW as) = true := tup_shaped (fun a ha => by
    show (PyData.canLay0 (.str a.1) && (PyData.canLay0 (.str a.2) && true)) = true
    rw [asc_ok (nameS (h a ha).1), asc_ok (nameS (h a ha).2)]
    rfl) fun _ _ => (by show 1 ≤ 9; decide)
theorem dsW_shaped {ss : List Str} (h : ∀ z ∈ ss, NameW (cp z)) : SeqAt.shaped (dsW ss) = true := tup_shaped (fun z hz => asc_ok (nameS (h z hz))) fun _ _ => (by show 0 ≤ 9; decide)
theorem way_inj {a b : Bool} (h : wayS a = wayS b) : a = b := by
  cases a <;> cases b
  · rfl
  · exact absurd h (by decide +kernel)
  · exact absurd h (by decide +kernel)
  · rfl
open Classical in
theorem piece_eqv (p q : Piece) : PyData.eqv (piP p) (piP q) = decide (p = q) := by
  show ((p.nm == q.nm) && ((p.s == q.s) && ((p.e == q.e) && ((p.up == q.up) && ((p.dn == q.dn) && ((wayS p.on == wayS q.on) && true)))))) = _
  obtain ⟨a1, a2, a3, a4, a5, a6⟩ := p
  obtain ⟨b1, b2, b3, b4, b5, b6⟩ := q
  by_cases h : (⟨a1, a2, a3, a4, a5, a6⟩ : Piece) = ⟨b1, b2, b3, b4, b5, b6⟩
  · cases h
    simp
  · rw [decide_eq_false h, Bool.eq_false_iff]
    intro q
    simp only [Bool.and_true, Bool.and_eq_true, beq_iff_eq] at q
    obtain ⟨q1, q2, q3, q4, q5, q6⟩ := q
    exact h (by rw [q1, q2, q3, q4, q5, way_inj q6])
open Classical in
theorem all_eqv {α : Type} {f : α → PyData} (hf : ∀ a b, PyData.eqv (f a) (f b) = decide (a = b)) : ∀ xs ys : List α, PyData.eqvAll (xs.map f) (ys.map f) = decide (xs = ys)
  | [], [] => (decide_eq_true rfl).symm
  | [], _ :: _ => (decide_eq_false (by simp)).symm
  | _ :: _, [] => (decide_eq_false (by simp)).symm
  | a :: r, b :: q => by
    show (PyData.eqv (f a) (f b) && PyData.eqvAll (r.map f) (q.map f)) = _
    rw [hf, all_eqv hf r q]
    by_cases h1 : a = b
    · by_cases h2 : r = q
      · rw [decide_eq_true h1, decide_eq_true h2, decide_eq_true (by rw [h1, h2])]
        rfl
      · rw [decide_eq_false h2, Bool.and_false, decide_eq_false (fun e => h2 (List.cons.inj e).2)]
    · rw [decide_eq_false h1, Bool.false_and, decide_eq_false (fun e => h1 (List.cons.inj e).1)]
open Classical in
theorem arP_eqvC (a b : Str × Str) : PyData.eqv (arP a) (arP b) = decide (a = b) := by
  show ((a.1 == b.1) && ((a.2 == b.2) && true)) = _
  by_cases h : a = b
  · rw [decide_eq_true h, h]
    simp
  · rw [decide_eq_false h, Bool.eq_false_iff]
    intro q
    simp only [Bool.and_true, Bool.and_eq_true, beq_iff_eq] at q
    exact h (Prod.ext q.1 q.2)
open Classical in
theorem strP_eqv (a b : Str) : PyData.eqv (.str a) (.str b) = decide (a = b) := by
  show (a == b) = _
  by_cases h : a = b
  · rw [decide_eq_true h, h]
    simp
  · rw [decide_eq_false h, beq_eq_false_iff_ne.mpr h]
theorem dp_pieces {K : PySem.W.Frag} {H : Hp} : ∀ {L : List (Addr × Piece)}, (∀ e ∈ L, PAt H e) → DpAll K H (refsP L) ((pcs L).map piP)
  | [], _ => .nil
  | e :: r, h => .cons (.tup (SqT.of (h e List.mem_cons_self)) (.cons (.str _) (.cons (.int _) (.cons (.int _) (.cons (.int _) (.cons (.int _) (.cons (.str _) .nil))))))) (dp_pieces fun d hd => h d (List.mem_cons_of_mem _ hd))
open Classical in
noncomputable def spPlanEq (CR CP : Addr) : Sp := fun vs H Q _ => ∃ (x y : Addr) (lx ly : Int) (Lx Ly : List (Addr × Cue)) (px py : List Piece) (ax ay : List (Str × Str)) (sx sy ex ey : List Str), vs = [.ref x, .ref y] ∧ PlanAt H CR CP x lx Lx px ax sx ex ∧ PlanAt H CR CP y ly Ly py ay sy ey ∧
  (∀ c ∈ cuesC Lx, CueG c) ∧ (∀ c ∈ cuesC Ly, CueG c) ∧ (∀ z ∈ sx, NameW (cp z)) ∧ (∀ z ∈ sy, NameW (cp z)) ∧ (∀ z ∈ ex, NameW (cp z)) ∧ (∀ z ∈ ey, NameW (cp z)) ∧
  Q (.bl (decide ((lx = ly ∧ cuesC Lx = cuesC Ly) ∧ px = py ∧ ax = ay ∧ sx = sy ∧ ex = ey))) H
theorem and_bl {a b : Prop} [Decidable a] [Decidable b] [Decidable (a ∧ b)] (ha : a) : decide (a ∧ b) = decide b := by
  by_cases hb : b
  · rw [decide_eq_true hb, decide_eq_true ⟨ha, hb⟩]
  · rw [decide_eq_false hb, decide_eq_false fun z => hb z.2]
section
variable {P : Program} {w : World} {K : PySem.W.Frag} {mg : Str → Option Value} {base : Heap} {CR CP fR fP : Addr}
open Classical in
theorem ok_plan_eq {f : Addr} {fd : FuncData} (F : Fun K "__eq__" "Plan.__eq__" s_Plan___eq__ f fd) (TP : PlC K mg CP fP) (m_isinstance : mg "isinstance" = none) (hc : PySem.W.findIn K (.ref CP) "__class__" = some (some (.builtin "object.__class__")) ∧ PySem.W.specialIn K (.builtin "object.__class__") "__get__" = some (some (.builtin "getset_descriptor.__get__")) ∧ PySem.W.takesIn K (.builtin "object.__class__") = some true ∧ PySem.W.mroIn K CP (.type "object") = some true)
    (ER : EqOk P w K mg base CR 1 (spReelEq CR)) : FnOk P w K mg base CX0 2 f fd ["self", "other"] (spPlanEq CR CP) := by
  obtain ⟨fe, fde, pse, Fe, hfe, hie, hbe⟩ := ER
  refine F.ok sc_Plan___eq__ (fun vs H Q E h => ?_) (fun cdv A outer s H vs Q E hr h => ?_)
  · obtain ⟨x, y, lx, ly, Lx, Ly, px, py, ax, ay, sx, sy, ex, ey, rfl, _⟩ := h
    rfl
  · obtain ⟨x, y, lx, ly, Lx, Ly, px, py, ax, ay, sx, sy, ex, ey, rfl, ⟨dx, xr, pt, nt, at', st, et, dP, dF, dS, dB, dT, dQ, hx, B⟩, ⟨dx2, xr2, pt2, nt2, at2, st2, et2, dP2, dF2, dS2, dB2, dT2, dQ2, hy, B2⟩, gx, gy, nsx, nsy, nex, ney, q⟩ := h
    obtain ⟨M, hM, eM, atM⟩ := B.pieces
    obtain ⟨A1, hA, eA, atA⟩ := B.arrows
    obtain ⟨M2, hM2, eM2, atM2⟩ := B2.pieces
    obtain ⟨A2, hA2, eA2, atA2⟩ := B2.arrows
    refine ⟨_, (pss_one (ps_ret (pe_and (pe_callB call_isi (by rfl) m_isinstance (by decide +kernel) (pa_cons (pv 1) (pa_cons (pe_glob (v := .ref CP) rfl TP.g rfl) pa_nil))) (pe_and (pe_cmpR (op_ownEq Fe hr (by decide) hfe hie hbe) (pe_fld (pv 0) rfl) (pe_fld (pv 1) rfl) (nomark _)) (pe_and (pe_cmpR (op_eqD hr.units) (pe_fld (pv 0) rfl) (pe_fld (pv 1) rfl) (nomark _)) (pe_and (pe_cmpR (op_eqD hr.units) (pe_fld (pv 0) rfl) (pe_fld (pv 1) rfl) (nomark _)) (pe_and (pe_cmpR (op_eqD hr.units) (pe_fld (pv 0) rfl) (pe_fld (pv 1) rfl) (nomark _)) (pe_one (pe_cmpR (op_eqD hr.units) (pe_fld (pv 0) rfl) (pe_fld (pv 1) rfl) (nomark _)))))))))), ?_⟩
    have wp : ∀ {ps : List Piece} {len : Int}, (∀ p ∈ ps, GoodP len p) → ∀ p ∈ ps, NameW (cp p.nm) := fun h p hp => (h p hp).nm
    have wa : ∀ {ps : List Piece} {as : List (Str × Str)} {len : Int}, (∀ p ∈ ps, GoodP len p) → (∀ a ∈ as, a.1 ∈ ps.map (·.nm) ∧ a.2 ∈ ps.map (·.nm)) → ∀ a ∈ as, NameW (cp a.1) ∧ NameW (cp a.2) := fun {ps as len} h g a ha => by
      obtain ⟨h1, h2⟩ := g a ha
      obtain ⟨p1, m1, e1⟩ := List.mem_map.mp h1
      obtain ⟨p2, m2, e2⟩ := List.mem_map.mp h2
      rw [← e1, ← e2]
      exact ⟨(h p1 m1).nm, (h p2 m2).nm⟩
    refine ⟨_, rfl, _, _, _, _, true, rfl, .own CP, .base (.ins hy TP.cl hc.1 hc.2.1 hc.2.2.1 hc.2.2.2), if_pos (beq_self_eq_true _), true, rfl, iteT ?_⟩
    obtain ⟨dr1, _⟩ := id B.reel
    refine ⟨_, rfl, x, CP, dx, _, _, rfl, hx, TP.cl, TP.nR, plan_reel .., _, rfl, y, CP, dx2, _, _, rfl, hy, TP.cl, TP.nR, plan_reel .., ?_⟩
    obtain ⟨e1, _, _, _, _, hi1, _⟩ := id B.reel
    obtain ⟨e2, _, _, _, _, hi2, _⟩ := id B2.reel
    refine ⟨xr, xr2, e1, e2, _, _, rfl, rfl, hi1, hi2, xr, xr2, lx, ly, Lx, Ly, rfl, B.reel, B2.reel, gx, gy, ⟨_, rfl⟩, ?_⟩
    by_cases h1 : lx = ly ∧ cuesC Lx = cuesC Ly
    rotate_left
    · rw [decide_eq_false (fun z => h1 z.1)] at q
      refine ⟨false, ?_, iteF q⟩
      congr 1
      exact decide_eq_false h1
    rw [and_bl h1] at q
    refine ⟨true, congrArg V.bl (decide_eq_true h1), iteT ?_⟩
    refine ⟨_, rfl, x, CP, dx, _, _, rfl, hx, TP.cl, TP.nP, plan_pieces .., _, rfl, y, CP, dx2, _, _, rfl, hy, TP.cl, TP.nP, plan_pieces .., dpW px, dpW py, .tup (SqT.of hM) (by rw [← eM]; exact dp_pieces atM), .tup (SqT.of hM2) (by rw [← eM2]; exact dp_pieces atM2), dpW_shaped (wp B.good), dpW_shaped (wp B2.good), ?_⟩
    have E1 : PyData.eqv (dpW px) (dpW py) = decide (px = py) := (all_eqv piece_eqv px py).trans (by congr)
    rw [E1]
    by_cases h2 : px = py
    rotate_left
    · rw [decide_eq_false (fun z => h2 z.1)] at q
      exact ⟨false, congrArg V.bl (decide_eq_false h2), iteF q⟩
    rw [and_bl h2] at q
    refine ⟨true, congrArg V.bl (decide_eq_true h2), iteT ?_⟩
    refine ⟨_, rfl, x, CP, dx, _, _, rfl, hx, TP.cl, TP.nA, plan_arrows .., _, rfl, y, CP, dx2, _, _, rfl, hy, TP.cl, TP.nA, plan_arrows .., daW ax, daW ay, .tup (SqT.of hA) (by rw [← eA]; exact dp_arrows atA), .tup (SqT.of hA2) (by rw [← eA2]; exact dp_arrows atA2), daW_shaped (wa B.good B.ends), daW_shaped (wa B2.good B2.ends), ?_⟩
    have E2 : PyData.eqv (daW ax) (daW ay) = decide (ax = ay) := (all_eqv (fun a b => (arP_eqvC a b).trans (by congr)) ax ay).trans (by congr)
    rw [E2]
    by_cases h3 : ax = ay
    rotate_left
    · rw [decide_eq_false (fun z => h3 z.1)] at q
      exact ⟨false, congrArg V.bl (decide_eq_false h3), iteF q⟩
    rw [and_bl h3] at q
    refine ⟨true, congrArg V.bl (decide_eq_true h3), iteT ?_⟩
    refine ⟨_, rfl, x, CP, dx, _, _, rfl, hx, TP.cl, TP.nS, plan_starts .., _, rfl, y, CP, dx2, _, _, rfl, hy, TP.cl, TP.nS, plan_starts .., dsW sx, dsW sy, .tup (SqT.of B.starts) (dp_strs sx), .tup (SqT.of B2.starts) (dp_strs sy), dsW_shaped nsx, dsW_shaped nsy, ?_⟩
    have E3 : PyData.eqv (dsW sx) (dsW sy) = decide (sx = sy) := (all_eqv (fun a b => (strP_eqv a b).trans (by congr)) sx sy).trans (by congr)
    rw [E3]
    by_cases h4 : sx = sy
    rotate_left
    · rw [decide_eq_false (fun z => h4 z.1)] at q
      exact ⟨false, congrArg V.bl (decide_eq_false h4), iteF q⟩
    rw [and_bl h4] at q
    refine ⟨true, congrArg V.bl (decide_eq_true h4), iteT ?_⟩
    refine ⟨_, rfl, x, CP, dx, _, _, rfl, hx, TP.cl, TP.nE, plan_ends .., _, rfl, y, CP, dx2, _, _, rfl, hy, TP.cl, TP.nE, plan_ends .., dsW ex, dsW ey, .tup (SqT.of B.lasts) (dp_strs ex), .tup (SqT.of B2.lasts) (dp_strs ey), dsW_shaped nex, dsW_shaped ney, ?_⟩
    have E4 : PyData.eqv (dsW ex) (dsW ey) = decide (ex = ey) := (all_eqv (fun a b => (strP_eqv a b).trans (by congr)) ex ey).trans (by congr)
    rw [E4]
    exact q
end
end Sea
namespace Sea
open PySem PySem.Spec PyProof.Rows L2
/-! lists or tuples: unpacked, gone through in a comprehension -/
theorem pg_orR {X : Cx} {e : Expr} {g g' : TG} (h : PG X e g) (h' : PG X e g') : PG X e (fun v σ H Q => g v σ H Q ∨ g' v σ H Q) :=
  ⟨fun pins s σ H v u Q I r q => q.elim (h.run pins s σ H v u Q I r) (h'.run pins s σ H v u Q I r)⟩
def g2R (K : PySem.W.Frag) (n : Nat) (t : TGs) : TG := fun v σ H Q => gLst K n t v σ H Q ∨ gTup K n t v σ H Q
theorem pg_2R {X : Cx} {es : List Expr} {k : Nat} {pos : Pos} {t : TGs} {n : Nat} (hc : X.calm = true) (h : PGs X es t)
    (hn : (assignEach es X.env).length = n := by rfl) (hst : (assignEach es X.env).findIdx? (·.1) = none := by rfl) : PG X (.Tuple es k pos) (g2R X.K n t) := pg_orR (pg_lst hc h hn hst) (pg_tup hc h hn hst)
/-- a comprehension over a list or a tuple -/
theorem lt_lcR {K : PySem.W.Frag} {a : Addr} {xs : List V} {g : TG} {tt : TT} {te : TE} {vs : List Nat} {σ : L2.St} {H1 : Hp} {Qd : Addr → Hp → Prop} (Pv : Addr → Nat → Hp → Prop) (h0 : ∀ D, H1 D = none → Pv D 0 (upd H1 D (.lst [])))
    (hk : (SqL K H1 a xs ∧ ∀ D i H, i ≤ xs.length → Pv D i H → SqL K H a xs) ∨ (SqT K H1 a xs ∧ ∀ D i H, i ≤ xs.length → Pv D i H → SqT K H a xs))
    (hs : ∀ D i x H H', H1 D = none → i < xs.length → Pv D i H → YAt xs i H x H' → g x (wipe σ vs) H' fun σ2 H2 => wipe σ2 vs = wipe σ vs ∧ tt σ2 H2 fun b H3 =>
      if b = true then te σ2 H3 fun y H4 => ∃ acc, H4 D = some (.lst acc) ∧ acc.length < sizeLine ∧ Pv D (i + 1) (upd H4 D (.lst (acc ++ [y]))) else Pv D (i + 1) H3) (hd : ∀ D H, H1 D = none → Pv D xs.length H → Qd D H) :
    ((∃ xs, SqL K H1 a xs) ∧ ∀ D, H1 D = none → ∃ W : Nat → Nat → Hp → Prop, (∃ m, W 0 m (upd H1 D (.lst []))) ∧ ∀ i m H, W i m H →
      ((Itl K a).stop i H ∧ Qd D H) ∨ ((Itl K a).go i H ∧ ∃ Nx : Hp → Prop, (∀ H', Nx H' → ∃ m', m' < m ∧ W (i + 1) m' H') ∧ ∀ x H', (Itl K a).yld i H x H' → g x (wipe σ vs) H' fun σ2 H2 => wipe σ2 vs = wipe σ vs ∧ tt σ2 H2 fun b H3 =>
        if b = true then te σ2 H3 fun y H4 => ∃ acc, H4 D = some (.lst acc) ∧ acc.length < sizeLine ∧ Nx (upd H4 D (.lst (acc ++ [y]))) else Nx H3)) ∨
    ((∃ xs, SqT K H1 a xs) ∧ ∀ D, H1 D = none → ∃ W : Nat → Nat → Hp → Prop, (∃ m, W 0 m (upd H1 D (.lst []))) ∧ ∀ i m H, W i m H →
      ((Itt K a).stop i H ∧ Qd D H) ∨ ((Itt K a).go i H ∧ ∃ Nx : Hp → Prop, (∀ H', Nx H' → ∃ m', m' < m ∧ W (i + 1) m' H') ∧ ∀ x H', (Itt K a).yld i H x H' → g x (wipe σ vs) H' fun σ2 H2 => wipe σ2 vs = wipe σ vs ∧ tt σ2 H2 fun b H3 =>
        if b = true then te σ2 H3 fun y H4 => ∃ acc, H4 D = some (.lst acc) ∧ acc.length < sizeLine ∧ Nx (upd H4 D (.lst (acc ++ [y]))) else Nx H3)) := by
  rcases hk with ⟨hx, hk⟩ | ⟨hx, hk⟩
  · exact .inl ⟨⟨xs, hx⟩, fun D hD => lc_it walk_list (Pv D) (h0 D hD) (fun i H => hk D i H) (fun i x H H' => hs D i x H H' hD) fun H => hd D H hD⟩
  · exact .inr ⟨⟨xs, hx⟩, fun D hD => lc_it walk_tup (Pv D) (h0 D hD) (fun i H => hk D i H) (fun i x H H' => hs D i x H H' hD) fun H => hd D H hD⟩
end Sea
namespace Sea
open PySem PySem.Spec PyProof.Rows L2
/-! the texts of items -/
abbrev PA1 : Str := Str.ofString "("
abbrev PA2 : Str := Str.ofString ")"
theorem pa1_cp : cp PA1 = [40] := by decide +kernel
theorem pa2_cp : cp PA2 = [41] := by decide +kernel
theorem pa1_len : PA1.length = 1 := by decide +kernel
theorem pa2_len : PA2.length = 1 := by decide +kernel
theorem b1_cp : cp B1 = [32] := by decide +kernel
def wrI : (d : Nat) → It d → Str
  | 0, (p : Piece) => p.nm
  | _ + 1, .inl p => p.nm
  | d + 1, .inr (n, l) => numS n.toNat ++ PA1 ++ Txt.join B1 (l.map (wrI d)) ++ PA2
def wrL (d : Nat) (l : List (It d)) : Str := Txt.join B1 (l.map (wrI d))
theorem wrI_rep (d : Nat) (n : Int) (l : List (It d)) : wrI (d + 1) (.inr (n, l)) = numS n.toNat ++ PA1 ++ wrL d l ++ PA2 := rfl
/-- the signs of what stands behind the first item -/
def sp32 : List (List Nat) → List Nat
  | [] => []
  | a :: r => 32 :: (a ++ sp32 r)
def tI (d : Nat) (i : It d) : List Nat := cp (wrI d i)
def tL (d : Nat) (l : List (It d)) : List Nat := cp (wrL d l)
theorem tL_cons (d : Nat) : ∀ (r : List (It d)) (a : It d), tL d (a :: r) = tI d a ++ sp32 (r.map (tI d))
  | [], a => by
    show cp (Txt.join B1 [wrI d a]) = cp (wrI d a) ++ []
    rw [join_one, List.append_nil]
  | b :: r, a => by
    show cp (Txt.join B1 (wrI d a :: wrI d b :: r.map (wrI d))) = cp (wrI d a) ++ 32 :: (tI d b ++ sp32 (r.map (tI d)))
    rw [join_more, app_cp, app_cp, b1_cp, List.append_assoc, ← tL_cons d r b]
    rfl
theorem tI_rep (d : Nat) (n : Int) (l : List (It d)) : tI (d + 1) (.inr (n, l)) = TL.numL n.toNat ++ 40 :: (tL d l ++ [41]) := by
  show cp (wrI (d + 1) (.inr (n, l))) = _
  rw [wrI_rep, app_cp, app_cp, app_cp, pa1_cp, pa2_cp, num_cp, List.append_assoc, List.append_assoc]
  rfl
/-- items whose pieces keep G, numbers of at most 40 digits, no empty list -/
def ItG (G : Piece → Prop) : (d : Nat) → It d → Prop
  | 0, (p : Piece) => G p
  | _ + 1, .inl p => G p
  | d + 1, .inr (n, l) => 2 ≤ n ∧ n < 10 ^ 40 ∧ 1 ≤ l.length ∧ ∀ e ∈ l, ItG G d e
theorem ItG.imp {G G' : Piece → Prop} (h : ∀ p, G p → G' p) : ∀ (d : Nat) (i : It d), ItG G d i → ItG G' d i
  | 0, _, q => h _ q
  | _ + 1, .inl _, q => h _ q
  | d + 1, .inr (_, _), ⟨a, b, c, q⟩ => ⟨a, b, c, fun e he => ItG.imp h d e (q e he)⟩
theorem cnt_mem {d : Nat} {l : List (It d)} {e : It d} (h : e ∈ l) : cntI d e ≤ cntL d l := by
  induction l with
  | nil => cases h
  | cons a r ih =>
    show cntI d e ≤ cntI d a + cntL d r
    rcases List.mem_cons.mp h with rfl | h
    · omega
    · have := ih h
      omega
theorem cnt_rep (d : Nat) (n : Int) (l : List (It d)) : cntI (d + 1) (.inr (n, l)) = 1 + cntL d l := rfl
theorem bits40 {n : Int} (h0 : 0 ≤ n) (h : n < 10 ^ 40) : Builtin.Int.intBits n ≤ 140 := by
  refine intBits_le_iff.mpr ?_
  have e : (10 : Int) ^ 40 < 2 ^ 140 := by decide
  omega
theorem itG_in {ps : List Piece} : ∀ (d : Nat) (i : It d), ItG (· ∈ ps) d i → cntI d i ≤ 61 → ItIn ps d i
  | 0, _, q, _ => q
  | _ + 1, .inl _, q, _ => q
  | d + 1, .inr (n, l), ⟨a, b, c, q⟩, hc => by
    rw [cnt_rep] at hc
    have hl := cnt_len l
    exact ⟨c, by omega, bits40 (by omega) b, fun e he => itG_in d e (q e he) (by have := cnt_mem he; omega)⟩
theorem num40 {n : Nat} (h : n < 10 ^ 40) : (numS n).length ≤ 40 := by
  rw [← cp_len, num_cp]
  exact TL.numL_len (by decide) h
theorem join_ln (ws : List Str) : (Txt.join B1 ws).length ≤ (ws.map fun w => w.length + 1).sum := by
  match ws with
  | [] => exact Nat.le_of_eq (by decide +kernel)
  | [a] =>
    rw [join_one]
    show a.length ≤ a.length + 1 + 0
    omega
  | a :: b :: r =>
    rw [join_more, app_len, app_len, len_b1]
    have := join_ln (b :: r)
    rw [List.map_cons, List.sum_cons]
    omega
def G8 (p : Piece) : Prop := p.nm.length ≤ 8
theorem wr_len : ∀ (d : Nat) (i : It d), ItG G8 d i → (wrI d i).length + 1 ≤ 52 * cntI d i
  | 0, p, q => by
    have q : p.nm.length ≤ 8 := q
    show p.nm.length + 1 ≤ 52 * 1
    omega
  | _ + 1, .inl p, q => by
    have q : p.nm.length ≤ 8 := q
    show p.nm.length + 1 ≤ 52 * 1
    omega
  | d + 1, .inr (n, l), ⟨a, b, c, q⟩ => by
    rw [wrI_rep, cnt_rep, app_len, app_len, app_len, pa1_len, pa2_len]
    have h1 := num40 (n := n.toNat) (by omega)
    have h2 : (wrL d l).length ≤ 52 * cntL d l := Nat.le_trans (join_ln _) (by
      rw [List.map_map]
      clear h1 c
      induction l with
      | nil => exact Nat.zero_le _
      | cons e r ih =>
        rw [List.map_cons, List.sum_cons]
        show (wrI d e).length + 1 + _ ≤ 52 * (cntI d e + cntL d r)
        have h3 := wr_len d e (q e List.mem_cons_self)
        have h4 := ih fun z hz => q z (List.mem_cons_of_mem _ hz)
        omega)
    omega
theorem wrL_len {d : Nat} {l : List (It d)} (h : ∀ e ∈ l, ItG G8 d e) : ((l.map (wrI d)).map fun w => w.length + 1).sum ≤ 52 * cntL d l := by
  rw [List.map_map]
  induction l with
  | nil => exact Nat.zero_le _
  | cons e r ih =>
    rw [List.map_cons, List.sum_cons]
    show (wrI d e).length + 1 + _ ≤ 52 * (cntI d e + cntL d r)
    have h3 := wr_len d e (h e List.mem_cons_self)
    have h4 := ih fun z hz => h z (List.mem_cons_of_mem _ hz)
    omega
theorem sum_plus (ws : List Str) : (ws.map (·.length)).sum + ws.length * B1.length = (ws.map fun w => w.length + 1).sum := by
  rw [len_b1, Nat.mul_one]
  induction ws with
  | nil => rfl
  | cons a r ih =>
    simp only [List.map_cons, List.sum_cons, List.length_cons]
    omega
end Sea
namespace Sea
open PySem PySem.Spec PyProof.Rows L2
/-! write_item, write_roll -/
def spWrI (d : Nat) : Sp := fun vs H Q _ => ∃ (v : V) (i : It d), vs = [v] ∧ ItW d H v i ∧ ItG G8 d i ∧ cntI d i ≤ 1000 ∧ ∀ H', Same H H' → Q (.str (wrI d i)) H'
def spWrL (d : Nat) : Sp := fun vs H Q _ => ∃ (a : Addr) (M : List (V × It d)), vs = [.ref a] ∧ Seq2 H a (M.map (·.1)) ∧ (∀ e ∈ M, ItW d H e.1 e.2 ∧ ItG G8 d e.2) ∧ cntL d (M.map (·.2)) ≤ 1000 ∧ ∀ H', Same H H' → Q (.str (wrL d (M.map (·.2)))) H'
/-- write_item over a promise of write_roll -/
def spWrIN (sp : Sp) : Sp := fun vs H Q _ => ∃ v, vs = [v] ∧ ((∃ z, v = .str z ∧ Q (.str z) H) ∨ ∃ (a b : Addr) (n : Int) (u : Str), v = .ref a ∧ Seq2 H a [.int n, .ref b] ∧ 2 ≤ n ∧ n < 10 ^ 40 ∧ u.length ≤ 60000 ∧ (∀ Q' E', (∀ H', Same H H' → Q' (.str u) H') → sp [.ref b] H Q' E') ∧
  ∀ H', Same H H' → Q (.str (numS n.toNat ++ PA1 ++ u ++ PA2)) H')
theorem log40 {n : Int} (h0 : 2 ≤ n) (h : n < 10 ^ 40) : n.natAbs.log2 < 1920 := pow40 (by omega)
section
variable {P : Program} {w : World} {K : PySem.W.Frag} {mg : Str → Option Value} {base : Heap}
theorem ok_wrI_at {f : Addr} {fd : FuncData} (F : Fun K "write_item" "write_item" s_write_item f fd) (m_isinstance : mg "isinstance" = none) (m_str : mg "str" = none) {k : Nat} {sp : Sp} (c_write_roll : Cal P w K mg base k "write_roll" sp) : FnOk P w K mg base CX0 (k + 1) f fd ["item"] (spWrIN sp) := by
  refine F.ok sc_write_item (fun vs H Q E h => ?_) (fun cdv A outer s H vs Q E hr h => ?_)
  · obtain ⟨v, rfl, _⟩ := h
    rfl
  · obtain ⟨v, rfl, hv⟩ := h
    refine ⟨_, (pss_cons (ps_if (pt_val (pe_callB call_isi (by rfl) m_isinstance (by decide +kernel) (pa_cons (pv 0) (pa_cons (pe_bltn (v := .ty "str") (by rfl) m_str (by decide +kernel) rfl) pa_nil))))
    (pss_one (ps_ret (pv 0)))
    pss_nil)
    (pss_cons (ps_asg (pv 0) (pg_2R rfl (pgs_cons (pg_name (i := 1) sc_write_item.nd rfl (Or.inl rfl)) (pgs_cons (pg_name (i := 2) sc_write_item.nd rfl (Or.inl rfl)) pgs_nil))))
    (pss_one (ps_ret (pe_joined (.cons (pe_fmt (pv 1)) (.cons (pe_str) (.cons (pe_fmt (pe_c c_write_roll hr (Nat.le_refl _) rfl (pa_cons (pv 2) pa_nil))) (.cons (pe_str) .nil))))))))), ?_⟩
    have sl : sizeLine = 16777216 := sizeLine_eq
    have p1 : (Str.ofString "(").length = 1 := pa1_len
    have p2 : (Str.ofString ")").length = 1 := pa2_len
    rcases hv with ⟨z, rfl, q⟩ | ⟨a, b, n, u, rfl, ha, n2, n40, hu, hsub, q⟩
    · exact ⟨_, rfl, _, _, _, _, true, rfl, .ty _, .base (.str z), kit_ty (by decide +kernel), true, rfl, _, rfl, q⟩
    · have en : ((toString n : String) : Str) = numS n.toNat := str_num (by omega)
      have ln := num40 (n := n.toNat) (by omega)
      have ty : ∃ t, TyX K H (.ref a) t ∧ PySem.W.kitOne K t (.type "str") = some false := by
        rcases ha with ha | ha
        · exact ⟨_, .base (.tup ha), kit_ty (by decide +kernel)⟩
        · exact ⟨_, .base (.lst ha), kit_ty (by decide +kernel)⟩
      obtain ⟨t, ty, kk⟩ := ty
      refine ⟨_, rfl, _, _, _, _, false, rfl, .ty _, ty, kk, false, rfl, ?_⟩
      refine ⟨_, rfl, ?_⟩
      have un : ∀ (t : TGs) (σ : L2.St) (Q' : L2.St → Hp → Prop), t [.int n, .ref b] σ H Q' → g2R K 2 t (.ref a) σ H Q' := fun t σ Q' q => by
        rcases ha with ha | ha
        · exact .inr ⟨a, _, rfl, SqT.of ha, rfl, q⟩
        · exact .inl ⟨a, _, rfl, SqL.of ha, rfl, q⟩
      refine un _ _ _ ⟨_, _, rfl, _, _, rfl, rfl, ?_⟩
      refine ⟨_, rfl, .inr ⟨_, rfl, log40 n2 n40, ?_⟩⟩
      rw [en]
      refine ⟨_, rfl, ?_, _, rfl, ?_, _, rfl, hsub _ _ fun H1 s1 => .inl ⟨_, rfl, by omega, _, rfl, ?_, _, rfl, ?_, ?_⟩⟩
      · rw [empty_app]; omega
      · rw [empty_app, app_len]; omega
      · rw [empty_app, app_len, app_len]; omega
      · rw [empty_app, app_len, app_len, app_len]; omega
      · rw [empty_app]
        exact q H1 s1
theorem ok_wrL_at {f : Addr} {fd : FuncData} (F : Fun K "write_roll" "write_roll" s_write_roll f fd) {k d : Nat} (c_write_item : Cal P w K mg base k "write_item" (spWrI d)) : FnOk P w K mg base CX0 (k + 1) f fd ["written"] (spWrL d) := by
  refine F.ok sc_write_roll (fun vs H Q E h => ?_) (fun cdv A outer s H vs Q E hr h => ?_)
  · obtain ⟨a, M, rfl, _⟩ := h
    rfl
  · obtain ⟨a, M, rfl, ha, hM, hc, q⟩ := h
    refine ⟨_, (pss_one (ps_ret (pe_join (pe_str) (pe_lc (own := [("item", 1)]) rfl sc_write_roll.nd (pi_lt (pv 0)) (blkOk_by (N := N_write_roll) (sc := defScope s_write_roll) (by decide +kernel)) (fun _ _ _ _ _ => (pg_name (i := 1) sc_write_roll.nd rfl (Or.inl rfl))) (fun _ _ _ _ _ => pts_nil) (fun _ _ _ _ _ => (pe_c c_write_item hr (Nat.le_refl _) rfl (pa_cons (pv 1) pa_nil))))))), ?_⟩
    have sl : sizeLine = 16777216 := sizeLine_eq
    have lM : M.length ≤ 1000 := by
      have := cnt_len (M.map (·.2))
      rw [List.length_map] at this
      omega
    refine ⟨⟨_, rfl⟩, _, rfl, a, rfl, lt_lcR (xs := M.map (·.1)) (fun D i H' => Same H H' ∧ H' D = some (.lst (((M.take i).map fun e => wrI d e.2).map V.str))) (fun D hD => ⟨same_new hD, upd_same⟩) ?_ ?_ ?_⟩
    · rcases ha with ha | ha
      · exact .inr ⟨SqT.of ha, fun D i H' _ hq => SqT.of (hq.1 _ _ ha)⟩
      · exact .inl ⟨SqL.of ha, fun D i H' _ hq => SqL.of (hq.1 _ _ ha)⟩
    · rintro D i x Ha Hb hD hi ⟨s1, hd⟩ ⟨rfl, hy⟩
      rw [List.getElem?_map] at hy
      cases hMi : M[i]? with
      | none => rw [hMi] at hy; cases hy
      | some e =>
        rw [hMi] at hy
        cases hy
        have hm := List.mem_of_getElem? hMi
        have hce : cntI d e.2 ≤ cntL d (M.map (·.2)) := cnt_mem (List.mem_map_of_mem hm)
        refine ⟨rfl, _, rfl, e.1, e.2, rfl, (hM e hm).1.keep s1 d _ _, (hM e hm).2, by omega, fun H2 s2 => ⟨_, s2 _ _ hd, ?_, same_over (s1.trans s2) hD, ?_⟩⟩
        · rw [List.length_map, List.length_map, List.length_take]
          exact small_line (by omega)
        · rw [upd_same, List.take_add_one, hMi, List.map_append, List.map_append]
          rfl
    · rintro D H1 hD ⟨s1, hd⟩
      rw [List.length_map, List.take_length] at hd
      refine ⟨B1, D, (M.map fun e => wrI d e.2), rfl, rfl, .inl (SqL.of hd), ?_, ?_⟩
      · rw [sum_plus]
        have h0 := wrL_len (d := d) (l := M.map (·.2)) fun e he => by
          obtain ⟨u, hu, rfl⟩ := List.mem_map.mp he
          exact (hM u hu).2
        have e0 : (M.map (·.2)).map (wrI d) = M.map fun e => wrI d e.2 := List.map_map ..
        rw [e0] at h0
        have h1 : 52 * cntL d (M.map (·.2)) ≤ 16777216 := by omega
        exact Nat.le_trans h0 h1
      · have := q H1 s1
        unfold wrL at this
        rw [List.map_map] at this
        exact this
theorem wr_zero {sp : Sp} {vs : List V} {H : Hp} {Q : VK} {E : XK} (h : spWrI 0 vs H Q E) : spWrIN sp vs H Q E := by
  obtain ⟨v, p, rfl, hw, hg, hc, q⟩ := h
  exact ⟨v, rfl, .inl ⟨_, hw, q H (Same.refl H)⟩⟩
theorem wr_succ {d : Nat} {vs : List V} {H : Hp} {Q : VK} {E : XK} (h : spWrI (d + 1) vs H Q E) : spWrIN (spWrL d) vs H Q E := by
  obtain ⟨v, i, rfl, hw, hg, hc, q⟩ := h
  match i, hw, hg, hc, q with
  | .inl p, hw, hg, hc, q => exact ⟨v, rfl, .inl ⟨_, hw, q H (Same.refl H)⟩⟩
  | .inr (n, l), ⟨a, b, M, h1, h2, h3, h4, h5, h6, h7, h8⟩, ⟨g1, g2, g3, g4⟩, hc, q =>
    rw [cnt_rep] at hc
    have lw : (wrL d l).length ≤ 52 * cntL d l := Nat.le_trans (join_ln _) (wrL_len g4)
    refine ⟨v, rfl, .inr ⟨a, b, n, wrL d l, h1, h2, g1, g2, by omega, fun Q' E' q' => ?_, fun H' s => q H' s⟩⟩
    subst h4
    exact ⟨b, M, rfl, h3, fun e he => ⟨h8 e he, g4 _ (List.mem_map_of_mem he)⟩, by omega, q'⟩
theorem ok_wr {fI fL : Addr} {fdI fdL : FuncData} (FI : Fun K "write_item" "write_item" s_write_item fI fdI) (FL : Fun K "write_roll" "write_roll" s_write_roll fL fdL) (m_isinstance : mg "isinstance" = none) (m_str : mg "str" = none)
    (gI : mg "write_item" = some (.ref fI)) (kI : PySem.W.keepIn K (.ref fI) = true) (bI : Binds K fdI ["item"] []) (gL : mg "write_roll" = some (.ref fL)) (kL : PySem.W.keepIn K (.ref fL) = true) (bL : Binds K fdL ["written"] []) :
    ∀ d : Nat, FnOk P w K mg base CX0 (1 + 2 * d) fI fdI ["item"] (spWrI d) ∧ FnOk P w K mg base CX0 (2 + 2 * d) fL fdL ["written"] (spWrL d)
  | 0 => by
    have f0 : FnOk P w K mg base CX0 0 fL fdL ["written"] spNever := ⟨fun _ _ _ _ h => h.elim, fun _ _ _ _ _ _ _ _ _ _ _ _ _ h => h.elim⟩
    have h1 : FnOk P w K mg base CX0 1 fI fdI ["item"] (spWrI 0) := (ok_wrI_at FI m_isinstance m_str ⟨fL, fdL, _, f0, gL, kL, bL⟩).imp fun vs H Q E h => wr_zero h
    exact ⟨h1, ok_wrL_at FL ⟨fI, fdI, _, h1, gI, kI, bI⟩⟩
  | d + 1 => by
    obtain ⟨_, h2⟩ := ok_wr FI FL m_isinstance m_str gI kI bI gL kL bL d
    have h1 : FnOk P w K mg base CX0 (1 + 2 * (d + 1)) fI fdI ["item"] (spWrI (d + 1)) := by
      have := (ok_wrI_at FI m_isinstance m_str ⟨fL, fdL, _, h2, gL, kL, bL⟩).imp fun vs H Q E h => wr_succ h
      rw [show 1 + 2 * (d + 1) = 2 + 2 * d + 1 by omega]
      exact this
    refine ⟨h1, ?_⟩
    have := ok_wrL_at FL (d := d + 1) ⟨fI, fdI, _, h1, gI, kI, bI⟩
    rw [show 2 + 2 * (d + 1) = 1 + 2 * (d + 1) + 1 by omega]
    exact this
end
end Sea
namespace Sea
open PySem PySem.Spec PyProof.Rows L2
/-! run_end, stands, is_times -/
/-- how many signs of S stand at the beginning -/
def runN (S : List Nat) : List Nat → Nat
  | [] => 0
  | c :: r => if c ∈ S then runN S r + 1 else 0
theorem runN_all {S : List Nat} : ∀ {l r : List Nat}, (∀ c ∈ l, c ∈ S) → (∀ c, r.head? = some c → c ∉ S) → runN S (l ++ r) = l.length
  | [], [], _, _ => rfl
  | [], c :: r, _, h => if_neg (h c rfl)
  | c :: l, r, h, h2 => by
    show (if c ∈ S then runN S (l ++ r) + 1 else 0) = l.length + 1
    rw [if_pos (h c List.mem_cons_self), runN_all (fun d hd => h d (List.mem_cons_of_mem _ hd)) h2]
def spRun : Sp := fun vs H Q _ => ∃ (z S : Str) (a : Nat), vs = [.str z, .int (a : Nat), .str S] ∧ a ≤ z.length ∧ z.length ≤ 100000 ∧ Q (.int ((a + runN (cp S) ((cp z).drop a) : Nat))) H
def spStands : Sp := fun vs H Q _ => ∃ (z y : Str) (a c : Nat), vs = [.str z, .int (a : Nat), .str y] ∧ z.length ≤ 100000 ∧ cp y = [c] ∧ Q (.bl (decide ((cp z)[a]? = some c))) H
def spTimes : Sp := fun vs H Q _ => ∃ n : Nat, vs = [.str (numS n)] ∧ 2 ≤ n ∧ n < 10 ^ 40 ∧ Q (.bl true) H
theorem drop_atc {z : List Nat} {b : Nat} {c : Nat} (h : z[b]? = some c) : z.drop b = c :: z.drop (b + 1) := by
  have hb := (List.getElem?_eq_some_iff.mp h).1
  rw [List.drop_eq_getElem_cons hb]
  have := (List.getElem?_eq_some_iff.mp h).2
  rw [this]
section
variable {P : Program} {w : World} {K : PySem.W.Frag} {mg : Str → Option Value} {base : Heap}
theorem ok_run {f : Addr} {fd : FuncData} (F : Fun K "run_end" "run_end" s_run_end f fd) (m_len : mg "len" = none) : FnOk P w K mg base CX0 1 f fd ["text", "at", "signs"] spRun := by
  refine F.ok sc_run_end (fun vs H Q E h => ?_) (fun cdv A outer s H vs Q E hr h => ?_)
  · obtain ⟨z, S, a, rfl, _⟩ := h
    rfl
  · obtain ⟨z, S, a, rfl, ha, hz, q⟩ := h
    refine ⟨_, (pss_cons (ps_while PassesOwn.never (PW.pt (pw_and (pt_cmpR op_lt (pv 1) (pe_callB call_len (by rfl) m_len (by decide +kernel) (pa_cons (pv 0) pa_nil)) (nomark _)) (pw_and1 (pt_cmpR op_in_sign (pe_ix ix_str (pv 0) (pv 1) (fun _ _ => rfl)) (pv 2) rfl))))
    (pss_one (ps_aug (i := 1) sc_run_end.nd rfl (Or.inl rfl) (pe_int) ip_add)))
    (pss_one (ps_ret (pv 1)))), ?_⟩
    have sl : sizeLine = 16777216 := sizeLine_eq
    have hl : (cp z).length = z.length := cp_len z
    refine ⟨fun m σ H' => ∃ b : Nat, m = z.length - b ∧ b ≤ z.length ∧ b + runN (cp S) ((cp z).drop b) = a + runN (cp S) ((cp z).drop a) ∧ σ = [some (.str z), some (.int (b : Nat)), some (.str S)] ∧ H' = H, ⟨_, a, rfl, ha, rfl, rfl, rfl⟩, ?_⟩
    rintro m σ H1 ⟨b, rfl, hb, hr2, rfl, rfl⟩
    refine ⟨_, rfl, _, rfl, _, z.length, rfl, ⟨by omega, rfl⟩, _, _, rfl, rfl, _, rfl, ?_⟩
    by_cases hlt : b < z.length
    · rw [decide_eq_true (show ((b : Nat) : Int) < ((z.length : Nat) : Int) by omega)]
      obtain ⟨c, hc⟩ : ∃ c, (cp z)[b]? = some c := ⟨_, List.getElem?_eq_getElem (by omega)⟩
      have hd := drop_atc hc
      refine iteT ⟨_, rfl, _, rfl, z, _, c, rfl, rfl, by omega, atI_nat (j := b) hc, _, rfl, c, S, rfl, rfl, _, rfl, ?_⟩
      by_cases hS : c ∈ cp S
      · rw [show decide (c ∈ S.cps.toList) = true from decide_eq_true hS]
        refine iteT ⟨fun σ' H' => σ' = [some (.str z), some (.int ((b + 1 : Nat))), some (.str S)] ∧ H' = H1, ?_, ?_⟩
        · rintro σ' H' ⟨rfl, rfl⟩
          refine ⟨z.length - (b + 1), by omega, b + 1, rfl, by omega, ?_, rfl, rfl⟩
          rw [hd] at hr2
          have e : runN (cp S) (c :: (cp z).drop (b + 1)) = runN (cp S) ((cp z).drop (b + 1)) + 1 := if_pos hS
          omega
        · refine ⟨_, rfl, _, _, rfl, rfl, rfl, rfl⟩
      · rw [show decide (c ∈ S.cps.toList) = false from decide_eq_false hS]
        refine iteF ?_
        rw [hd] at hr2
        have e : runN (cp S) (c :: (cp z).drop (b + 1)) = 0 := if_neg hS
        refine ⟨_, rfl, ?_⟩
        have : a + runN (cp S) ((cp z).drop a) = b := by omega
        rw [this] at q
        exact q
    · rw [decide_eq_false (show ¬ ((b : Nat) : Int) < ((z.length : Nat) : Int) by omega)]
      refine iteF ?_
      have e : (cp z).drop b = [] := List.drop_eq_nil_of_le (by omega)
      rw [e] at hr2
      have e2 : runN (cp S) [] = 0 := rfl
      refine ⟨_, rfl, ?_⟩
      have : a + runN (cp S) ((cp z).drop a) = b := by omega
      rw [this] at q
      exact q
theorem ok_stands {f : Addr} {fd : FuncData} (F : Fun K "stands" "stands" s_stands f fd) (m_len : mg "len" = none) : FnOk P w K mg base CX0 1 f fd ["text", "at", "sign"] spStands := by
  refine F.ok sc_stands (fun vs H Q E h => ?_) (fun cdv A outer s H vs Q E hr h => ?_)
  · obtain ⟨z, y, a, c, rfl, _⟩ := h
    rfl
  · obtain ⟨z, y, a, c, rfl, hz, hy, q⟩ := h
    refine ⟨_, (pss_one (ps_ret (pe_and (pe_cmpR op_lt (pv 1) (pe_callB call_len (by rfl) m_len (by decide +kernel) (pa_cons (pv 0) pa_nil)) (nomark _)) (pe_one (pe_cmpR op_eq (pe_ix ix_str (pv 0) (pv 1) (fun _ _ => rfl)) (pv 2) (nomark _)))))), ?_⟩
    have sl : sizeLine = 16777216 := sizeLine_eq
    have hl : (cp z).length = z.length := cp_len z
    refine ⟨_, rfl, _, rfl, _, z.length, rfl, ⟨by omega, rfl⟩, _, _, rfl, rfl, _, rfl, ?_⟩
    by_cases hlt : a < z.length
    · rw [decide_eq_true (show ((a : Nat) : Int) < ((z.length : Nat) : Int) by omega)]
      obtain ⟨d, hd⟩ : ∃ d, (cp z)[a]? = some d := ⟨_, List.getElem?_eq_getElem (by omega)⟩
      refine iteT ⟨_, rfl, _, rfl, z, _, d, rfl, rfl, by omega, atI_nat (j := a) hd, _, rfl, rfl, ?_⟩
      rw [hd] at q
      have e : decide (V.str ⟨#[d]⟩ = V.str y) = decide (some d = some c) := decide_eq_decide.mpr ⟨fun h => by
        have := congrArg cp (V.str.inj h)
        rw [hy] at this
        rw [show d = c from (List.cons.inj this).1], fun h => by
        cases h
        refine congrArg V.str (cp_inj ?_)
        rw [hy]⟩
      rw [e]
      exact q
    · rw [decide_eq_false (show ¬ ((a : Nat) : Int) < ((z.length : Nat) : Int) by omega)]
      refine iteF ?_
      rw [List.getElem?_eq_none (by omega)] at q
      exact q
theorem ok_times {f : Addr} {fd : FuncData} (F : Fun K "is_times" "is_times" s_is_times f fd) (m_len : mg "len" = none) {t : Tok} (g_MOST_DIGITS : mg "MOST_DIGITS" = some (.int 40 t)) : FnOk P w K mg base CX0 1 f fd ["digits"] spTimes := by
  refine F.ok sc_is_times (fun vs H Q E h => ?_) (fun cdv A outer s H vs Q E hr h => ?_)
  · obtain ⟨n, rfl, _⟩ := h
    rfl
  · obtain ⟨n, rfl, n2, n40, q⟩ := h
    refine ⟨_, (pss_one (ps_ret (pe_and (pe_cmpR op_le (pe_callB call_len (by rfl) m_len (by decide +kernel) (pa_cons (pv 0) pa_nil)) (pe_glob (v := .int 40) rfl g_MOST_DIGITS ⟨_, rfl⟩) (nomark _)) (pe_and (pe_cmpR op_ne (pe_ix ix_str (pv 0) (pe_int) (fun _ _ => rfl)) (pe_str) (nomark _)) (pe_one (pe_cmpR op_ne (pv 0) (pe_str) (nomark _))))))), ?_⟩
    have sl : sizeLine = 16777216 := sizeLine_eq
    have l40 := num40 n40
    refine ⟨_, rfl, _, _, rfl, ⟨by omega, rfl⟩, _, _, rfl, rfl, _, rfl, ?_⟩
    rw [decide_eq_true (show (((numS n).length : Nat) : Int) ≤ 40 by omega)]
    obtain ⟨c, hc, h48⟩ := num_head n (by omega)
    refine iteT ⟨_, rfl, _, _, c, rfl, rfl, by omega, atI_nat (j := 0) (by show (cp (numS n))[0]? = _; rw [num_cp]; exact hc), rfl, _, rfl, ?_⟩
    have e1 : (!decide (V.str ⟨#[c]⟩ = V.str (Str.ofString "0"))) = true := by
      rw [decide_eq_false fun h => h48 ?_]
      · rfl
      · have := congrArg cp (V.str.inj h)
        exact (List.cons.inj this).1
    rw [e1]
    refine iteT ⟨_, rfl, rfl, ?_⟩
    have e2 : (!decide (V.str (numS n) = V.str (Str.ofString "1"))) = true := by
      rw [decide_eq_false fun h => ?_]
      · rfl
      · have e3 : numS 1 = Str.ofString "1" := by decide +kernel
        rw [← e3] at h
        have := congrArg cp (V.str.inj h)
        rw [num_cp, num_cp] at this
        have := TL.numL_inj this
        omega
    rw [e2]
    exact q
end
end Sea
namespace Sea
open PySem PySem.Spec PyProof.Rows L2
/-! read_item, read_items -/
def Stop (post : List Nat) : Prop := ∀ c, post.head? = some c → c = 32 ∨ c = 41
def StopL (post : List Nat) : Prop := ∀ c, post.head? = some c → c = 41
theorem adv {z l post : List Nat} {b : Nat} (h : z.drop b = l ++ post) : z.drop (b + l.length) = post := by
  rw [← List.drop_drop, h, List.drop_left]
theorem adv_le {z l post : List Nat} {b : Nat} (hb : b ≤ z.length) (h : z.drop b = l ++ post) : b + l.length ≤ z.length := by
  have := congrArg List.length h
  rw [List.length_drop, List.length_append] at this
  omega
theorem cutS_mid (z : Str) (a n : Nat) (h : a + n ≤ z.length) : cp (cutS z (some ((a : Nat) : Int)) (some ((a + n : Nat) : Int))) = ((cp z).drop a).take n := by
  show (((z.cps.toList.drop (HT.sIx z.length 0 (some ((a : Nat) : Int)))).take (HT.sIx z.length z.length (some ((a + n : Nat) : Int)) - HT.sIx z.length 0 (some ((a : Nat) : Int)))).toArray).toList = _
  rw [HT.sIx_nat, HT.sIx_nat, Nat.min_eq_left h, Nat.min_eq_left (by omega), Nat.add_sub_cancel_left]
theorem cut_word {z y : Str} {a : Nat} {post : List Nat} (h : (cp z).drop a = cp y ++ post) (ha : a ≤ z.length) : cutS z (some ((a : Nat) : Int)) (some ((a + (cp y).length : Nat) : Int)) = y := by
  have h2 := adv_le (z := cp z) (by rw [cp_len]; exact ha) h
  rw [cp_len z] at h2
  refine cp_inj ?_
  rw [cutS_mid _ _ _ h2, h, List.take_left]
def spRdIN (CP CR : Addr) (sp : Sp) : Sp := fun vs H Q _ => ∃ (x : Addr) (z : Str) (a dep : Nat) (len : Int) (L : List (Addr × Cue)) (ps : List Piece) (as : List (Str × Str)) (ss es : List Str) (post : List Nat), vs = [.ref x, .str z, .int (a : Nat), .int (dep : Nat)] ∧ PlanAt H CR CP x len L ps as ss es ∧
  z.length ≤ 100000 ∧ a ≤ z.length ∧
  ((∃ p ∈ ps, (cp z).drop a = cp p.nm ++ post ∧ Stop post ∧ ∀ H' r, Same H H' → H' r = some (.tup [.str p.nm, .int ((a + (cp p.nm).length : Nat))]) → Q (.ref r) H') ∨
   ∃ (n : Nat) (u : List Nat) (R : Hp → Addr → Prop), 2 ≤ n ∧ n < 10 ^ 40 ∧ dep < 5 ∧ (cp z).drop a = cp (numS n) ++ 40 :: (u ++ 41 :: post) ∧
     (∀ H1 Q1 E1, Same H H1 → (∀ H2 r j, Same H1 H2 → H2 r = some (.tup [.ref j, .int ((a + (cp (numS n)).length + 1 + u.length : Nat))]) → R H2 j → Q1 (.ref r) H2) → sp [.ref x, .str z, .int ((a + (cp (numS n)).length + 1 : Nat)), .int ((dep + 1 : Nat))] H1 Q1 E1) ∧
     ∀ H1 H' r v j, Same H H1 → R H1 j → Same H1 H' → H' r = some (.tup [.ref v, .int ((a + (cp (numS n)).length + 1 + u.length + 1 : Nat))]) → H' v = some (.tup [.int (n : Nat), .ref j]) → Q (.ref r) H')
theorem let_no {c : Nat} (h : c = 32 ∨ c = 41 ∨ c = 40 ∨ (48 ≤ c ∧ c ≤ 57)) : c ∉ cp LET := fun e => by
  have := in_let.mp e
  omega
section
variable {P : Program} {w : World} {K : PySem.W.Frag} {mg : Str → Option Value} {base : Heap} {CR CP fP : Addr}
theorem ok_rdI_at {f : Addr} {fd : FuncData} (F : Fun K "read_item" "read_item" s_read_item f fd) (TP : PlC K mg CP fP) (C : OwnC P w K mg base CP CR) (m_int : mg "int" = none) {t1 t2 t3 : Tok} (g_LETTERS : mg "LETTERS" = some (.str LET t1)) (g_DIGITS : mg "DIGITS" = some (.str DIG t2)) (g_MOST_DEEP : mg "MOST_DEEP" = some (.int 5 t3))
    (c_run_end : Cal P w K mg base 1 "run_end" spRun) (c_is_times : Cal P w K mg base 1 "is_times" spTimes) (c_stands : Cal P w K mg base 1 "stands" spStands) {k : Nat} (hk : 1 ≤ k) {sp : Sp} (c_read_items : Cal P w K mg base k "read_items" sp) : FnOk P w K mg base CX0 (k + 1) f fd ["plan", "text", "at", "depth"] (spRdIN CP CR sp) := by
  obtain ⟨fC, fdC, OC, hs, hf, hb⟩ := C.ex
  refine F.ok sc_read_item (fun vs H Q E h => ?_) (fun cdv A outer s H vs Q E hr h => ?_)
  · obtain ⟨x, z, a, dep, len, L, ps, as, ss, es, post, rfl, _⟩ := h
    rfl
  · obtain ⟨x, z, a, dep, len, L, ps, as, ss, es, post, rfl, hP, hz, ha, ways⟩ := h
    obtain ⟨dx, xr, pt, nt, at', st, et, dP, dF, dS, dB, dT, dQ, hx, B⟩ := id hP
    refine ⟨_, (pss_cons (ps_set (i := 4) sc_read_item.nd rfl (Or.inl rfl) (pe_c c_run_end hr (by omega) rfl (pa_cons (pv 1) (pa_cons (pv 2) (pa_cons (pe_glob (v := .str LET) rfl g_LETTERS ⟨_, rfl⟩) pa_nil)))))
    (pss_cons (ps_if (pt_cmpR op_gt (pv 4) (pv 2) (nomark _))
    (pss_cons (ps_if (pt_cmpR (op_ownNotIn OC hr (by omega) hs hf hb) (pe_slice sl_str (pv 1) (po_some (pv 2)) (po_some (pv 4))) (pv 0) rfl)
    (pss_one ps_never)
    pss_nil)
    (pss_one (ps_ret (pe_tup (pa_cons (pe_slice sl_str (pv 1) (po_some (pv 2)) (po_some (pv 4))) (pa_cons (pv 4) pa_nil))))))
    pss_nil)
    (pss_cons (ps_set (i := 4) sc_read_item.nd rfl (Or.inl rfl) (pe_c c_run_end hr (by omega) rfl (pa_cons (pv 1) (pa_cons (pv 2) (pa_cons (pe_glob (v := .str DIG) rfl g_DIGITS ⟨_, rfl⟩) pa_nil)))))
    (pss_cons (ps_if (PW.pt (pw_or (pt_cmpR op_eq (pv 4) (pv 2) (nomark _)) (pw_or1 (pt_not (pt_val (pe_c c_is_times hr (by omega) rfl (pa_cons (pe_slice sl_str (pv 1) (po_some (pv 2)) (po_some (pv 4))) pa_nil)))))))
    (pss_one ps_never)
    pss_nil)
    (pss_cons (ps_if (PW.pt (pw_or (pt_not (pt_val (pe_c c_stands hr (by omega) rfl (pa_cons (pv 1) (pa_cons (pv 4) (pa_cons (pe_str) pa_nil)))))) (pw_or1 (pt_cmpR op_eq (pv 3) (pe_glob (v := .int 5) rfl g_MOST_DEEP ⟨_, rfl⟩) (nomark _)))))
    (pss_one ps_never)
    pss_nil)
    (pss_cons (ps_asg (pe_c c_read_items hr (Nat.le_refl _) rfl (pa_cons (pv 0) (pa_cons (pv 1) (pa_cons (pe_op op_add (pv 4) (pe_int)) (pa_cons (pe_op op_add (pv 3) (pe_int)) pa_nil))))) (pg_tup rfl (pgs_cons (pg_name (i := 5) sc_read_item.nd rfl (Or.inl rfl)) (pgs_cons (pg_name (i := 6) sc_read_item.nd rfl (Or.inl rfl)) pgs_nil))))
    (pss_cons (ps_if (pt_not (pt_val (pe_c c_stands hr (by omega) rfl (pa_cons (pv 1) (pa_cons (pv 6) (pa_cons (pe_str) pa_nil))))))
    (pss_one ps_never)
    pss_nil)
    (pss_one (ps_ret (pe_tup (pa_cons (pe_tup (pa_cons (pe_callTy call_int_str (by rfl) m_int (by decide +kernel) (pa_cons (pe_slice sl_str (pv 1) (po_some (pv 2)) (po_some (pv 4))) pa_nil)) (pa_cons (pv 5) pa_nil))) (pa_cons (pe_op op_add (pv 6) (pe_int)) pa_nil)))))))))))), ?_⟩
    have sl : sizeLine = 16777216 := sizeLine_eq
    have hl : (cp z).length = z.length := cp_len z
    refine ⟨_, rfl, _, rfl, z, LET, a, rfl, ha, hz, ?_⟩
    rcases ways with ⟨p, hp, hd, hst, q⟩ | ⟨n, u, R, n2, n40, hdep, hd, hsub, q⟩
    · have nw := (B.good p hp).nm
      have er : runN (cp LET) ((cp z).drop a) = (cp p.nm).length := by
        rw [hd]
        refine runN_all (fun c hc => in_let.mpr (nw.sign c hc)) fun c h => let_no ?_
        rcases hst c h with h | h <;> omega
      have l1 := nw.some
      have hle := adv_le (z := cp z) (by omega) hd
      have ew := cut_word (z := z) (y := p.nm) hd ha
      rw [er]
      refine ⟨_, rfl, _, rfl, _, _, rfl, rfl, _, rfl, ?_⟩
      rw [show decide (((a : Nat) : Int) < ((a + (cp p.nm).length : Nat) : Int)) = true from decide_eq_true (by omega)]
      refine iteT ?_
      have sv : ∀ (σ : L2.St) (Q' : VK), σ = ([some (.ref x), some (.str z), some (.int (a : Nat)), some (.int (dep : Nat)), some (.int ((a + (cp p.nm).length : Nat))), none, none] : List (Option V)) → Q' (.str p.nm) H → tSl rSlS (tVar 1) (tPart (tVar 2)) (tPart (tVar 4)) σ H Q' := fun σ Q' e q' => by
        subst e
        refine ⟨_, rfl, _, rfl, _, rfl, _, rfl, _, rfl, z, rfl, by omega, ?_⟩
        rw [ew]
        exact q'
      refine sv _ _ rfl ⟨_, rfl, x, dx, _, rfl, hx, x, .str p.nm, len, L, ps, as, ss, es, rfl, hP, .inl trivial, _, rfl, _, rfl, ?_⟩
      show (if (!decide (p.nm ∈ ps.map (·.nm))) = true then _ else _)
      rw [decide_eq_true (List.mem_map.mpr ⟨p, hp, rfl⟩)]
      refine iteF ?_
      refine sv _ _ rfl ⟨_, rfl, (by show 2 ≤ sizeLine; omega), fun r hr0 => ?_⟩
      exact q _ r (same_new hr0) upd_same
    · have e1 : runN (cp LET) ((cp z).drop a) = 0 := by
        rw [hd]
        obtain ⟨c, hc, _⟩ := num_head n (by omega)
        cases hn : cp (numS n) with
        | nil => rw [num_cp] at hn; rw [hn] at hc; cases hc
        | cons c r =>
          have hd2 : 48 ≤ c ∧ c ≤ 57 := num_dig (n := n) (by rw [hn]; exact List.mem_cons_self)
          exact if_neg (let_no (by omega))
      rw [e1]
      refine ⟨_, rfl, _, rfl, _, _, rfl, rfl, _, rfl, ?_⟩
      rw [show decide (((a : Nat) : Int) < ((a + 0 : Nat) : Int)) = false from decide_eq_false (by omega)]
      refine iteF ?_
      have e2 : runN (cp DIG) ((cp z).drop a) = (cp (numS n)).length := by
        rw [hd]
        refine runN_all (fun c hc => in_dig.mpr (num_dig hc)) fun c h => ?_
        have h : 40 = c := Option.some.inj h
        intro e
        have := in_dig.mp e
        omega
      have hle := adv_le (z := cp z) (by omega) hd
      have hl1 : 1 ≤ (cp (numS n)).length := by rw [cp_len]; exact num_one n
      have ew := cut_word (z := z) (y := numS n) hd ha
      refine ⟨_, rfl, _, rfl, z, DIG, a, rfl, ha, hz, ?_⟩
      rw [e2]
      have l40 := num40 n40
      have sv : ∀ (σ : L2.St) (H1 : Hp) (Q' : VK) (o5 o6 : Option V), σ = ([some (.ref x), some (.str z), some (.int (a : Nat)), some (.int (dep : Nat)), some (.int ((a + (cp (numS n)).length : Nat))), o5, o6] : List (Option V)) → Q' (.str (numS n)) H1 → tSl rSlS (tVar 1) (tPart (tVar 2)) (tPart (tVar 4)) σ H1 Q' := fun σ H1 Q' o5 o6 e q' => by
        subst e
        refine ⟨_, rfl, _, rfl, _, rfl, _, rfl, _, rfl, z, rfl, by omega, ?_⟩
        rw [ew]
        exact q'
      refine ⟨_, rfl, _, rfl, rfl, _, rfl, ?_⟩
      rw [show decide (V.int ((a + (cp (numS n)).length : Nat)) = V.int (a : Nat)) = false from decide_eq_false fun h => by have := V.int.inj h; omega]
      refine iteF ?_
      refine sv _ _ _ _ _ rfl ⟨n, rfl, n2, n40, _, rfl, ?_⟩
      refine iteF ?_
      have hd3 : (cp z)[a + (cp (numS n)).length]? = some 40 := by
        rw [← List.head?_drop, adv hd]
        rfl
      refine ⟨_, rfl, _, rfl, z, _, a + (cp (numS n)).length, 40, rfl, hz, pa1_cp, ?_⟩
      rw [decide_eq_true hd3]
      refine ⟨_, rfl, iteF ?_⟩
      refine ⟨_, rfl, rfl, _, rfl, ?_⟩
      rw [show decide (V.int (dep : Nat) = V.int 5) = false from decide_eq_false fun h => by have := V.int.inj h; omega]
      refine iteF ?_
      refine ⟨_, rfl, _, rfl, _, rfl, _, _, rfl, rfl, _, rfl, _, _, rfl, rfl, ?_⟩
      refine hsub H _ _ (Same.refl H) fun H2 r j s2 hr2 hRj => ?_
      refine ⟨r, _, rfl, SqT.of hr2, rfl, _, _, rfl, _, _, rfl, rfl, ?_⟩
      have e41 : (cp z)[a + (cp (numS n)).length + 1 + u.length]? = some 41 := by
        have h1 := adv hd
        have h2 : (cp z).drop (a + (cp (numS n)).length) = (40 :: u) ++ 41 :: post := h1
        have h3 := adv h2
        rw [List.length_cons, show a + (cp (numS n)).length + (u.length + 1) = a + (cp (numS n)).length + 1 + u.length by omega] at h3
        rw [← List.head?_drop, h3]
        rfl
      refine ⟨_, rfl, _, rfl, z, _, a + (cp (numS n)).length + 1 + u.length, 41, rfl, hz, pa2_cp, ?_⟩
      rw [decide_eq_true e41]
      refine ⟨_, rfl, iteF ?_⟩
      have hi : PySem.intText? (numS n) = some ((n : Nat) : Int) := TL.int_num (by rw [← num_cp, cp_len]; omega)
      refine sv _ _ _ _ _ rfl ⟨_, _, rfl, hi, by omega, ?_⟩
      refine ⟨_, rfl, (by show 2 ≤ sizeLine; omega), fun v hv => ?_⟩
      have s3 := same_new (o := HO.tup [V.int (n : Nat), V.ref j]) hv
      refine ⟨_, rfl, _, _, rfl, rfl, (by show 2 ≤ sizeLine; omega), fun r2 hr20 => ?_⟩
      have s4 := same_new (o := HO.tup [V.ref v, V.int ((a + (cp (numS n)).length + 1 + u.length : Nat) + 1)]) hr20
      exact q _ _ r2 v j s2 hRj (fun b o h => s4 _ _ (s3 _ _ h)) upd_same (s4 _ _ upd_same)
end
end Sea
namespace Sea
open PySem PySem.Spec PyProof.Rows L2
/-! read_items, and both at every depth -/
def spRdI (CP CR : Addr) (d : Nat) : Sp := fun vs H Q _ => ∃ (x : Addr) (z : Str) (a dep : Nat) (len : Int) (L : List (Addr × Cue)) (ps : List Piece) (as : List (Str × Str)) (ss es : List Str) (i : It d) (post : List Nat), vs = [.ref x, .str z, .int (a : Nat), .int (dep : Nat)] ∧ PlanAt H CR CP x len L ps as ss es ∧
  z.length ≤ 100000 ∧ a ≤ z.length ∧ dep + d ≤ 5 ∧ ItG (· ∈ ps) d i ∧ cntI d i ≤ 1000 ∧ (cp z).drop a = tI d i ++ post ∧ Stop post ∧ ∀ H' r v, Same H H' → H' r = some (.tup [v, .int ((a + (tI d i).length : Nat))]) → ItV d H' v i → Q (.ref r) H'
def spRdL (CP CR : Addr) (d : Nat) : Sp := fun vs H Q _ => ∃ (x : Addr) (z : Str) (a dep : Nat) (len : Int) (L : List (Addr × Cue)) (ps : List Piece) (as : List (Str × Str)) (ss es : List Str) (M : List (It d)) (post : List Nat), vs = [.ref x, .str z, .int (a : Nat), .int (dep : Nat)] ∧ PlanAt H CR CP x len L ps as ss es ∧
  z.length ≤ 100000 ∧ a ≤ z.length ∧ dep + d ≤ 5 ∧ 1 ≤ M.length ∧ (∀ i ∈ M, ItG (· ∈ ps) d i) ∧ cntL d M ≤ 1000 ∧ (cp z).drop a = tL d M ++ post ∧ StopL post ∧ ∀ H' r j ys, Same H H' → H' r = some (.tup [.ref j, .int ((a + (tL d M).length : Nat))]) → H' j = some (.tup ys) → Paired (ItV d H') ys M → Q (.ref r) H'
theorem stop_sp {d : Nat} {l : List (It d)} {post : List Nat} (h : StopL post) : Stop (sp32 (l.map (tI d)) ++ post) := fun c hc => by
  cases l with
  | nil => exact .inr (h c hc)
  | cons a r => exact .inl (Option.some.inj hc).symm
theorem head_sp {d : Nat} {l : List (It d)} {post : List Nat} (h : StopL post) : ((sp32 (l.map (tI d)) ++ post).head? = some 32) ↔ l ≠ [] := by
  cases l with
  | nil =>
    refine ⟨fun e => ?_, fun e => absurd rfl e⟩
    have := h 32 e
    omega
  | cons a r => exact ⟨fun _ => (by intro e; cases e), fun _ => rfl⟩
section
variable {P : Program} {w : World} {K : PySem.W.Frag} {mg : Str → Option Value} {base : Heap} {CR CP fP : Addr}
theorem ok_rdL_at {f : Addr} {fd : FuncData} (F : Fun K "read_items" "read_items" s_read_items f fd) (m_tuple : mg "tuple" = none) (c_stands : Cal P w K mg base 1 "stands" spStands) {k d : Nat} (hk : 1 ≤ k) (c_read_item : Cal P w K mg base k "read_item" (spRdI CP CR d)) : FnOk P w K mg base CX0 (k + 1) f fd ["plan", "text", "at", "depth"] (spRdL CP CR d) := by
  refine F.ok sc_read_items (fun vs H Q E h => ?_) (fun cdv A outer s H vs Q E hr h => ?_)
  · obtain ⟨x, z, a, dep, len, L, ps, as, ss, es, M, post, rfl, _⟩ := h
    rfl
  · obtain ⟨x, z, a, dep, len, L, ps, as, ss, es, M, post, rfl, hP, hz, ha, hdd, hM1, hG, hc, hd, hst, q⟩ := h
    refine ⟨_, (pss_cons (ps_asg (pe_c c_read_item hr (Nat.le_refl _) rfl (pa_cons (pv 0) (pa_cons (pv 1) (pa_cons (pv 2) (pa_cons (pv 3) pa_nil))))) (pg_tup rfl (pgs_cons (pg_name (i := 4) sc_read_items.nd rfl (Or.inl rfl)) (pgs_cons (pg_name (i := 2) sc_read_items.nd rfl (Or.inl rfl)) pgs_nil))))
    (pss_cons (ps_set (i := 5) sc_read_items.nd rfl (Or.inl rfl) (pe_lst (pa_cons (pv 4) pa_nil)))
    (pss_cons (ps_while PassesOwn.never (pt_val (pe_c c_stands hr (by omega) rfl (pa_cons (pv 1) (pa_cons (pv 2) (pa_cons (pe_str) pa_nil)))))
    (pss_cons (ps_asg (pe_c c_read_item hr (Nat.le_refl _) rfl (pa_cons (pv 0) (pa_cons (pv 1) (pa_cons (pe_op op_add (pv 2) (pe_int)) (pa_cons (pv 3) pa_nil))))) (pg_tup rfl (pgs_cons (pg_name (i := 4) sc_read_items.nd rfl (Or.inl rfl)) (pgs_cons (pg_name (i := 2) sc_read_items.nd rfl (Or.inl rfl)) pgs_nil))))
    (pss_one (ps_expr (pe_bm PySem.F.plainAttrs_list PySem.F.slot_list_append PySem.F.type_list_append mt_append (pv 5) (pa_cons (pv 4) pa_nil))))))
    (pss_one (ps_ret (pe_tup (pa_cons (pe_callTy call_tuple_of (by rfl) m_tuple (by decide +kernel) (pa_cons (pv 5) pa_nil)) (pa_cons (pv 2) pa_nil)))))))), ?_⟩
    obtain ⟨m0, M, rfl⟩ : ∃ m0 r, M = m0 :: r := by
      cases M with
      | nil => simp at hM1
      | cons m r => exact ⟨m, r, rfl⟩
    have sl : sizeLine = 16777216 := sizeLine_eq
    have hl : (cp z).length = z.length := cp_len z
    have lM := cnt_len (m0 :: M)
    rw [List.length_cons] at lM
    rw [tL_cons, List.append_assoc] at hd
    rw [tL_cons] at q
    have hle0 := adv_le (z := cp z) (by omega) hd
    refine ⟨_, rfl, _, rfl, _, rfl, _, rfl, x, z, a, dep, len, L, ps, as, ss, es, m0, _, rfl, hP, hz, ha, hdd, hG m0 List.mem_cons_self, by have := cnt_mem (l := m0 :: M) List.mem_cons_self; omega, hd, stop_sp hst, fun H1 r v s1 hr1 hv => ?_⟩
    refine ⟨r, _, rfl, SqT.of hr1, rfl, _, _, rfl, _, _, rfl, rfl, ?_⟩
    refine ⟨_, rfl, (by show 1 ≤ sizeLine; omega), fun D hD => ?_⟩
    let Inv : Nat → L2.St → Hp → Prop := fun i σ H' => ∃ (b : Nat) (u4 : Option V) (ys : List V), i ≤ M.length ∧ b ≤ z.length ∧ (cp z).drop b = sp32 ((M.drop i).map (tI d)) ++ post ∧ b + (sp32 ((M.drop i).map (tI d))).length = a + (tI d m0 ++ sp32 (M.map (tI d))).length ∧
      σ = [some (.ref x), some (.str z), some (.int (b : Nat)), some (.int (dep : Nat)), u4, some (.ref D)] ∧ Same H1 H' ∧ H' D = some (.lst ys) ∧ Paired (ItV d H') ys (m0 :: M.take i)
    refine ⟨fun m σ H' => ∃ i, m = M.length - i ∧ Inv i σ H', ⟨_, 0, rfl, _, some v, [v], Nat.zero_le _, by omega, adv hd, ?_, rfl, same_new hD, upd_same, .cons (hv.keep (same_new hD) d _ _) .nil⟩, ?_⟩
    · rw [List.length_append, List.drop_zero]
      omega
    · rintro m σ H2 ⟨i, rfl, b, u4, ys, hi, hb, hdb, hbl, rfl, s2, hys, hp⟩
      refine ⟨_, rfl, _, rfl, z, _, b, 32, rfl, hz, b1_cp, ?_⟩
      have hh := head_sp (d := d) (l := M.drop i) hst
      rw [← hdb, List.head?_drop] at hh
      have hD2 := hD
      by_cases hlt : i < M.length
      · have hne : M.drop i ≠ [] := fun e => by
          have := congrArg List.length e
          rw [List.length_drop, List.length_nil] at this
          omega
        rw [decide_eq_true (hh.mpr hne)]
        refine ⟨_, rfl, iteT ?_⟩
        have hMi : M[i]? = some M[i] := List.getElem?_eq_getElem hlt
        have hdr : M.drop i = M[i] :: M.drop (i + 1) := List.drop_eq_getElem_cons hlt
        have hmem : M[i] ∈ m0 :: M := List.mem_cons_of_mem _ (List.getElem_mem hlt)
        rw [hdr] at hdb hbl
        have hd1 : (cp z).drop b = [32] ++ (tI d M[i] ++ (sp32 ((M.drop (i + 1)).map (tI d)) ++ post)) := by
          rw [hdb]
          show 32 :: (tI d M[i] ++ _) ++ post = _
          rw [List.cons_append, List.append_assoc]
          rfl
        have hb1 := adv_le (z := cp z) (by omega) hd1
        have hd2 : (cp z).drop (b + 1) = tI d M[i] ++ (sp32 ((M.drop (i + 1)).map (tI d)) ++ post) := adv hd1
        have hb1 : b + 1 ≤ (cp z).length := hb1
        have hb2 := adv_le (z := cp z) hb1 hd2
        refine ⟨Inv (i + 1), fun σ' H' h => ⟨_, by omega, i + 1, rfl, h⟩, ?_⟩
        have hcm : cntI d M[i] ≤ 1000 := Nat.le_trans (cnt_mem hmem) hc
        refine ⟨_, rfl, _, rfl, _, rfl, _, _, rfl, rfl, _, rfl, x, z, b + 1, dep, len, L, ps, as, ss, es, M[i], _, rfl, (hP.keep s1).keep s2, hz, by omega, hdd, hG _ hmem, hcm, hd2, stop_sp hst, fun H3 r3 v3 s3 hr3 hv3 => ?_⟩
        refine ⟨r3, _, rfl, SqT.of hr3, rfl, _, _, rfl, _, _, rfl, rfl, ?_⟩
        have hys3 := s3 _ _ hys
        have hyl := paired_ln hp
        rw [List.length_cons, List.length_take] at hyl
        refine ⟨_, rfl, .inl ⟨rfl, _, SqL.of hys3⟩, _, rfl, D, ys, _, rfl, rfl, hys3, small_line (by omega), ?_⟩
        have k3 : KT H3 (upd H3 D (.lst (ys ++ [v3]))) := (KT.refl _).over hys3
        refine ⟨b + 1 + (tI d M[i]).length, some v3, ys ++ [v3], by omega, by omega, adv hd2, ?_, rfl, fun b' o h => ?_, upd_same, ?_⟩
        · rw [← hbl]
          show _ = b + (32 :: (tI d M[i] ++ sp32 ((M.drop (i + 1)).map (tI d)))).length
          rw [List.length_cons, List.length_append]
          omega
        · rw [upd_ne (ne_of_none h hD)]
          exact s3 _ _ (s2 _ _ h)
        · rw [List.take_add_one, hMi]
          exact paired_app (l := ys) (r := m0 :: M.take i) (paired_imp (fun _ _ h => ItV.kt k3 d _ _ (h.keep s3 d _ _)) hp) (hv3.kt k3 d _ _)
      · have hnil : M.drop i = [] := List.drop_eq_nil_of_le (by omega)
        rw [decide_eq_false (fun e => (hh.mp e) hnil)]
        refine ⟨_, rfl, iteF ?_⟩
        rw [hnil] at hbl
        have hbl : b + 0 = a + (tI d m0 ++ sp32 (M.map (tI d))).length := hbl
        rw [← hbl] at q
        rw [List.take_of_length_le (by omega)] at hp
        refine ⟨_, rfl, D, _, rfl, .inl ⟨SqL.of hys, fun j hj => ?_⟩⟩
        have s3 := same_new (o := HO.tup ys) hj
        refine ⟨_, rfl, (by show 2 ≤ sizeLine; omega), fun r2 hr2 => ?_⟩
        have s4 := same_new (o := HO.tup [V.ref j, V.int (b : Nat)]) hr2
        exact q _ r2 j ys (fun b' o h => s4 _ _ (s3 _ _ (s2 _ _ (s1 _ _ h)))) upd_same (s4 _ _ upd_same) (paired_imp (fun _ _ h => (h.keep s3 d _ _).keep s4 d _ _) hp)
theorem rd_zero {sp : Sp} {vs : List V} {H : Hp} {Q : VK} {E : XK} (h : spRdI CP CR 0 vs H Q E) : spRdIN CP CR sp vs H Q E := by
  obtain ⟨x, z, a, dep, len, L, ps, as, ss, es, p, post, rfl, hP, hz, ha, hdd, hg, hc, hd, hst, q⟩ := h
  exact ⟨x, z, a, dep, len, L, ps, as, ss, es, post, rfl, hP, hz, ha, .inl ⟨p, hg, hd, hst, fun H' r s hr => q H' r _ s hr rfl⟩⟩
theorem rd_succ {d : Nat} {vs : List V} {H : Hp} {Q : VK} {E : XK} (h : spRdI CP CR (d + 1) vs H Q E) : spRdIN CP CR (spRdL CP CR d) vs H Q E := by
  obtain ⟨x, z, a, dep, len, L, ps, as, ss, es, i, post, rfl, hP, hz, ha, hdd, hg, hc, hd, hst, q⟩ := h
  match i, hg, hc, hd, q with
  | .inl p, hg, hc, hd, q => exact ⟨x, z, a, dep, len, L, ps, as, ss, es, post, rfl, hP, hz, ha, .inl ⟨p, hg, hd, hst, fun H' r s hr => q H' r _ s hr rfl⟩⟩
  | .inr (n, l), ⟨g1, g2, g3, g4⟩, hc, hd, q =>
    rw [tI_rep] at hd q
    rw [cnt_rep] at hc
    have hn : ((n.toNat : Nat) : Int) = n := Int.toNat_of_nonneg (by omega)
    have hd1 : (cp z).drop a = cp (numS n.toNat) ++ 40 :: (tL d l ++ 41 :: post) := by
      rw [hd, num_cp, List.append_assoc]
      show _ ++ (40 :: ((tL d l ++ [41]) ++ post)) = _
      rw [List.append_assoc]
      rfl
    have hle := adv_le (z := cp z) (by rw [cp_len]; exact ha) hd1
    rw [cp_len z] at hle
    have hd2 : (cp z).drop (a + (cp (numS n.toNat)).length) = [40] ++ (tL d l ++ 41 :: post) := adv hd1
    have hle2 := adv_le (z := cp z) (by rw [cp_len z]; exact hle) hd2
    rw [cp_len z] at hle2
    refine ⟨x, z, a, dep, len, L, ps, as, ss, es, post, rfl, hP, hz, ha, .inr ⟨n.toNat, tL d l, fun H' j => ∃ ys, H' j = some (.tup ys) ∧ Paired (ItV d H') ys l, by omega, by omega, by omega, hd1, fun H1 Q1 E1 s1 q1 => ?_, fun H1 H' r v j s1 hR s2 hr hv => ?_⟩⟩
    · refine ⟨x, z, _, dep + 1, len, L, ps, as, ss, es, l, 41 :: post, rfl, hP.keep s1, hz, hle2, by omega, g3, g4, by omega, adv hd2, fun c e => (Option.some.inj e).symm, fun H2 r j ys s2 hr hj hp => q1 H2 r j s2 hr ⟨ys, hj, hp⟩⟩
    · obtain ⟨ys, hj, hp⟩ := hR
      refine q H' r (.ref v) (s1.trans s2) ?_ ?_
      · rw [hr, ← num_cp]
        simp only [List.length_append, List.length_cons, List.length_nil]
        congr 5
        all_goals omega
      · rw [hn] at hv
        refine ⟨v, j, ys.zip l, rfl, hv, ?_, ?_, fun e he => ?_⟩
        · rw [List.map_fst_zip (by rw [paired_ln hp]; exact Nat.le_refl _)]
          exact s2 _ _ hj
        · exact (List.map_snd_zip (by rw [paired_ln hp]; exact Nat.le_refl _)).symm
        · obtain ⟨k, hk⟩ := List.getElem?_of_mem he
          obtain ⟨k1, k2⟩ := List.getElem?_zip_eq_some.mp hk
          exact (paired_at hp k1 k2).keep s2 d _ _
theorem ok_rd {fI fL : Addr} {fdI fdL : FuncData} (FI : Fun K "read_item" "read_item" s_read_item fI fdI) (FL : Fun K "read_items" "read_items" s_read_items fL fdL) (TP : PlC K mg CP fP) (C : OwnC P w K mg base CP CR) (m_int : mg "int" = none) (m_tuple : mg "tuple" = none) {t1 t2 t3 : Tok} (g_LETTERS : mg "LETTERS" = some (.str LET t1)) (g_DIGITS : mg "DIGITS" = some (.str DIG t2)) (g_MOST_DEEP : mg "MOST_DEEP" = some (.int 5 t3))
    (c_run_end : Cal P w K mg base 1 "run_end" spRun) (c_is_times : Cal P w K mg base 1 "is_times" spTimes) (c_stands : Cal P w K mg base 1 "stands" spStands)
    (gI : mg "read_item" = some (.ref fI)) (kI : PySem.W.keepIn K (.ref fI) = true) (bI : Binds K fdI ["plan", "text", "at", "depth"] []) (gL : mg "read_items" = some (.ref fL)) (kL : PySem.W.keepIn K (.ref fL) = true) (bL : Binds K fdL ["plan", "text", "at", "depth"] []) :
    ∀ d : Nat, FnOk P w K mg base CX0 (2 + 2 * d) fI fdI ["plan", "text", "at", "depth"] (spRdI CP CR d) ∧ FnOk P w K mg base CX0 (3 + 2 * d) fL fdL ["plan", "text", "at", "depth"] (spRdL CP CR d)
  | 0 => by
    have f0 : FnOk P w K mg base CX0 1 fL fdL ["plan", "text", "at", "depth"] (fun _ _ _ _ => False) := FL.ok sc_read_items (fun _ _ _ _ h => h.elim) (fun _ _ _ _ _ _ _ _ _ h => h.elim)
    have h1 : FnOk P w K mg base CX0 2 fI fdI ["plan", "text", "at", "depth"] (spRdI CP CR 0) := (ok_rdI_at FI TP C m_int g_LETTERS g_DIGITS g_MOST_DEEP c_run_end c_is_times c_stands (Nat.le_refl 1) ⟨fL, fdL, _, f0, gL, kL, bL⟩).imp fun vs H Q E h => rd_zero h
    exact ⟨h1, ok_rdL_at FL m_tuple c_stands (by decide) ⟨fI, fdI, _, h1, gI, kI, bI⟩⟩
  | d + 1 => by
    obtain ⟨_, h2⟩ := ok_rd FI FL TP C m_int m_tuple g_LETTERS g_DIGITS g_MOST_DEEP c_run_end c_is_times c_stands gI kI bI gL kL bL d
    have h1 : FnOk P w K mg base CX0 (2 + 2 * (d + 1)) fI fdI ["plan", "text", "at", "depth"] (spRdI CP CR (d + 1)) := by
      have := (ok_rdI_at FI TP C m_int g_LETTERS g_DIGITS g_MOST_DEEP c_run_end c_is_times c_stands (k := 3 + 2 * d) (by omega) ⟨fL, fdL, _, h2, gL, kL, bL⟩).imp fun vs H Q E h => rd_succ h
      rw [show 2 + 2 * (d + 1) = 3 + 2 * d + 1 by omega]
      exact this
    refine ⟨h1, ?_⟩
    have := ok_rdL_at FL m_tuple c_stands (k := 2 + 2 * (d + 1)) (d := d + 1) (by omega) ⟨fI, fdI, _, h1, gI, kI, bI⟩
    rw [show 3 + 2 * (d + 1) = 2 + 2 * (d + 1) + 1 by omega]
    exact this
end
end Sea
namespace Sea
open PySem PySem.Spec PyProof.Rows L2
/-! read_roll -/
theorem ItV.w {G : Piece → Prop} : ∀ (d : Nat) (H : Hp) (v : V) (i : It d), ItV d H v i → ItG G d i → cntI d i ≤ 1000 → ItW d H v i
  | 0, _, _, _, h, _, _ => h
  | _ + 1, _, _, .inl _, h, _, _ => h
  | d + 1, H, v, .inr (n, l), ⟨a, b, E, h1, h2, h3, h4, h5⟩, ⟨g1, g2, g3, g4⟩, hc => by
    rw [cnt_rep] at hc
    have hl := cnt_len l
    have hE : l.length = E.length := by rw [h4, List.length_map]
    refine ⟨a, b, E, h1, .inl h2, .inl h3, h4, g1, by omega, by omega, fun e he => ?_⟩
    have hm : e.2 ∈ l := by rw [h4]; exact List.mem_map_of_mem he
    exact ItV.w d H e.1 e.2 (h5 e he) (g4 _ hm) (by have := cnt_mem hm; omega)
theorem plan_g8 {CR CP x : Addr} {H : Hp} {len : Int} {L : List (Addr × Cue)} {ps : List Piece} {as : List (Str × Str)} {ss es : List Str} (hP : PlanAt H CR CP x len L ps as ss es) : ∀ p ∈ ps, G8 p := fun p hp => by
  obtain ⟨_, _, _, _, _, _, _, _, _, _, _, _, _, _, B⟩ := hP
  have := (B.good p hp).nm.most
  rw [cp_len] at this
  exact this
/-- Roll(plan, items) made -/
theorem roll_made {CR CP CS CT CRo xp a : Addr} {H : Hp} {len : Int} {L : List (Addr × Cue)} {ps : List Piece} {as : List (Str × Str)} {ss es : List Str} {M : List (V × It 5)} {Qr : Addr → Hp → Prop} {E : XK} (hP : PlanAt H CR CP xp len L ps as ss es) (hlen : len ≤ 2000) (hL : L.length ≤ 100000)
    (ha : Seq2 H a (M.map (·.1))) (h1 : 1 ≤ M.length) (hW : ∀ e ∈ M, ItW 5 H e.1 e.2) (hG : ∀ e ∈ M, ItG (· ∈ ps) 5 e.2) (h60 : cntL 5 (M.map (·.2)) ≤ 60) (good : ∀ H' x, Same H H' → RollAt CR CP CS CT CRo H' x xp len L ps as ss es (M.map (·.2)) → Qr x H') :
    ∀ x dx, H x = none → H dx = none → dx ≠ x → spRollI CR CP CS CT CRo (.ref x :: ([.ref xp, .ref a] ++ [])) (upd (upd H dx (.own x)) x (.ins CRo dx [])) (fun v H2 => v = .non ∧ Qr x H2) E := by
  intro x dx hx hdx ne
  have s1 := same_new (o := .own x) hdx
  have hx1 : upd H dx (.own x) x = none := by rw [upd_ne (Ne.symm ne)]; exact hx
  have s2 := same_new (o := .ins CRo dx []) hx1
  have S := s1.trans s2
  have SR : Same H (rest x (upd (upd H dx (.own x)) x (.ins CRo dx []))) := same_rest hx S
  refine ⟨x, dx, xp, a, len, L, ps, as, ss, es, M, rfl, upd_same, hP.keep SR, hlen, hL, ha.keep SR, h1, fun e he => (hW e he).keep SR 5 _ _, fun e he => itG_in 5 _ (hG e he) ?_, h60, fun H' k hR => ⟨rfl, good H' x (fun b o h => ?_) hR⟩⟩
  · have := cnt_mem (d := 5) (l := M.map (·.2)) (List.mem_map_of_mem he)
    omega
  · exact k _ _ (fun e => by rw [e, hx] at h; cases h) (S _ _ h)
def spReadRoll (CR CP CS CT CRo : Addr) : Sp := fun vs H Q _ => ∃ (x : Addr) (len : Int) (L : List (Addr × Cue)) (ps : List Piece) (as : List (Str × Str)) (ss es : List Str) (M : List (It 5)), vs = [.ref x, .str (wrL 5 M)] ∧ PlanAt H CR CP x len L ps as ss es ∧ len ≤ 2000 ∧ L.length ≤ 100000 ∧
  1 ≤ M.length ∧ (∀ i ∈ M, ItG (· ∈ ps) 5 i) ∧ cntL 5 M ≤ 60 ∧ ∀ H' r, Same H H' → RollAt CR CP CS CT CRo H' r x len L ps as ss es M → Q (.ref r) H'
section
variable {P : Program} {w : World} {K : PySem.W.Frag} {mg : Str → Option Value} {base : Heap} {CR CP CS CT CRo fR : Addr} {fdR : FuncData}
theorem ok_readRoll {f : Addr} {fd : FuncData} (F : Fun K "read_roll" "read_roll" s_read_roll f fd) (m_isinstance : mg "isinstance" = none) (m_str : mg "str" = none) (m_len : mg "len" = none) (T : RoC K mg CRo fR) (FR : FnOk P w K mg base CX0 11 fR fdR ["self", "plan", "written"] (spRollI CR CP CS CT CRo)) (bR : Binds K fdR ["self", "plan", "written"] [])
    (c_read_items : Cal P w K mg base 13 "read_items" (spRdL CP CR 5)) : FnOk P w K mg base CX0 14 f fd ["plan", "text"] (spReadRoll CR CP CS CT CRo) := by
  refine F.ok sc_read_roll (fun vs H Q E h => ?_) (fun cdv A outer s H vs Q E hr h => ?_)
  · obtain ⟨x, len, L, ps, as, ss, es, M, rfl, _⟩ := h
    rfl
  · obtain ⟨x, len, L, ps, as, ss, es, M, rfl, hP, hlen, hL, h1, hG, h60, q⟩ := h
    refine ⟨_, (pss_cons (ps_if (pt_not (pt_val (pe_callB call_isi (by rfl) m_isinstance (by decide +kernel) (pa_cons (pv 1) (pa_cons (pe_bltn (v := .ty "str") (by rfl) m_str (by decide +kernel) rfl) pa_nil)))))
    (pss_one ps_never)
    pss_nil)
    (pss_cons (ps_asg (pe_c c_read_items hr (by decide) rfl (pa_cons (pv 0) (pa_cons (pv 1) (pa_cons (pe_int) (pa_cons (pe_int) pa_nil))))) (pg_tup rfl (pgs_cons (pg_name (i := 2) sc_read_roll.nd rfl (Or.inl rfl)) (pgs_cons (pg_name (i := 3) sc_read_roll.nd rfl (Or.inl rfl)) pgs_nil))))
    (pss_cons (ps_if (pt_cmpR op_lt (pv 3) (pe_callB call_len (by rfl) m_len (by decide +kernel) (pa_cons (pv 1) pa_nil)) (nomark _))
    (pss_one ps_never)
    pss_nil)
    (pss_one (ps_ret (pe_make (E := E0) T.made FR (hr.mono (by decide)) rfl T.g bR .nil pass0 (pa_cons (pv 0) (pa_cons (pv 2) pa_nil)))))))), ?_⟩
    have sl : sizeLine = 16777216 := sizeLine_eq
    have g8 : ∀ i ∈ M, ItG G8 5 i := fun i hi => (hG i hi).imp (plan_g8 hP) 5 i
    have zl : (wrL 5 M).length ≤ 52 * cntL 5 M := Nat.le_trans (join_ln _) (wrL_len g8)
    refine ⟨_, rfl, _, _, _, _, true, rfl, .ty _, .base (.str _), kit_ty (by decide +kernel), true, rfl, iteF ?_⟩
    have hd : (cp (wrL 5 M)).drop 0 = tL 5 M ++ [] := by rw [List.append_nil]; rfl
    refine ⟨_, rfl, _, rfl, x, wrL 5 M, 0, 0, len, L, ps, as, ss, es, M, [], rfl, hP, by omega, Nat.zero_le _, by decide, h1, hG, by omega, hd, (fun _ h => nomatch h), fun H1 r j ys s1 hr1 hj hp => ?_⟩
    refine ⟨r, _, rfl, SqT.of hr1, rfl, _, _, rfl, _, _, rfl, rfl, ?_⟩
    refine ⟨_, rfl, _, rfl, _, _, rfl, ⟨by omega, rfl⟩, _, _, rfl, rfl, _, rfl, ?_⟩
    have e0 : 0 + (tL 5 M).length = (wrL 5 M).length := by rw [Nat.zero_add]; exact cp_len _
    rw [e0, show decide ((((wrL 5 M).length : Nat) : Int) < (((wrL 5 M).length : Nat) : Int)) = false from decide_eq_false (by omega)]
    refine iteF ?_
    have hl := paired_ln hp
    have e1 : (ys.zip M).map (·.1) = ys := List.map_fst_zip (by omega)
    have e2 : (ys.zip M).map (·.2) = M := List.map_snd_zip (by omega)
    refine ⟨_, rfl, _, rfl, roll_made (M := ys.zip M) (hP.keep s1) hlen hL (.inl (by rw [e1]; exact hj)) (by rw [List.length_zip]; omega) (fun e he => ?_) (fun e he => ?_) (by rw [e2]; exact h60) fun H' r s2 hR => ?_⟩
    · obtain ⟨k, hk⟩ := List.getElem?_of_mem he
      obtain ⟨k1, k2⟩ := List.getElem?_zip_eq_some.mp hk
      have hm := List.mem_of_getElem? k2
      exact ItV.w 5 _ _ _ (paired_at hp k1 k2) (hG _ hm) (by have := cnt_mem hm; omega)
    · obtain ⟨k, hk⟩ := List.getElem?_of_mem he
      obtain ⟨k1, k2⟩ := List.getElem?_zip_eq_some.mp hk
      exact hG _ (List.mem_of_getElem? k2)
    · rw [e2] at hR
      exact q H' r (s1.trans s2) hR
end
end Sea
namespace Sea
open PySem PySem.Spec PyProof.Rows L2
/-! rolls compared -/
def itP : (d : Nat) → It d → PyData
  | 0, (p : Piece) => .str p.nm
  | _ + 1, .inl p => .str p.nm
  | d + 1, .inr (n, l) => .tuple [.int n, .tuple (l.map (itP d))]
theorem itP_rep (d : Nat) (n : Int) (l : List (It d)) : itP (d + 1) (.inr (n, l)) = .tuple [.int n, .tuple (l.map (itP d))] := rfl
theorem dp_all {K : PySem.W.Frag} {H : Hp} {α : Type} {f : α → PyData} : ∀ {E : List (V × α)}, (∀ e ∈ E, Dp K H e.1 (f e.2)) → DpAll K H (E.map (·.1)) ((E.map (·.2)).map f)
  | [], _ => .nil
  | _ :: _, h => .cons (h _ List.mem_cons_self) (dp_all fun e he => h e (List.mem_cons_of_mem _ he))
theorem ItV.dp {K : PySem.W.Frag} : ∀ (d : Nat) (H : Hp) (v : V) (i : It d), ItV d H v i → Dp K H v (itP d i)
  | 0, _, _, _, h => by rw [h]; exact .str _
  | _ + 1, _, _, .inl _, h => by rw [h]; exact .str _
  | d + 1, H, _, .inr (n, l), ⟨a, b, E, h1, h2, h3, h4, h5⟩ => by
    rw [h1, h4]
    exact .tup (SqT.of h2) (.cons (.int _) (.cons (.tup (SqT.of h3) (dp_all fun e he => ItV.dp d H _ _ (h5 e he))) .nil))
theorem paired_dpI {K : PySem.W.Frag} {H : Hp} {d : Nat} : ∀ {ys : List V} {M : List (It d)}, Paired (ItV d H) ys M → DpAll K H ys (M.map (itP d))
  | _, _, .nil => .nil
  | _, _, .cons h t => .cons (ItV.dp d H _ _ h) (paired_dpI t)
theorem itP_lay {G : Piece → Prop} (hG : ∀ p, G p → NameW (cp p.nm)) : ∀ (d : Nat) (i : It d), ItG G d i → (itP d i).canLay0 = true ∧ PyData.depth (itP d i) ≤ 2 * d
  | 0, _, h => ⟨asc_ok (nameS (hG _ h)), Nat.zero_le _⟩
  | _ + 1, .inl _, h => ⟨asc_ok (nameS (hG _ h)), Nat.zero_le _⟩
  | d + 1, .inr (n, l), ⟨_, _, _, g4⟩ => by
    have h1 : PyData.canLayAll0 (l.map (itP d)) = true := fs_lay fun e he => (itP_lay hG d e (g4 e he)).1
    have h2 : PyData.depthAll (l.map (itP d)) ≤ 2 * d := fs_depth fun e he => (itP_lay hG d e (g4 e he)).2
    refine ⟨?_, ?_⟩
    · show (PyData.canLay0 (.int n) && (PyData.canLayAll0 (l.map (itP d)) && true)) = true
      rw [h1]
      rfl
    · show max 0 (max (PyData.depthAll (l.map (itP d)) + 1) 0) + 1 ≤ 2 * (d + 1)
      omega
theorem items_shaped {G : Piece → Prop} (hG : ∀ p, G p → NameW (cp p.nm)) {M : List (It 5)} (h : ∀ i ∈ M, ItG G 5 i) : SeqAt.shaped (.tuple (M.map (itP 5))) = true := by
  show (PyData.canLayAll0 (M.map (itP 5)) && decide (PyData.depthAll (M.map (itP 5)) + 1 ≤ 64)) = true
  have h1 : PyData.canLayAll0 (M.map (itP 5)) = true := fs_lay fun e he => (itP_lay hG 5 e (h e he)).1
  have h2 : PyData.depthAll (M.map (itP 5)) ≤ 2 * 5 := fs_depth fun e he => (itP_lay hG 5 e (h e he)).2
  rw [h1, decide_eq_true (by omega)]
  rfl
open Classical in
theorem all_eqvF {α : Type} {f : α → PyData} : ∀ (xs ys : List α), (∀ a ∈ xs, ∀ b, PyData.eqv (f a) (f b) = decide (f a = f b)) → PyData.eqvAll (xs.map f) (ys.map f) = decide (xs.map f = ys.map f)
  | [], [], _ => (decide_eq_true rfl).symm
  | [], _ :: _, _ => (decide_eq_false (by simp)).symm
  | _ :: _, [], _ => (decide_eq_false (by simp)).symm
  | a :: r, b :: q, hf => by
    show (PyData.eqv (f a) (f b) && PyData.eqvAll (r.map f) (q.map f)) = decide (f a :: r.map f = f b :: q.map f)
    rw [hf a List.mem_cons_self, all_eqvF r q fun c hc => hf c (List.mem_cons_of_mem _ hc)]
    by_cases h1 : f a = f b
    · by_cases h2 : r.map f = q.map f
      · rw [decide_eq_true h1, decide_eq_true h2, decide_eq_true (by rw [h1, h2])]
        rfl
      · rw [decide_eq_false h2, Bool.and_false, decide_eq_false (fun e => h2 (List.cons.inj e).2)]
    · rw [decide_eq_false h1, Bool.false_and, decide_eq_false (fun e => h1 (List.cons.inj e).1)]
open Classical in
theorem str_eqvF (a b : Str) : PyData.eqv (.str a) (.str b) = decide ((.str a : PyData) = .str b) := by
  rw [strP_eqv]
  exact decide_eq_decide.mpr ⟨fun h => by rw [h], fun h => by cases h; rfl⟩
open Classical in
theorem itP_eqv : ∀ (d : Nat) (i j : It d), PyData.eqv (itP d i) (itP d j) = decide (itP d i = itP d j)
  | 0, p, q => str_eqvF _ _
  | _ + 1, .inl p, .inl q => str_eqvF _ _
  | d + 1, .inl p, .inr (n, l) => (decide_eq_false (fun e => by cases e)).symm
  | d + 1, .inr (n, l), .inl p => (decide_eq_false (fun e => by cases e)).symm
  | d + 1, .inr (n, l), .inr (m, r) => by
    show ((n == m) && (PyData.eqvAll (l.map (itP d)) (r.map (itP d)) && true)) = decide (PyData.tuple [.int n, .tuple (l.map (itP d))] = PyData.tuple [.int m, .tuple (r.map (itP d))])
    rw [Bool.and_true, all_eqvF l r fun a _ b => itP_eqv d a b]
    by_cases h1 : n = m
    · by_cases h2 : l.map (itP d) = r.map (itP d)
      · rw [decide_eq_true h2, decide_eq_true (by rw [h1, h2]), h1]
        simp
      · rw [decide_eq_false h2, Bool.and_false, decide_eq_false]
        intro e
        injection e with e
        injection e with e1 e2
        injection e2 with e3 e4
        injection e3 with e5
        exact h2 e5
    · rw [beq_eq_false_iff_ne.mpr h1, Bool.false_and, decide_eq_false]
      intro e
      injection e with e
      injection e with e1 e2
      injection e1 with e5
      exact h1 e5
open Classical in
noncomputable def spRollEq (CR CP CS CT CRo : Addr) : Sp := fun vs H Q _ => ∃ (x y xp yp : Addr) (lx ly : Int) (Lx Ly : List (Addr × Cue)) (px py : List Piece) (ax ay : List (Str × Str)) (sx sy ex ey : List Str) (Mx My : List (It 5)), vs = [.ref x, .ref y] ∧
  RollAt CR CP CS CT CRo H x xp lx Lx px ax sx ex Mx ∧ RollAt CR CP CS CT CRo H y yp ly Ly py ay sy ey My ∧
  (∀ c ∈ cuesC Lx, CueG c) ∧ (∀ c ∈ cuesC Ly, CueG c) ∧ (∀ z ∈ sx, NameW (cp z)) ∧ (∀ z ∈ sy, NameW (cp z)) ∧ (∀ z ∈ ex, NameW (cp z)) ∧ (∀ z ∈ ey, NameW (cp z)) ∧ (∀ i ∈ Mx, ItG (· ∈ px) 5 i) ∧ (∀ i ∈ My, ItG (· ∈ py) 5 i) ∧
  Q (.bl (decide (((lx = ly ∧ cuesC Lx = cuesC Ly) ∧ px = py ∧ ax = ay ∧ sx = sy ∧ ex = ey) ∧ Mx.map (itP 5) = My.map (itP 5)))) H
section
variable {P : Program} {w : World} {K : PySem.W.Frag} {mg : Str → Option Value} {base : Heap} {CR CP CS CT CRo fR : Addr}
open Classical in
theorem ok_roll_eq {f : Addr} {fd : FuncData} (F : Fun K "__eq__" "Roll.__eq__" s_Roll___eq__ f fd) (T : RoC K mg CRo fR) (m_isinstance : mg "isinstance" = none) (hc : PySem.W.findIn K (.ref CRo) "__class__" = some (some (.builtin "object.__class__")) ∧ PySem.W.specialIn K (.builtin "object.__class__") "__get__" = some (some (.builtin "getset_descriptor.__get__")) ∧ PySem.W.takesIn K (.builtin "object.__class__") = some true ∧ PySem.W.mroIn K CRo (.type "object") = some true)
    (EP : EqOk P w K mg base CP 2 (spPlanEq CR CP)) : FnOk P w K mg base CX0 3 f fd ["self", "other"] (spRollEq CR CP CS CT CRo) := by
  obtain ⟨fe, fde, pse, Fe, hfe, hie, hbe⟩ := EP
  refine F.ok sc_Roll___eq__ (fun vs H Q E h => ?_) (fun cdv A outer s H vs Q E hr h => ?_)
  · obtain ⟨x, y, xp, yp, lx, ly, Lx, Ly, px, py, ax, ay, sx, sy, ex, ey, Mx, My, rfl, _⟩ := h
    rfl
  · obtain ⟨x, y, xp, yp, lx, ly, Lx, Ly, px, py, ax, ay, sx, sy, ex, ey, Mx, My, rfl, ⟨dx, wt, pt, wa, ys, E1, hx, hP, hw, hv, _, _, _⟩, ⟨dy, wt2, pt2, wa2, ys2, E2, hy, hP2, hw2, hv2, _, _, _⟩, gx, gy, nsx, nsy, nex, ney, iGx, iGy, q⟩ := h
    refine ⟨_, (pss_one (ps_ret (pe_and (pe_callB call_isi (by rfl) m_isinstance (by decide +kernel) (pa_cons (pv 1) (pa_cons (pe_glob (v := .ref CRo) rfl T.g rfl) pa_nil))) (pe_and (pe_cmpR (op_ownEq Fe hr (by decide) hfe hie hbe) (pe_fld (pv 0) rfl) (pe_fld (pv 1) rfl) (nomark _)) (pe_one (pe_cmpR (op_eqD hr.units) (pe_fld (pv 0) rfl) (pe_fld (pv 1) rfl) (nomark _))))))), ?_⟩
    refine ⟨_, rfl, _, _, _, _, true, rfl, .own CRo, .base (.ins hy T.cl hc.1 hc.2.1 hc.2.2.1 hc.2.2.2), if_pos (beq_self_eq_true _), true, rfl, iteT ?_⟩
    refine ⟨_, rfl, x, CRo, dx, _, _, rfl, hx, T.cl, T.n_plan, ro_plan .., _, rfl, y, CRo, dy, _, _, rfl, hy, T.cl, T.n_plan, ro_plan .., ?_⟩
    obtain ⟨e1, _, _, _, _, _, _, _, _, _, _, _, _, hi1, _⟩ := id hP
    obtain ⟨e2, _, _, _, _, _, _, _, _, _, _, _, _, hi2, _⟩ := id hP2
    refine ⟨xp, yp, e1, e2, _, _, rfl, rfl, hi1, hi2, xp, yp, lx, ly, Lx, Ly, px, py, ax, ay, sx, sy, ex, ey, rfl, hP, hP2, gx, gy, nsx, nsy, nex, ney, ⟨_, rfl⟩, ?_⟩
    by_cases h1 : (lx = ly ∧ cuesC Lx = cuesC Ly) ∧ px = py ∧ ax = ay ∧ sx = sy ∧ ex = ey
    rotate_left
    · rw [decide_eq_false (fun z => h1 z.1)] at q
      refine ⟨false, ?_, iteF q⟩
      congr 1
      exact decide_eq_false h1
    rw [and_bl h1] at q
    refine ⟨true, congrArg V.bl (decide_eq_true h1), iteT ?_⟩
    have wp : ∀ {ps : List Piece} {as : List (Str × Str)} {len : Int} {L : List (Addr × Cue)} {xp : Addr} {ss es : List Str}, PlanAt H CR CP xp len L ps as ss es → ∀ p, p ∈ ps → NameW (cp p.nm) := fun h p hp => by
      obtain ⟨_, _, _, _, _, _, _, _, _, _, _, _, _, _, B⟩ := h
      exact (B.good p hp).nm
    refine ⟨_, rfl, x, CRo, dx, _, _, rfl, hx, T.cl, T.n_written, ro_written .., _, rfl, y, CRo, dy, _, _, rfl, hy, T.cl, T.n_written, ro_written .., .tuple (Mx.map (itP 5)), .tuple (My.map (itP 5)), .tup (SqT.of hw) (paired_dpI hv), .tup (SqT.of hw2) (paired_dpI hv2), items_shaped (wp hP) iGx, items_shaped (wp hP2) iGy, ?_⟩
    have E3 : PyData.eqv (.tuple (Mx.map (itP 5))) (.tuple (My.map (itP 5))) = decide (Mx.map (itP 5) = My.map (itP 5)) := (all_eqvF Mx My fun a _ b => itP_eqv 5 a b)
    rw [E3]
    exact q
end
end Sea
namespace Sea
open PySem PySem.Spec PyProof.Rows L2
/-! texts are equal exactly if what they write is -/
theorem split_run {S : List Nat} {l1 l2 r1 r2 : List Nat} (h1 : ∀ c ∈ l1, c ∈ S) (h2 : ∀ c ∈ l2, c ∈ S) (e1 : ∀ c, r1.head? = some c → c ∉ S) (e2 : ∀ c, r2.head? = some c → c ∉ S) (h : l1 ++ r1 = l2 ++ r2) : l1 = l2 ∧ r1 = r2 := by
  have a := runN_all h1 e1
  have b := runN_all h2 e2
  rw [h, b] at a
  exact List.append_inj h a.symm
def NmG (p : Piece) : Prop := NameW (cp p.nm)
theorem stop_let {r : List Nat} (h : Stop r) : ∀ c, r.head? = some c → c ∉ cp LET := fun c hc => let_no (by rcases h c hc with h | h <;> omega)
theorem num_let {n : Nat} {l r : List Nat} {nm : Str} (g : NameW (cp nm)) (h : cp nm ++ l = cp (numS n) ++ r) : False := by
  have h1 := g.some
  cases hn : cp nm with
  | nil => rw [hn] at h1; exact absurd h1 (by decide)
  | cons c q =>
    cases hm : cp (numS n) with
    | nil =>
      have := num_one n
      rw [← cp_len, hm] at this
      exact absurd this (by decide)
    | cons e s =>
      rw [hn, hm] at h
      have e1 : c = e := (List.cons.inj h).1
      have g1 := g.sign c (by rw [hn]; exact List.mem_cons_self)
      have g2 := num_dig (n := n) (c := e) (by rw [hm]; exact List.mem_cons_self)
      omega
theorem nm_inj {a b : Piece} {r1 r2 : List Nat} (ga : NmG a) (gb : NmG b) (s1 : Stop r1) (s2 : Stop r2) (h : cp a.nm ++ r1 = cp b.nm ++ r2) : (PyData.str a.nm) = .str b.nm ∧ r1 = r2 := by
  have ga : NameW (cp a.nm) := ga
  have gb : NameW (cp b.nm) := gb
  obtain ⟨e1, e2⟩ := split_run (S := cp LET) (fun c hc => in_let.mpr (ga.sign c hc)) (fun c hc => in_let.mpr (gb.sign c hc)) (stop_let s1) (stop_let s2) h
  exact ⟨by rw [cp_inj e1], e2⟩
theorem sp_inj {d : Nat} (one : ∀ (i j : It d) r1 r2, ItG NmG d i → ItG NmG d j → Stop r1 → Stop r2 → tI d i ++ r1 = tI d j ++ r2 → itP d i = itP d j ∧ r1 = r2) {r1 r2 : List Nat} (s1 : StopL r1) (s2 : StopL r2) : ∀ (l m : List (It d)), (∀ e ∈ l, ItG NmG d e) → (∀ e ∈ m, ItG NmG d e) → sp32 (l.map (tI d)) ++ r1 = sp32 (m.map (tI d)) ++ r2 → l.map (itP d) = m.map (itP d) ∧ r1 = r2
  | [], [], _, _, h => ⟨rfl, h⟩
  | [], b :: m, _, _, h => by
    have e : r1.head? = some 32 := by
      have h : r1 = _ := h
      rw [h]
      rfl
    have := s1 32 e
    omega
  | a :: l, [], _, _, h => by
    have e : r2.head? = some 32 := by
      have h : _ = r2 := h
      rw [← h]
      rfl
    have := s2 32 e
    omega
  | a :: l, b :: m, ga, gb, h => by
    have h : 32 :: (tI d a ++ sp32 (l.map (tI d))) ++ r1 = 32 :: (tI d b ++ sp32 (m.map (tI d))) ++ r2 := h
    rw [List.cons_append, List.cons_append] at h
    have h1 := (List.cons.inj h).2
    rw [List.append_assoc, List.append_assoc] at h1
    obtain ⟨e1, e2⟩ := one a b _ _ (ga a List.mem_cons_self) (gb b List.mem_cons_self) (stop_sp s1) (stop_sp s2) h1
    obtain ⟨e3, e4⟩ := sp_inj one s1 s2 l m (fun e he => ga e (List.mem_cons_of_mem _ he)) (fun e he => gb e (List.mem_cons_of_mem _ he)) e2
    exact ⟨by rw [List.map_cons, List.map_cons, e1, e3], e4⟩
theorem tL_inj {d : Nat} (one : ∀ (i j : It d) r1 r2, ItG NmG d i → ItG NmG d j → Stop r1 → Stop r2 → tI d i ++ r1 = tI d j ++ r2 → itP d i = itP d j ∧ r1 = r2) {r1 r2 : List Nat} (s1 : StopL r1) (s2 : StopL r2) {l m : List (It d)} (l1 : 1 ≤ l.length) (m1 : 1 ≤ m.length) (gl : ∀ e ∈ l, ItG NmG d e) (gm : ∀ e ∈ m, ItG NmG d e) (h : tL d l ++ r1 = tL d m ++ r2) : l.map (itP d) = m.map (itP d) ∧ r1 = r2 := by
  match l, m, l1, m1 with
  | a :: l, b :: m, _, _ =>
    refine sp_inj one s1 s2 (a :: l) (b :: m) gl gm ?_
    rw [tL_cons, tL_cons] at h
    show 32 :: (tI d a ++ sp32 (l.map (tI d))) ++ r1 = 32 :: (tI d b ++ sp32 (m.map (tI d))) ++ r2
    rw [List.cons_append, List.cons_append, h]
theorem tI_inj : ∀ (d : Nat) (i j : It d) (r1 r2 : List Nat), ItG NmG d i → ItG NmG d j → Stop r1 → Stop r2 → tI d i ++ r1 = tI d j ++ r2 → itP d i = itP d j ∧ r1 = r2
  | 0, a, b, r1, r2, ga, gb, s1, s2, h => nm_inj (a := a) (b := b) ga gb s1 s2 h
  | _ + 1, .inl a, .inl b, r1, r2, ga, gb, s1, s2, h => nm_inj (a := a) (b := b) ga gb s1 s2 h
  | d + 1, .inl a, .inr (n, l), r1, r2, ga, gb, s1, s2, h => by
    rw [tI_rep, ← num_cp, List.append_assoc] at h
    exact (num_let (nm := a.nm) ga h).elim
  | d + 1, .inr (n, l), .inl a, r1, r2, ga, gb, s1, s2, h => by
    rw [tI_rep, ← num_cp, List.append_assoc] at h
    exact (num_let (nm := a.nm) gb h.symm).elim
  | d + 1, .inr (n, l), .inr (m, q), r1, r2, ⟨g1, g2, g3, g4⟩, ⟨k1, k2, k3, k4⟩, s1, s2, h => by
    rw [tI_rep, tI_rep, List.append_assoc, List.append_assoc] at h
    have nd : ∀ c (x : List Nat), (40 :: x).head? = some c → c ∉ cp DIG := fun c x hc e => by
      have hc : 40 = c := Option.some.inj hc
      have := in_dig.mp e
      omega
    obtain ⟨e1, e2⟩ := split_run (S := cp DIG) (fun c hc => in_dig.mpr (TL.numL_digits _ c hc)) (fun c hc => in_dig.mpr (TL.numL_digits _ c hc)) (fun c hc => nd c _ hc) (fun c hc => nd c _ hc) h
    have en := TL.numL_inj e1
    have e3 : (tL d l ++ [41]) ++ r1 = (tL d q ++ [41]) ++ r2 := (List.cons.inj e2).2
    rw [List.append_assoc, List.append_assoc] at e3
    have st : ∀ r : List Nat, StopL ([41] ++ r) := fun r c hc => (Option.some.inj hc).symm
    obtain ⟨e4, e5⟩ := tL_inj (tI_inj d) (st r1) (st r2) g3 k3 g4 k4 e3
    have e6 : n = m := by omega
    rw [itP_rep, itP_rep, e4, e6]
    exact ⟨rfl, (List.cons.inj e5).2⟩
theorem wr_of_data : ∀ (d : Nat) (i j : It d), itP d i = itP d j → wrI d i = wrI d j
  | 0, a, b, h => by
    have h : PyData.str a.nm = .str b.nm := h
    injection h
  | _ + 1, .inl a, .inl b, h => by
    have h : PyData.str a.nm = .str b.nm := h
    injection h
  | d + 1, .inl a, .inr (n, l), h => by cases h
  | d + 1, .inr (n, l), .inl a, h => by cases h
  | d + 1, .inr (n, l), .inr (m, q), h => by
    rw [itP_rep, itP_rep] at h
    injection h with h
    injection h with h1 h2
    injection h2 with h3 h4
    injection h1 with h5
    injection h3 with h6
    rw [wrI_rep, wrI_rep, h5]
    have : l.map (wrI d) = q.map (wrI d) := by
      clear h4 h5
      induction l generalizing q with
      | nil =>
        cases q with
        | nil => rfl
        | cons b q => cases h6
      | cons a l ih =>
        cases q with
        | nil => cases h6
        | cons b q =>
          obtain ⟨k1, k2⟩ := List.cons.inj h6
          rw [List.map_cons, List.map_cons, wr_of_data d a b k1, ih q k2]
    unfold wrL
    rw [this]
theorem wrL_iff {l m : List (It 5)} (l1 : 1 ≤ l.length) (m1 : 1 ≤ m.length) (gl : ∀ e ∈ l, ItG NmG 5 e) (gm : ∀ e ∈ m, ItG NmG 5 e) : wrL 5 l = wrL 5 m ↔ l.map (itP 5) = m.map (itP 5) := by
  constructor
  · intro h
    have s0 : StopL [] := fun _ h => nomatch h
    refine (tL_inj (tI_inj 5) s0 s0 l1 m1 gl gm ?_).1
    rw [List.append_nil, List.append_nil]
    exact congrArg cp h
  · intro h
    unfold wrL
    congr 1
    clear l1 m1 gl gm
    induction l generalizing m with
    | nil =>
      cases m with
      | nil => rfl
      | cons b q => cases h
    | cons a l ih =>
      cases m with
      | nil => cases h
      | cons b q =>
        obtain ⟨k1, k2⟩ := List.cons.inj h
        rw [List.map_cons, List.map_cons, wr_of_data 5 a b k1, ih k2]
end Sea
namespace Sea
open PySem PySem.Spec PyProof.Rows L2
/-! names, each once, of the pool with an ending or of any letters -/
abbrev FGJ : Str := Str.ofString "fgj"
theorem fgj_len : FGJ.length = 3 := by decide +kernel
theorem fgj_cut {d : Int} (h0 : 0 ≤ d) (h1 : d ≤ 3) : (cutS FGJ none (some d)).length ≤ 3 ∧ ∀ c ∈ cp (cutS FGJ none (some d)), 97 ≤ c ∧ c ≤ 122 := by
  have all : ∀ m, m ∈ [0, 1, 2, 3] → (cutS FGJ none (some ((m : Nat) : Int))).length ≤ 3 ∧ ((cp (cutS FGJ none (some ((m : Nat) : Int)))).all fun c => decide (97 ≤ c) && decide (c ≤ 122)) = true := by decide +kernel
  have e : d = ((d.toNat : Nat) : Int) := (Int.toNat_of_nonneg h0).symm
  have hm : d.toNat = 0 ∨ d.toNat = 1 ∨ d.toNat = 2 ∨ d.toNat = 3 := by omega
  obtain ⟨a1, a2⟩ := all d.toNat (by rcases hm with h | h | h | h <;> rw [h] <;> simp)
  rw [e]
  refine ⟨a1, fun c hc => ?_⟩
  have := List.all_eq_true.mp a2 c hc
  simp only [Bool.and_eq_true, decide_eq_true_eq] at this
  exact this
theorem let_len5 : LET.length = 26 := by decide +kernel
def spNamesF : Sp := fun vs H Q _ => ∃ (tp cl : Addr) (ns : List Int) (m : Int), vs = [.ref tp, .int m] ∧ Tape H tp cl ns ∧ 1 ≤ m ∧ m ≤ 40 ∧
  ∀ (H' : Hp) (p : Addr) (ss : List Str), KB tp H H' → Tape H' tp cl ns → p ≠ tp → H' p = some (.lst (ss.map V.str)) → (ss.length : Int) = m → (∀ z ∈ ss, z ∈ POOL) → ss.Nodup → Q (.ref p) H'
def spSomeNamesD : Sp := fun vs H Q _ => ∃ (tp cl : Addr) (ns : List Int) (m : Int), vs = [.ref tp, .int m] ∧ Tape H tp cl ns ∧ 1 ≤ m ∧ m ≤ 6 ∧
  ∀ (H' : Hp) (p : Addr) (ss : List Str), KB tp H H' → Tape H' tp cl ns → p ≠ tp → H' p = some (.lst (ss.map V.str)) → 1 ≤ ss.length → ss.length ≤ 6 → (∀ z ∈ ss, NameW (cp z)) → ss.Nodup → Q (.ref p) H'
theorem pool_nf : ∀ z ∈ POOL, ∀ c ∈ cp z, c ∈ (List.range 200).filter (· ≠ 102) := by
  have h : (POOL.all fun z => (cp z).all fun c => decide (c ∈ (List.range 200).filter (· ≠ 102))) = true := by decide +kernel
  intro z hz c hc
  exact of_decide_eq_true (List.all_eq_true.mp (List.all_eq_true.mp h z hz) c hc)
def FgS (s : Str) : Prop := ∀ c, (cp s).head? = some c → c = 102
theorem fgj_s {d : Int} (h0 : 0 ≤ d) (h1 : d ≤ 3) : FgS (cutS FGJ none (some d)) := by
  have all : ∀ m, m ∈ [0, 1, 2, 3] → ((cp (cutS FGJ none (some ((m : Nat) : Int)))).head? = none ∨ (cp (cutS FGJ none (some ((m : Nat) : Int)))).head? = some 102) := by decide +kernel
  have e : d = ((d.toNat : Nat) : Int) := (Int.toNat_of_nonneg h0).symm
  have hm : d.toNat = 0 ∨ d.toNat = 1 ∨ d.toNat = 2 ∨ d.toNat = 3 := by omega
  intro c hc
  rw [e] at hc
  rcases all d.toNat (by rcases hm with h | h | h | h <;> rw [h] <;> simp) with h | h
  · rw [h] at hc; cases hc
  · rw [h] at hc; exact (Option.some.inj hc).symm
theorem fg_inj {a b s t : Str} (ha : a ∈ POOL) (hb : b ∈ POOL) (hs : FgS s) (ht : FgS t) (h : a ++ s = b ++ t) : a = b := by
  have h := congrArg cp h
  rw [app_cp, app_cp] at h
  have no : ∀ r : Str, FgS r → ∀ c, (cp r).head? = some c → c ∉ (List.range 200).filter (· ≠ 102) := fun r hr c hc e => by
    have := (List.mem_filter.mp e).2
    rw [hr c hc] at this
    simp at this
  exact cp_inj (split_run (pool_nf a ha) (pool_nf b hb) (no s hs) (no t ht) h).1
section
variable {P : Program} {w : World} {K : PySem.W.Frag} {mg : Str → Option Value} {base : Heap}
theorem ok_namesF {f : Addr} {fd : FuncData} (F : Fun K "_law_names" "_law_names" s__law_names f fd) (m_range : mg "range" = none) (m_len : mg "len" = none) (c__law_pick : Cal P w K mg base 1 "_law_pick" spPick) :
    FnOk P w K mg base CX0 2 f fd ["_law_tape_here", "_law_many_here"] spNamesF := by
  refine F.ok sc__law_names (fun vs H Q E h => ?_) (fun cdv A outer s H vs Q E hr h => ?_)
  · obtain ⟨tp, cl, ns, m, rfl, _⟩ := h
    rfl
  · obtain ⟨tp, cl, ns, m, rfl, T, m1, m4, q⟩ := h
    refine ⟨_, (pss_cons (ps_set (i := 2) sc__law_names.nd rfl (Or.inl rfl) (pe_words (pe_str)))
    (pss_cons (ps_set (i := 2) sc__law_names.nd rfl (Or.inl rfl) (pe_op op_cat (pv 2) (pe_words (pe_str))))
    (pss_cons (ps_set (i := 2) sc__law_names.nd rfl (Or.inl rfl) (pe_op op_cat (pv 2) (pe_words (pe_str))))
    (pss_cons (ps_set (i := 3) sc__law_names.nd rfl (Or.inl rfl) (pe_lst pa_nil))
    (pss_cons (ps_for PassesOwn.never rfl (pi_range1 (by rfl) m_range (pa_cons (pv 1) pa_nil)) (pg_name (i := 4) sc__law_names.nd rfl (Or.inl rfl))
    (pss_one (ps_expr (pe_bm PySem.F.plainAttrs_list PySem.F.slot_list_append PySem.F.type_list_append mt_append (pv 3) (pa_cons (pe_bm PySem.F.plainAttrs_list PySem.F.slot_list_pop PySem.F.type_list_pop mt_popAt (pv 2) (pa_cons (pe_c c__law_pick hr (by decide) rfl (pa_cons (pv 0) (pa_cons (pe_callB call_len (by rfl) m_len (by decide +kernel) (pa_cons (pv 2) pa_nil)) pa_nil))) pa_nil)) pa_nil)))))
    (pss_one (ps_ret (pv 3)))))))), ?_⟩
    obtain ⟨w1, w2, w3, w4, w5, w6⟩ := pool_len
    have sl : sizeLine = 16777216 := sizeLine_eq
    refine ⟨⟨_, rfl⟩, PL1, rfl, rfl, by omega, fun p1 hp1 => ?_⟩
    have t1 := T.new (o := .lst ((Txt.words PL1).map V.str)) hp1
    have k1 := (KB.refl tp H).over (o := .lst ((Txt.words PL1).map V.str)) hp1
    refine ⟨_, rfl, ⟨_, rfl⟩, PL2, rfl, rfl, by omega, fun p2 hp2 => ?_⟩
    have s2 := same_new (o := .lst ((Txt.words PL2).map V.str)) hp2
    refine ⟨p1, p2, _, _, rfl, rfl, s2 _ _ upd_same, upd_same, by rw [List.length_map, List.length_map]; omega, fun p3 hp3 => ?_⟩
    have s3 := same_new (o := .lst ((Txt.words PL1).map V.str ++ (Txt.words PL2).map V.str)) hp3
    refine ⟨_, rfl, ⟨_, rfl⟩, PL3, rfl, rfl, by omega, fun p4 hp4 => ?_⟩
    have s4 := same_new (o := .lst ((Txt.words PL3).map V.str)) hp4
    have S4 := (s2.trans s3).trans s4
    have t4 := t1.same S4
    have k4 := k1.trans (.of_same S4)
    have c3 := s4 p3 _ (upd_same (H := upd (upd H p1 (.lst ((Txt.words PL1).map V.str))) p2 (.lst ((Txt.words PL2).map V.str))) (a := p3) (o := .lst ((Txt.words PL1).map V.str ++ (Txt.words PL2).map V.str)))
    have c4 := upd_same (H := upd (upd (upd H p1 (.lst ((Txt.words PL1).map V.str))) p2 (.lst ((Txt.words PL2).map V.str))) p3 (.lst ((Txt.words PL1).map V.str ++ (Txt.words PL2).map V.str))) (a := p4) (o := .lst ((Txt.words PL3).map V.str))
    generalize (upd (upd (upd (upd H p1 (.lst ((Txt.words PL1).map V.str))) p2 (.lst ((Txt.words PL2).map V.str))) p3 (.lst ((Txt.words PL1).map V.str ++ (Txt.words PL2).map V.str))) p4 (.lst ((Txt.words PL3).map V.str))) = H4 at S4 t4 k4 c3 c4 ⊢
    refine ⟨p3, p4, _, _, rfl, rfl, c3, c4, by rw [List.length_append, List.length_map, List.length_map, List.length_map]; omega, fun pl hpl => ?_⟩
    have ep : (Txt.words PL1).map V.str ++ (Txt.words PL2).map V.str ++ (Txt.words PL3).map V.str = POOL.map V.str := by
      unfold POOL
      rw [List.map_append, List.map_append]
    rw [ep]
    have t5 := t4.new (o := .lst (POOL.map V.str)) hpl
    have hpl5 := upd_same (H := H4) (a := pl) (o := .lst (POOL.map V.str))
    have npl : tp ≠ pl := (t4.fresh hpl).1
    have gone : H pl = none := by
      cases e : H pl with
      | none => rfl
      | some o =>
        have := k4 pl o npl.symm e
        rw [hpl] at this
        cases this
    have k5 := k4.over (o := .lst (POOL.map V.str)) gone
    generalize (upd H4 pl (.lst (POOL.map V.str))) = H5 at t5 k5 hpl5 ⊢
    refine ⟨Nat.zero_le _, fun D hD => ?_⟩
    have s6 := same_new (o := .lst []) hD
    have nD : tp ≠ D := (t5.fresh hD).1
    have nDl : pl ≠ D := ne_of_none hpl5 hD
    have goneD : H D = none := by
      cases e : H D with
      | none => rfl
      | some o =>
        have := k5 D o nD.symm e
        rw [hD] at this
        cases this
    refine ⟨_, rfl, _, rfl, by omega, by omega, ?_⟩
    refine for_it (walk_range (lo := 0) (n := m.toNat)) (fun i σ H' => ∃ (pool ss : List Str) (k4 : Option V), σ = [some (.ref tp), some (.int m), some (.ref pl), some (.ref D), k4] ∧ KB tp H H' ∧ Tape H' tp cl ns ∧
      H' pl = some (.lst (pool.map V.str)) ∧ H' D = some (.lst (ss.map V.str)) ∧ pool.length + i = 48 ∧ ss.length = i ∧ (∀ z ∈ pool, z ∈ POOL) ∧ (∀ z ∈ ss, z ∈ POOL) ∧ pool.Nodup ∧ ss.Nodup ∧ ∀ z ∈ ss, z ∉ pool)
      ⟨POOL, [], none, rfl, k5.over goneD, t5.new hD, s6 _ _ hpl5, upd_same, pool_ok.2, rfl, fun z hz => hz, (fun _ h => nomatch h), pool_nd, List.nodup_nil, (fun _ h => nomatch h)⟩ (fun _ _ _ _ _ => trivial) ?_ ?_
    · rintro i x σ Ha Hb hi ⟨pool, ss, k4, rfl, ka, Ta, hpa, hda, lp, lss, hpo, hss, n1, n2, n3⟩ ⟨rfl, rfl⟩
      have hi4 : i < 40 := by omega
      refine ⟨_, rfl, .inl ⟨rfl, _, SqL.of hda⟩, _, rfl, .inl ⟨rfl, _, SqL.of hpa⟩, _, rfl, _, rfl, _, pool.length, rfl, .inl ⟨_, SqL.of hpa, (List.length_map ..).symm⟩, tp, cl, ns, _, rfl, Ta, by omega, fun H1 d k1 T1 d0 d1 => ?_⟩
      have dl : d < (pool.length : Int) := by omega
      have dn : d.toNat < pool.length := by omega
      have hp1 := k1 pl _ npl.symm hpa
      have hd1 := k1 D _ nD.symm hda
      refine ⟨pl, _, d, d.toNat, .str pool[d.toNat], rfl, rfl, hp1, by omega, by omega, by rw [List.length_map]; exact seq_at d0 dl, by rw [List.getElem?_map, List.getElem?_eq_getElem dn]; rfl, ?_⟩
      have hd2 : (upd H1 pl (.lst ((pool.map V.str).eraseIdx d.toNat))) D = some (.lst (ss.map V.str)) := by
        rw [upd_ne nDl.symm]
        exact hd1
      refine ⟨D, _, _, rfl, rfl, hd2, (by rw [List.length_map]; exact small_line (by omega)), ?_⟩
      refine ⟨pool.eraseIdx d.toNat, ss ++ [pool[d.toNat]], _, rfl, ?_, (T1.other npl fun e => ?_).other nD fun e => ?_, ?_, ?_, ?_, ?_, fun z hz => hpo z (List.mem_of_mem_eraseIdx hz), fun z hz => ?_, nd_erase n1 _, ?_, ?_⟩
      · exact ((ka.trans k1).over gone).over goneD
      · have := T1.cells
        rw [e, hp1] at this
        have e2 := HO.lst.inj (Option.some.inj this)
        cases pool with
        | nil => simp only [List.length_nil] at dn; omega
        | cons z r =>
          cases ns with
          | nil => cases e2
          | cons n r2 => cases (List.cons.inj e2).1
      · have c1 := T1.cells
        have c2 : (upd H1 pl (.lst ((pool.map V.str).eraseIdx d.toNat))) cl = some (.lst (ns.map V.int)) → True := fun _ => trivial
        have c0 := t5.cells
        rw [e, hD] at c0
        cases c0
      · rw [upd_ne nDl, upd_same]
        exact congrArg some (congrArg HO.lst (erase_map V.str pool d.toNat))
      · rw [upd_same, List.map_append]
        rfl
      · rw [List.length_eraseIdx_of_lt dn]
        omega
      · rw [List.length_append, lss]
        rfl
      · rcases List.mem_append.mp hz with h | h
        · exact hss z h
        · rw [List.mem_singleton.mp h]
          exact hpo _ (List.getElem_mem dn)
      · refine List.nodup_append.mpr ⟨n2, List.nodup_cons.mpr ⟨List.not_mem_nil, List.nodup_nil⟩, fun a ha b hb => ?_⟩
        rw [List.mem_singleton.mp hb]
        exact fun e => n3 a ha (by rw [e]; exact List.getElem_mem dn)
      · intro z hz
        rcases List.mem_append.mp hz with h | h
        · exact fun e => n3 z h (List.mem_of_mem_eraseIdx e)
        · rw [List.mem_singleton.mp h]
          exact not_erase n1 dn
    · rintro σ H' ⟨pool, ss, k4, rfl, ka, Ta, hpa, hda, lp, lss, hpo, hss, n1, n2, n3⟩
      exact ⟨_, rfl, q H' D ss ka Ta nD.symm hda (by omega) hss n2⟩
theorem ok_some_namesD {f : Addr} {fd : FuncData} (F : Fun K "_law_some_names" "_law_some_names" s__law_some_names f fd) (m_range : mg "range" = none) (c__law_pick : Cal P w K mg base 1 "_law_pick" spPick) (c__law_some : Cal P w K mg base 2 "_law_some" spSome) (c__law_names : Cal P w K mg base 2 "_law_names" spNamesF) :
    FnOk P w K mg base CX0 3 f fd ["_law_tape_here", "_law_many_here"] spSomeNamesD := by
  refine F.ok sc__law_some_names (fun vs H Q E h => ?_) (fun cdv A outer s H vs Q E hr h => ?_)
  · obtain ⟨tp, cl, ns, m, rfl, _⟩ := h
    rfl
  · obtain ⟨tp, cl, ns, m, rfl, T, m1, m4, q⟩ := h
    refine ⟨_, (pss_cons (ps_if (pt_cmpR op_eq (pe_c c__law_pick hr (by decide) rfl (pa_cons (pv 0) (pa_cons (pe_int) pa_nil))) (pe_int) (nomark _))
    (pss_one (ps_ret (pe_lc (own := [("_law_name", 2)]) rfl sc__law_some_names.nd (pi_list (pe_c c__law_names hr (by decide) rfl (pa_cons (pv 0) (pa_cons (pv 1) pa_nil)))) (blkOk_by (N := N__law_some_names) (sc := defScope s__law_some_names) (by decide +kernel)) (fun _ _ _ _ _ => (pg_name (i := 2) sc__law_some_names.nd rfl (Or.inl rfl))) (fun _ _ _ _ _ => pts_nil) (fun _ _ _ _ _ => (pe_op op_add_str (pv 2) (pe_slice sl_str (pe_str) po_none (po_some (pe_c c__law_pick hr (by decide) rfl (pa_cons (pv 0) (pa_cons (pe_int) pa_nil))))))))))
    pss_nil)
    (pss_cons (ps_set (i := 3) sc__law_some_names.nd rfl (Or.inl rfl) (pe_lst pa_nil))
    (pss_cons (ps_for PassesOwn.never rfl (pi_range1 (by rfl) m_range (pa_cons (pv 1) pa_nil)) (pg_name (i := 4) sc__law_some_names.nd rfl (Or.inl rfl))
    (pss_cons (ps_set (i := 5) sc__law_some_names.nd rfl (Or.inl rfl) (pe_c c__law_some hr (by decide) rfl (pa_cons (pv 0) (pa_cons (pe_int) (pa_cons (pe_int) pa_nil)))))
    (pss_cons (ps_set (i := 2) sc__law_some_names.nd rfl (Or.inl rfl) (pe_join (pe_str) (pe_lc (own := [("_law_at", 6)]) rfl sc__law_some_names.nd (pi_range1 (by rfl) m_range (pa_cons (pv 5) pa_nil)) (blkOk_by (N := N__law_some_names) (sc := defScope s__law_some_names) (by decide +kernel)) (fun _ _ _ _ _ => (pg_name (i := 6) sc__law_some_names.nd rfl (Or.inl rfl))) (fun _ _ _ _ _ => pts_nil) (fun _ _ _ _ _ => (pe_ix ix_str (pe_str) (pe_c c__law_pick hr (by decide) rfl (pa_cons (pv 0) (pa_cons (pe_int) pa_nil))) (fun _ _ => rfl))))))
    (pss_one (ps_if (pt_cmpR op_notIn_seq (pv 2) (pv 3) rfl)
    (pss_one (ps_expr (pe_bm PySem.F.plainAttrs_list PySem.F.slot_list_append PySem.F.type_list_append mt_append (pv 3) (pa_cons (pv 2) pa_nil))))
    pss_nil)))))
    (pss_one (ps_ret (pv 3)))))), ?_⟩
    have sl : sizeLine = 16777216 := sizeLine_eq
    have f3 := fgj_len
    have l26 := let_len5
    refine ⟨_, rfl, tp, cl, ns, 2, rfl, T, by decide, fun H1 d k1 T1 d0 d1 => ⟨rfl, _, rfl, ite2 (fun _ => ?_) (fun _ => ?_)⟩⟩
    · -- names of the pool
      refine ⟨_, rfl, _, rfl, tp, cl, ns, m, rfl, T1, m1, by omega, fun H2 p ss k2 T2 np hp ll hsp hnd => ⟨p, rfl, ⟨_, SqL.of hp⟩, fun D hD => ?_⟩⟩
      have nD := T2.fresh hD
      refine lc_list (K := K) (a := p) (xs := ss.map V.str) (fun i H' => KB tp H2 H' ∧ Tape H' tp cl ns ∧ ∃ ys : List Str, H' D = some (.lst (ys.map V.str)) ∧ ys.length = i ∧ (∀ z ∈ ys, NameW (cp z)) ∧ ys.Nodup ∧ ∀ y ∈ ys, ∃ z s, z ∈ ss.take i ∧ FgS s ∧ y = z ++ s)
        ⟨(KB.refl tp H2).over hD, T2.new hD, [], upd_same, rfl, (fun _ h => nomatch h), List.nodup_nil, (fun _ h => nomatch h)⟩ (fun i H' _ hq => SqL.of (hq.1 _ _ np hp)) ?_ ?_
      · rintro i y Ha hy ⟨ka, Ta, ys, hd, hl, hys, hyn, hyz⟩
        obtain ⟨z, hz, rfl⟩ : ∃ z, ss[i]? = some z ∧ y = V.str z := by
          rw [List.getElem?_map] at hy
          cases e : ss[i]? with
          | none => rw [e] at hy; cases hy
          | some z => rw [e] at hy; exact ⟨z, rfl, (Option.some.inj hy).symm⟩
        have hzp := hsp z (List.mem_of_getElem? hz)
        have sz := pool_short hzp
        have ztk : z ∉ ss.take i := fun h => by
          obtain ⟨k, hk⟩ := List.getElem?_of_mem h
          rw [List.getElem?_take] at hk
          split at hk
          · have h1 := (List.getElem?_eq_some_iff.mp hk)
            have h2 := (List.getElem?_eq_some_iff.mp hz)
            have := (List.getElem_inj hnd).mp (h1.2.trans h2.2.symm)
            omega
          · cases hk
        have il : i < ss.length := (List.getElem?_eq_some_iff.mp hz).1
        refine ⟨rfl, _, rfl, _, rfl, tp, cl, ns, 4, rfl, Ta, by decide, fun H4 g k4 T4 g0 g1 => ⟨g, rfl, FGJ, rfl, by omega, ?_⟩⟩
        obtain ⟨c1, c2⟩ := fgj_cut g0 (show g ≤ 3 by omega)
        have c3 := fgj_s g0 (show g ≤ 3 by omega)
        have zm := sz.most
        have hd4 : H4 D = some (.lst (ys.map V.str)) := k4 D _ nD.1.symm hd
        refine ⟨_, _, rfl, rfl, by omega, _, hd4, (by rw [List.length_map]; exact small_line (by omega)), (ka.trans k4).over hD, T4.other nD.1 nD.2, ys ++ [z ++ cutS FGJ none (some g)], ?_, ?_, fun v hv => ?_, ?_, fun v hv => ?_⟩
        · rw [upd_same, List.map_append]
          rfl
        · rw [List.length_append, hl]
          rfl
        · rcases List.mem_append.mp hv with h | h
          · exact hys v h
          · rw [List.mem_singleton.mp h]
            refine ⟨?_, ?_, fun c hc => ?_⟩
            · rw [cp_len, app_len]
              have := sz.some
              omega
            · rw [cp_len, app_len]
              omega
            · rw [app_cp] at hc
              rcases List.mem_append.mp hc with h | h
              · exact sz.sign c h
              · exact c2 c h
        · refine List.nodup_append.mpr ⟨hyn, List.nodup_cons.mpr ⟨List.not_mem_nil, List.nodup_nil⟩, fun a ha b hb => ?_⟩
          rw [List.mem_singleton.mp hb]
          intro e
          obtain ⟨z', s', h1, h2, h3⟩ := hyz a ha
          rw [e] at h3
          have := fg_inj hzp (hsp z' (List.mem_of_mem_take h1)) c3 h2 h3
          exact ztk (by rw [this]; exact h1)
        · rw [List.take_add_one, hz]
          rcases List.mem_append.mp hv with h | h
          · obtain ⟨z', s', h1, h2, h3⟩ := hyz v h
            exact ⟨z', s', List.mem_append_left _ h1, h2, h3⟩
          · exact ⟨z, _, List.mem_append_right _ (List.mem_singleton.mpr rfl), c3, List.mem_singleton.mp h⟩
      · rintro H' ⟨ka, Ta, ys, hd, hl, hys, hyn, _⟩
        rw [List.length_map] at hl
        exact q H' D ys ((k1.trans k2).trans ka) Ta nD.1.symm hd (by omega) (by omega) hys hyn
    · -- names of any letters
      refine ⟨Nat.zero_le _, fun D hD => ?_⟩
      have nD := T1.fresh hD
      have goneD : H D = none := by
        cases e : H D with
        | none => rfl
        | some o =>
          have := k1 D o nD.1.symm e
          rw [hD] at this
          cases this
      refine ⟨_, rfl, _, rfl, by omega, by omega, ?_⟩
      refine for_it (walk_range (lo := 0) (n := m.toNat)) (fun i σ H' => ∃ (ss : List Str) (k2 k4 k5 : Option V), σ = [some (.ref tp), some (.int m), k2, some (.ref D), k4, k5, none] ∧ KB tp H H' ∧ Tape H' tp cl ns ∧
        H' D = some (.lst (ss.map V.str)) ∧ ss.length ≤ i ∧ (1 ≤ i → ss ≠ []) ∧ (∀ z ∈ ss, NameW (cp z)) ∧ ss.Nodup) ⟨[], none, none, none, rfl, k1.over goneD, T1.new hD, upd_same, Nat.le_refl _, (fun h => absurd h (by decide)), (fun _ h => nomatch h), List.nodup_nil⟩ (fun _ _ _ _ _ => trivial) ?_ ?_
      · rintro i x σ Ha Hb hi ⟨ss, k2, k4, k5, rfl, ka, Ta, hd, hl, hne, hss, hsn⟩ ⟨rfl, rfl⟩
        refine ⟨_, rfl, tp, cl, ns, 1, 8, rfl, Ta, by decide, by decide, fun H3 g k3 T3 g0 g1 => ?_⟩
        refine ⟨⟨_, rfl⟩, _, rfl, g, rfl, by omega, by omega, fun D2 hD2 => ?_⟩
        have nD2 := T3.fresh hD2
        have hd3 : H3 D = some (.lst (ss.map V.str)) := k3 D _ nD.1.symm hd
        have nDD : D ≠ D2 := ne_of_none hd3 hD2
        refine lc_range (lo := 0) (n := g.toNat) (fun j H' => KB tp H3 H' ∧ Tape H' tp cl ns ∧ ∃ cs : List Nat, H' D2 = some (.lst ((cs.map fun c => (⟨#[c]⟩ : Str)).map V.str)) ∧ cs.length = j ∧ ∀ c ∈ cs, 97 ≤ c ∧ c ≤ 122)
          ⟨(KB.refl _ _).over hD2, T3.new hD2, [], upd_same, rfl, fun _ h => nomatch h⟩ ?_ ?_
        · rintro j H' hj ⟨kj, Tj, cs, hd2, hcl, hcs⟩
          refine ⟨rfl, _, rfl, tp, cl, ns, 26, rfl, Tj, by decide, fun H5 d3 k5' T5 p0 p1 => ?_⟩
          obtain ⟨k, rfl⟩ : ∃ k : Nat, d3 = (k : Int) := ⟨d3.toNat, by omega⟩
          have hk : k < (cp LET).length := by rw [cp_len, l26]; omega
          have hin := in_let.mp (List.getElem_mem hk)
          have hd5 : H5 D2 = some (.lst ((cs.map fun c => (⟨#[c]⟩ : Str)).map V.str)) := k5' D2 _ nD2.1.symm hd2
          refine ⟨LET, (k : Int), (cp LET)[k], rfl, rfl, by omega, atI_nat (List.getElem?_eq_getElem hk), _, hd5, ?_, (kj.trans k5').over hD2, T5.other nD2.1 nD2.2, cs ++ [(cp LET)[k]], ?_, ?_, fun c hc => ?_⟩
          · rw [List.length_map, List.length_map]
            exact small_line (by omega)
          · rw [upd_same, List.map_append, List.map_append]
            rfl
          · rw [List.length_append, hcl]
            rfl
          · rcases List.mem_append.mp hc with h | h
            · exact hcs c h
            · rw [List.mem_singleton.mp h]
              exact hin
        · rintro H' ⟨kj, Tj, cs, hd2, hcl, hcs⟩
          have b0 : (Str.ofString "").length = 0 := by decide +kernel
          have lj : (Txt.join (Str.ofString "") (cs.map fun c => (⟨#[c]⟩ : Str))).length = cs.length := by rw [← cp_len, word_cp]
          have hdj : H' D = some (.lst (ss.map V.str)) := kj D _ nD.1.symm hd3
          refine ⟨_, D2, _, rfl, rfl, .inl (SqL.of hd2), by rw [sum_ones, List.length_map, b0]; omega, ?_⟩
          have nw : NameW (cp (Txt.join (Str.ofString "") (cs.map fun c => (⟨#[c]⟩ : Str)))) := by
            rw [word_cp]
            exact ⟨by omega, by omega, hcs⟩
          have KK := (ka.trans k3).trans kj
          refine ⟨_, rfl, _, rfl, D, _, rfl, .inl (SqL.of hdj), rfl, flat_strs _, _, rfl, ?_⟩
          cases e : inV (.str (Txt.join (Str.ofString "") (cs.map fun c => (⟨#[c]⟩ : Str)))) (ss.map V.str) with
          | true =>
            refine ⟨ss, _, _, _, rfl, KK, Tj, hdj, Nat.le_succ_of_le hl, fun _ q => ?_, hss, hsn⟩
            rw [q] at e
            cases e
          | false =>
            refine ⟨_, rfl, .inl ⟨rfl, _, SqL.of hdj⟩, _, rfl, D, _, _, rfl, rfl, hdj, (by rw [List.length_map]; exact small_line (by omega)), ?_⟩
            refine ⟨ss ++ [Txt.join (Str.ofString "") (cs.map fun c => (⟨#[c]⟩ : Str))], _, _, _, rfl, KK.over goneD, Tj.other nD.1 nD.2, ?_, ?_, fun _ q => ?_, fun z hz => ?_, ?_⟩
            · rw [upd_same, List.map_append]
              rfl
            · rw [List.length_append]
              exact Nat.succ_le_succ hl
            · exact absurd q (by simp)
            · rcases List.mem_append.mp hz with h | h
              · exact hss z h
              · rw [List.mem_singleton.mp h]
                exact nw
            · rw [inV_strs] at e
              have e := of_decide_eq_false e
              refine List.nodup_append.mpr ⟨hsn, List.nodup_cons.mpr ⟨List.not_mem_nil, List.nodup_nil⟩, fun a ha b hb => ?_⟩
              rw [List.mem_singleton.mp hb]
              exact fun h => e (h ▸ ha)
      · rintro σ H' ⟨ss, k2, k4, k5, rfl, ka, Ta, hd, hl, hne, hss, hsn⟩
        have : ss ≠ [] := hne (by omega)
        have l1 : 0 < ss.length := List.length_pos_iff.mpr this
        exact ⟨_, rfl, q H' D ss ka Ta nD.1.symm hd (by omega) (by omega) hss hsn⟩
end
end Sea
namespace Sea
open PySem PySem.Spec PyProof.Rows L2
/-! the law's plan: each piece a start and an end, no cues -/
def pcOf (k : Nat) (z : Str) : Piece := ⟨z, 0, (k : Int) + 1, 1, 1, true⟩
def pcsOf (zs : List Str) : List Piece := zs.mapIdx pcOf
theorem pcs_at {zs : List Str} {i : Nat} {z : Str} (h : zs[i]? = some z) : (pcsOf zs)[i]? = some (pcOf i z) := by
  unfold pcsOf
  rw [List.getElem?_mapIdx, h]
  rfl
theorem pcs_len (zs : List Str) : (pcsOf zs).length = zs.length := List.length_mapIdx ..
theorem pcs_nm (zs : List Str) : (pcsOf zs).map (·.nm) = zs := by
  apply List.ext_getElem?
  intro i
  rw [List.getElem?_map]
  cases h : zs[i]? with
  | none => rw [List.getElem?_eq_none (by rw [pcs_len]; exact List.getElem?_eq_none_iff.mp h)]; rfl
  | some z => rw [pcs_at h]; rfl
theorem pcs_mem {zs : List Str} {p : Piece} (h : p ∈ pcsOf zs) : ∃ i z, zs[i]? = some z ∧ p = pcOf i z := by
  obtain ⟨i, hi⟩ := List.getElem?_of_mem h
  have hl := (List.getElem?_eq_some_iff.mp hi).1
  rw [pcs_len] at hl
  have hz := List.getElem?_eq_getElem hl
  rw [pcs_at hz] at hi
  exact ⟨i, _, hz, (Option.some.inj hi).symm⟩
def spPlan5 (CR CP : Addr) : Sp := fun vs H Q _ => ∃ (a : Addr) (zs : List Str), vs = [.ref a] ∧ H a = some (.lst (zs.map V.str)) ∧ 1 ≤ zs.length ∧ zs.length ≤ 7 ∧ (∀ z ∈ zs, NameW (cp z)) ∧ zs.Nodup ∧
  ∀ H' x L, Same H H' → PlanAt H' CR CP x 12 L (pcsOf zs) [] zs zs → L = [] → Q (.ref x) H'
section
variable {P : Program} {w : World} {K : PySem.W.Frag} {mg : Str → Option Value} {base : Heap} {CR CP CC CM CLn fR fP aE : Addr}
theorem ok_plan5 {f : Addr} {fd : FuncData} (F : Fun K "_law_plan" "_law_plan" s__law_plan f fd) (m_range : mg "range" = none) (m_len : mg "len" = none)
    (TR : RC K mg CR fR) {fdR : FuncData} (FR : FnOk P w K mg base (L2.CX P w) 5 fR fdR ["self", "length", "cues"] (spReelA K CR CC CM CLn)) (bR1 : Binds K fdR ["self", "length", "cues"] [.ref aE]) (hE : DfT K aE)
    (TP : PlC K mg CP fP) {fdP : FuncData} (FP : FnOk P w K mg base CX0 5 fP fdP ["self", "reel", "pieces", "arrows", "starts", "ends"] (spPlan CR CP)) (bP : Binds K fdP ["self", "reel", "pieces", "arrows", "starts", "ends"] []) : FnOk P w K mg base CX0 7 f fd ["_law_names_here"] (spPlan5 CR CP) := by
  refine F.ok sc__law_plan (fun vs H Q E h => ?_) (fun cdv A outer s H vs Q E hr h => ?_)
  · obtain ⟨a, zs, rfl, _⟩ := h
    rfl
  · obtain ⟨a, zs, rfl, ha, h1, h7, hN, nd, q⟩ := h
    refine ⟨_, (pss_one (ps_ret (pe_make (E := E0) TP.made FP (hr.mono (by decide)) rfl TP.g bP .nil pass0 (pa_cons (pe_make (E := E0) TR.made FR (hr.mono (by decide)) rfl TR.g bR1 (.cons (show RelV (.ref aE) (.ref aE) from rfl) .nil) (passes_call takes0 (fun _ _ _ _ h => h)) (pa_cons (pe_int) pa_nil)) (pa_cons (pe_lc (own := [("_law_k", 1)]) rfl sc__law_plan.nd (pi_range1 (by rfl) m_range (pa_cons (pe_callB call_len (by rfl) m_len (by decide +kernel) (pa_cons (pv 0) pa_nil)) pa_nil)) (blkOk_by (N := N__law_plan) (sc := defScope s__law_plan) (by decide +kernel)) (fun _ _ _ _ _ => (pg_name (i := 1) sc__law_plan.nd rfl (Or.inl rfl))) (fun _ _ _ _ _ => pts_nil) (fun _ _ _ _ _ => (pe_tup (pa_cons (pe_ix (show IxR _ (rIxL K) from ix_list) (pv 0) (pv 1) (fun _ _ => rfl)) (pa_cons (pe_int) (pa_cons (pe_op op_add (pv 1) (pe_int)) (pa_cons (pe_int) (pa_cons (pe_int) (pa_cons (pe_str) pa_nil))))))))) (pa_cons (pe_lst pa_nil) (pa_cons (pv 0) (pa_cons (pv 0) pa_nil)))))))), ?_⟩
    have sl : sizeLine = 16777216 := sizeLine_eq
    refine reel_good (cd := .tuple []) (cs := []) (by decide) (by decide) (.inr ⟨rfl, aE, rfl, hE⟩) rfl rfl (by decide) fun H1 xr L s1 hR eL _ => ?_
    have hL : L = [] := List.map_eq_nil_iff.mp eL
    subst hL
    have ha1 := s1 _ _ ha
    refine ⟨_, rfl, _, zs.length, rfl, .inl ⟨_, SqL.of ha1, (List.length_map ..).symm⟩, _, rfl, by omega, by omega, fun D hD => ?_⟩
    refine lc_it (walk_range (lo := 0) (n := ((zs.length : Nat) : Int).toNat)) (fun i H' => Same H1 H' ∧ ∃ M : List (Addr × Piece), H' D = some (.lst (refsP M)) ∧ pcs M = (pcsOf zs).take i ∧ ∀ e ∈ M, PAt H' e) ⟨same_new hD, [], upd_same, rfl, fun _ h => nomatch h⟩ (fun _ _ _ _ => trivial) ?_ ?_
    · rintro i x Ha Hb hi ⟨hs, M, hd, hM, hp⟩ ⟨rfl, rfl⟩
      have hi' : i < zs.length := by rw [Int.toNat_natCast] at hi; exact hi
      have ez : zs[i]? = some zs[i] := List.getElem?_eq_getElem hi'
      have e1 : (zs.map V.str)[i]? = some (.str zs[i]) := by rw [List.getElem?_map, ez]; rfl
      have at1 : atI (zs.map V.str) (0 + (i : Nat)) = some (.str zs[i]) := by rw [Int.zero_add]; exact atI_nat e1
      have lM : M.length = i := by
        have := congrArg List.length hM
        rw [List.length_map, List.length_take, pcs_len] at this
        omega
      refine ⟨rfl, _, rfl, _, rfl, a, _, _, _, rfl, rfl, SqL.of (hs _ _ ha1), at1, _, rfl, _, _, rfl, rfl, (by show 6 ≤ sizeLine; omega), fun p hp0 => ?_⟩
      have s2 := same_new (o := HO.tup [V.str zs[i], V.int 0, V.int (0 + (i : Nat) + 1), V.int 1, V.int 1, V.str (Str.ofString "on")]) hp0
      have hd2 := s2 _ _ hd
      have hp2 := upd_same (H := Hb) (a := p) (o := HO.tup [V.str zs[i], V.int 0, V.int (0 + (i : Nat) + 1), V.int 1, V.int 1, V.str (Str.ofString "on")])
      generalize upd Hb p (HO.tup [V.str zs[i], V.int 0, V.int (0 + (i : Nat) + 1), V.int 1, V.int 1, V.str (Str.ofString "on")]) = H2 at s2 hd2 hp2 ⊢
      have kt : KT H2 (upd H2 D (.lst (refsP M ++ [V.ref p]))) := (KT.refl _).over hd2
      refine ⟨_, hd2, (by rw [List.length_map]; exact small_line (by omega)), same_over (hs.trans s2) hD, M ++ [(p, pcOf i zs[i])], ?_, ?_, fun e he => ?_⟩
      · rw [upd_same]
        show _ = some (HO.lst ((M ++ [(p, pcOf i zs[i])]).map _))
        rw [List.map_append]
        rfl
      · show (M ++ [(p, pcOf i zs[i])]).map _ = _
        rw [List.map_append, List.take_add_one, pcs_at ez]
        show pcs M ++ _ = _
        rw [hM]
        rfl
      · rcases List.mem_append.mp he with h | h
        · exact ((hp e h).keep s2).kt kt
        · rw [List.mem_singleton.mp h]
          refine kt _ _ ?_
          rw [hp2]
          show _ = some (HO.tup [V.str zs[i], V.int 0, V.int ((i : Int) + 1), V.int 1, V.int 1, V.str (wayS true)])
          rw [Int.zero_add]
          rfl
    · rintro H2 ⟨s2, M, hd, hM, hp⟩
      rw [Int.toNat_natCast, List.take_of_length_le (by rw [pcs_len]; exact Nat.le_refl _)] at hM
      refine ⟨(by show 0 ≤ sizeLine; omega), fun B hB => ?_⟩
      have s3 := same_new (o := HO.lst []) hB
      have hb3 := upd_same (H := H2) (a := B) (o := HO.lst [])
      generalize upd H2 B (HO.lst []) = H3 at s3 hb3 ⊢
      refine ⟨_, rfl, _, rfl, fun x dx hx hdx ne => ?_⟩
      have s4 := same_new (o := .own x) hdx
      have hx1 : upd H3 dx (.own x) x = none := by rw [upd_ne (Ne.symm ne)]; exact hx
      have s5 := same_new (o := .ins CP dx []) hx1
      have S := s4.trans s5
      have SR : Same H3 (rest x (upd (upd H3 dx (.own x)) x (.ins CP dx []))) := same_rest hx S
      have S0 : Same H1 (rest x (upd (upd H3 dx (.own x)) x (.ins CP dx []))) := (s2.trans s3).trans SR
      have lM : M.length = zs.length := by
        have := congrArg List.length hM
        rw [List.length_map, pcs_len] at this
        exact this
      have enm : (pcs M).map (·.nm) = zs := by rw [hM, pcs_nm]
      have ch : Chosen ((pcs M).map (·.nm)) zs := ⟨h1, by omega, nd, fun z hz => by rw [enm]; exact hz⟩
      refine ⟨x, dx, xr, D, B, a, a, 12, [], M, [], zs, zs, rfl, upd_same, hR.keep S0, by decide, .inr ((s3.trans SR) _ _ hd), fun e he => ⟨(hp e he).keep (s3.trans SR), ?_⟩, ⟨by omega, by omega⟩, by rw [enm]; exact nd, .inr (SR _ _ hb3), fun e he => (nomatch he), List.nodup_nil, by decide, .inr (S0 _ _ ha1), ch, .inr (S0 _ _ ha1), ch, fun z hz => ?_, fun H' k hP => ⟨rfl, ?_⟩⟩
      · have hm : e.2 ∈ pcsOf zs := by rw [← hM]; exact List.mem_map_of_mem he
        obtain ⟨i, z, hz, ep⟩ := pcs_mem hm
        have hi := (List.getElem?_eq_some_iff.mp hz).1
        rw [ep]
        refine ⟨hN z (List.mem_of_getElem? hz), Int.le_refl 0, ?_, ?_, (by show (1 : Int) ≤ 1; decide), (by show (1 : Int) ≤ 6; decide), (by show (1 : Int) ≤ 1; decide), (by show (1 : Int) ≤ 6; decide), (by show Nat.gcd 1 1 ≤ 1; decide)⟩
        · show (0 : Int) < (i : Int) + 1
          omega
        · show (i : Int) + 1 ≤ 12
          omega
      · rw [enm] at hz
        exact ⟨.at hz, .at hz⟩
      · rw [hM] at hP
        refine q H' x [] (fun b o h => ?_) hP rfl
        have h3 := s3 _ _ (s2 _ _ (s1 _ _ h))
        exact k _ _ (fun e => by rw [e, hx] at h3; cases h3) (S _ _ h3)
end
end Sea
namespace Sea
open PySem PySem.Spec PyProof.Rows L2
/-! the law's numbers of times, how many items, the law's texts -/
def spTimesN : Sp := fun vs H Q _ => ∃ (tp cl : Addr) (ns : List Int), vs = [.ref tp] ∧ Tape H tp cl ns ∧ ∀ H' n, KB tp H H' → Tape H' tp cl ns → 2 ≤ n → n < 10 ^ 40 → Q (.int n) H'
theorem pow_up {n d : Int} {i : Nat} (h0 : 1 ≤ n) (h : n < 10 ^ (i + 1)) (d0 : 0 ≤ d) (d9 : d ≤ 9) : 1 ≤ n * 10 + d ∧ n * 10 + d < 10 ^ (i + 1 + 1) := by
  rw [Int.pow_succ]
  omega
theorem pow_le40 {n : Int} {i : Nat} (h : n < 10 ^ (i + 1)) (hi : i ≤ 39) : n < 10 ^ 40 := by
  refine Int.lt_of_lt_of_le h ?_
  exact_mod_cast Nat.pow_le_pow_right (by decide : 0 < 10) (show i + 1 ≤ 40 by omega)
section
variable {P : Program} {w : World} {K : PySem.W.Frag} {mg : Str → Option Value} {base : Heap}
theorem ok_timesN {f : Addr} {fd : FuncData} (F : Fun K "_law_times" "_law_times" s__law_times f fd) (m_range : mg "range" = none) (m_max : mg "max" = none)
    (c__law_pick : Cal P w K mg base 1 "_law_pick" spPick) (c__law_some : Cal P w K mg base 2 "_law_some" spSome) (c__law_rarely : Cal P w K mg base 2 "_law_rarely" spRarely) : FnOk P w K mg base CX0 3 f fd ["_law_tape_here"] spTimesN := by
  refine F.ok sc__law_times (fun vs H Q E h => ?_) (fun cdv A outer s H vs Q E hr h => ?_)
  · obtain ⟨tp, cl, ns, rfl, _⟩ := h
    rfl
  · obtain ⟨tp, cl, ns, rfl, T, q⟩ := h
    refine ⟨_, (pss_cons (ps_if (pt_not (pt_val (pe_c c__law_rarely hr (by decide) rfl (pa_cons (pv 0) (pa_cons (pe_int) pa_nil)))))
    (pss_one (ps_ret (pe_c c__law_some hr (by decide) rfl (pa_cons (pv 0) (pa_cons (pe_int) (pa_cons (pe_int) pa_nil))))))
    pss_nil)
    (pss_cons (ps_set (i := 1) sc__law_times.nd rfl (Or.inl rfl) (pe_c c__law_some hr (by decide) rfl (pa_cons (pv 0) (pa_cons (pe_int) (pa_cons (pe_int) pa_nil)))))
    (pss_cons (ps_for PassesOwn.never rfl (pi_range1 (by rfl) m_range (pa_cons (pe_ix ix_list (pe_lst (pa_cons (pe_int) (pa_cons (pe_c c__law_some hr (by decide) rfl (pa_cons (pv 0) (pa_cons (pe_int) (pa_cons (pe_int) pa_nil)))) pa_nil))) (pe_c c__law_pick hr (by decide) rfl (pa_cons (pv 0) (pa_cons (pe_int) pa_nil))) (fun _ _ => rfl)) pa_nil)) (pg_name (i := 2) sc__law_times.nd rfl (Or.inl rfl))
    (pss_one (ps_set (i := 1) sc__law_times.nd rfl (Or.inl rfl) (pe_op op_add (pe_op op_mulB (pv 1) (pe_int)) (pe_c c__law_pick hr (by decide) rfl (pa_cons (pv 0) (pa_cons (pe_int) pa_nil)))))))
    (pss_one (ps_ret (pe_callB (call_max2 rfl) (by rfl) m_max (by decide +kernel) (pa_cons (pe_int) (pa_cons (pv 1) pa_nil)))))))), ?_⟩
    have sl : sizeLine = 16777216 := sizeLine_eq
    refine ⟨_, rfl, tp, cl, ns, 3, rfl, T, by decide, fun H1 b k1 T1 => ⟨b, rfl, ?_⟩⟩
    cases b with
    | false =>
      exact ⟨_, rfl, tp, cl, ns, 2, 12, rfl, T1, by decide, by decide, fun H2 d k2 T2 d0 d1 => q H2 d (k1.trans k2) T2 d0 (Int.lt_of_le_of_lt d1 (by decide))⟩
    | true =>
      refine iteF ?_
      refine ⟨_, rfl, tp, cl, ns, 1, 9, rfl, T1, by decide, by decide, fun H2 d k2 T2 d0 d1 => ?_⟩
      refine ⟨_, rfl, tp, cl, ns, 1, 39, rfl, T2, by decide, by decide, fun H3 g k3 T3 g0 g1 => ⟨(by show 2 ≤ sizeLine; omega), fun D hD => ?_⟩⟩
      have T4 := T3.new (o := .lst [V.int 39, V.int g]) hD
      have k123 := (k1.trans k2).trans k3
      have nD := T3.fresh hD
      have goneD : H D = none := by
        cases e : H D with
        | none => rfl
        | some o =>
          have := k123 D o nD.1.symm e
          rw [hD] at this
          cases this
      have k4 := k123.over (o := .lst [V.int 39, V.int g]) goneD
      have hd4 := upd_same (H := H3) (a := D) (o := .lst [V.int 39, V.int g])
      generalize upd H3 D (.lst [V.int 39, V.int g]) = H4 at T4 k4 hd4 ⊢
      refine ⟨_, rfl, tp, cl, ns, 2, rfl, T4, by decide, fun H5 e k5 T5 e0 e1 => ?_⟩
      have hd5 := k5 D _ nD.1.symm hd4
      obtain ⟨m, m1, m39, hm⟩ : ∃ m : Int, 1 ≤ m ∧ m ≤ 39 ∧ atI [V.int 39, V.int g] e = some (.int m) := by
        rcases (show e = 0 ∨ e = 1 by omega) with rfl | rfl
        · exact ⟨39, by decide, by decide, rfl⟩
        · exact ⟨g, g0, g1, rfl⟩
      refine ⟨D, _, e, _, rfl, rfl, SqL.of hd5, hm, _, rfl, by omega, by omega, ?_⟩
      refine for_it (walk_range (lo := 0) (n := m.toNat)) (fun i σ H' => ∃ (n : Int) (k2 : Option V), σ = [some (.ref tp), some (.int n), k2] ∧ KB tp H H' ∧ Tape H' tp cl ns ∧ 1 ≤ n ∧ n < 10 ^ (i + 1))
        ⟨d, none, rfl, k4.trans k5, T5, d0, by omega⟩ (fun _ _ _ _ _ => trivial) ?_ ?_
      · rintro i x σ Ha Hb hi ⟨n, k2, rfl, ka, Ta, n0, n1⟩ ⟨rfl, rfl⟩
        have n40 : n < 10 ^ 40 := pow_le40 n1 (by omega)
        refine ⟨_, rfl, _, _, rfl, rfl, IntMulOk.of_bits (Nat.le_trans (bits40 (by omega) n40) (by decide)) (Nat.le_trans (intBits_le_64 (by decide) (by decide)) (by decide)), _, rfl, tp, cl, ns, 10, rfl, Ta, by decide, fun H6 c k6 T6 c0 c1 => ?_⟩
        obtain ⟨u1, u2⟩ := pow_up (n := n) (d := c) (i := i) n0 n1 c0 (by omega)
        exact ⟨_, _, rfl, rfl, _, _, rfl, ka.trans k6, T6, u1, u2⟩
      · rintro σ H' ⟨n, k2, rfl, ka, Ta, n0, n1⟩
        have n40 : n < 10 ^ 40 := pow_le40 n1 (by omega)
        refine ⟨_, rfl, 2, n, rfl, q H' _ ka Ta ?_ ?_⟩
        · split <;> omega
        · split
          · exact n40
          · decide
end
end Sea
namespace Sea
open PySem PySem.Spec PyProof.Rows L2
def spMany (d : Nat) : Sp := fun vs H Q _ => ∃ (t : Addr) (ys : List V) (M : List (It d)), vs = [.ref t] ∧ H t = some (.tup ys) ∧ Paired (ItV d H) ys M ∧ cntL d M ≤ 1000 ∧ ∀ H', Same H H' → Q (.int (cntL d M : Nat)) H'
def spWritten (d : Nat) : Sp := fun vs H Q _ => ∃ (t : Addr) (ys : List V) (M : List (It d)), vs = [.ref t] ∧ H t = some (.tup ys) ∧ Paired (ItV d H) ys M ∧ cntL d M ≤ 1000 ∧ (∀ i ∈ M, ItG G8 d i) ∧ ∀ H', Same H H' → Q (.str (wrL d M)) H'
theorem cntL_take {d : Nat} {M : List (It d)} {i : Nat} {e : It d} (h : M[i]? = some e) : cntL d (M.take (i + 1)) = cntL d (M.take i) + cntI d e := by
  unfold cntL
  rw [List.take_add_one, h, List.map_append, List.sum_append]
  rfl
theorem itV_ways {d : Nat} {H : Hp} {v : V} {i : It d} (h : ItV d H v i) : (∃ p : Piece, v = .str p.nm ∧ cntI d i = 1 ∧ wrI d i = p.nm) ∨ ∃ (e : Nat) (a b : Addr) (n : Int) (ys : List V) (l : List (It e)), d = e + 1 ∧ v = .ref a ∧ H a = some (.tup [.int n, .ref b]) ∧ H b = some (.tup ys) ∧ Paired (ItV e H) ys l ∧ HEq i (.inr (n, l) : It (e + 1)) := by
  cases d with
  | zero => exact .inl ⟨i, h, rfl, rfl⟩
  | succ e =>
    match i, h with
    | .inl p, h => exact .inl ⟨p, h, rfl, rfl⟩
    | .inr (n, l), ⟨a, b, E, h1, h2, h3, h4, h5⟩ =>
      refine .inr ⟨e, a, b, n, E.map (·.1), l, rfl, h1, h2, h3, ?_, HEq.rfl⟩
      rw [h4]
      clear h3 h4
      induction E with
      | nil => exact .nil
      | cons u r ih => exact .cons (h5 u List.mem_cons_self) (ih fun z hz => h5 z (List.mem_cons_of_mem _ hz))
section
variable {P : Program} {w : World} {K : PySem.W.Frag} {mg : Str → Option Value} {base : Heap}
theorem ok_many_at {f : Addr} {fd : FuncData} (F : Fun K "_law_many" "_law_many" s__law_many f fd) (m_isinstance : mg "isinstance" = none) (m_tuple : mg "tuple" = none) {k d : Nat} {sp : Sp} (c__law_many : Cal P w K mg base k "_law_many" sp) (hsp : ∀ e, d = e + 1 → sp = spMany e) : FnOk P w K mg base CX0 (k + 1) f fd ["_law_items_here"] (spMany d) := by
  refine F.ok sc__law_many (fun vs H Q E h => ?_) (fun cdv A outer s H vs Q E hr h => ?_)
  · obtain ⟨t, ys, M, rfl, _⟩ := h
    rfl
  · obtain ⟨t, ys, M, rfl, ht, hp, hc, q⟩ := h
    refine ⟨_, (pss_cons (ps_set (i := 1) sc__law_many.nd rfl (Or.inl rfl) (pe_int))
    (pss_cons (ps_for PassesOwn.never rfl (pi_tup (pv 0)) (pg_name (i := 2) sc__law_many.nd rfl (Or.inl rfl))
    (pss_cons (ps_set (i := 1) sc__law_many.nd rfl (Or.inl rfl) (pe_op op_add (pv 1) (pe_int)))
    (pss_one (ps_if (pt_val (pe_callB call_isi (by rfl) m_isinstance (by decide +kernel) (pa_cons (pv 2) (pa_cons (pe_bltn (v := .ty "tuple") (by rfl) m_tuple (by decide +kernel) rfl) pa_nil))))
    (pss_one (ps_set (i := 1) sc__law_many.nd rfl (Or.inl rfl) (pe_op op_add (pv 1) (pe_c c__law_many hr (Nat.le_refl _) rfl (pa_cons (pe_ix (show IxR _ (rIxT K) from ix_tup) (pv 2) (pe_int) (fun _ _ => rfl)) pa_nil)))))
    pss_nil))))
    (pss_one (ps_ret (pv 1))))), ?_⟩
    have hl := paired_ln hp
    refine ⟨_, rfl, t, rfl, ⟨_, SqT.of ht⟩, ?_⟩
    refine for_tup (a := t) (xs := ys) (fun i σ H' => ∃ k2, σ = [some (.ref t), some (.int (cntL d (M.take i) : Nat)), k2] ∧ Same H H') ⟨none, rfl, Same.refl H⟩ (fun i σ H' _ ⟨_, _, s⟩ => SqT.of (s _ _ ht)) ?_ ?_
    · rintro i u σ H' hi ⟨k2, rfl, s1⟩
      obtain ⟨e, he⟩ : ∃ e, M[i]? = some e := ⟨_, List.getElem?_eq_getElem (by have := (List.getElem?_eq_some_iff.mp hi).1; omega)⟩
      have hv := paired_at hp hi he
      have hs := cntL_take he
      have hle := cnt_mem (List.mem_of_getElem? he)
      refine ⟨_, rfl, _, _, rfl, rfl, ?_⟩
      rcases itV_ways hv with ⟨p, rfl, h1, _⟩ | ⟨e', a, b, n, zs, l, rfl, rfl, ha, hb, hpl, hin⟩
      · refine ⟨_, rfl, _, _, _, _, false, rfl, .ty _, .base (.str _), kit_ty (by decide +kernel), false, rfl, some (.str p.nm), ?_, s1⟩
        rw [hs, h1]
        rfl
      · have hin : e = .inr (n, l) := eq_of_heq hin
        subst hin
        rw [cnt_rep] at hs hle
        have es := hsp e' rfl
        subst es
        refine ⟨_, rfl, _, _, _, _, true, rfl, .ty _, .base (.tup (s1 _ _ ha)), kit_ty (by decide +kernel), true, rfl, ?_⟩
        refine ⟨_, rfl, _, rfl, a, _, _, _, rfl, rfl, SqT.of (s1 _ _ ha), rfl, b, zs, l, rfl, s1 _ _ hb, paired_imp (fun _ _ h => h.keep s1 e' _ _) hpl, by omega, fun H2 s2 => ⟨_, _, rfl, rfl, some (.ref a), ?_, s1.trans s2⟩⟩
        rw [hs]
        show _ = ([some (.ref t), some (.int ((cntL (e' + 1) (M.take i) + (1 + cntL e' l) : Nat) : Int)), some (.ref a)] : List (Option V))
        rw [show ((cntL (e' + 1) (M.take i) + (1 + cntL e' l) : Nat) : Int) = (cntL (e' + 1) (M.take i) : Nat) + 1 + (cntL e' l : Nat) by omega]
        rfl
    · rintro σ H' ⟨k2, rfl, s1⟩
      rw [hl, List.take_length]
      exact ⟨_, rfl, q H' s1⟩
theorem ok_many {f : Addr} {fd : FuncData} (F : Fun K "_law_many" "_law_many" s__law_many f fd) (m_isinstance : mg "isinstance" = none) (m_tuple : mg "tuple" = none)
    (g : mg "_law_many" = some (.ref f)) (kp : PySem.W.keepIn K (.ref f) = true) (b : Binds K fd ["_law_items_here"] []) : ∀ d : Nat, FnOk P w K mg base CX0 (1 + d) f fd ["_law_items_here"] (spMany d)
  | 0 => by
    have f0 : FnOk P w K mg base CX0 0 f fd ["_law_items_here"] spNever := ⟨fun _ _ _ _ h => h.elim, fun _ _ _ _ _ _ _ _ _ _ _ _ _ h => h.elim⟩
    exact ok_many_at F m_isinstance m_tuple ⟨f, fd, _, f0, g, kp, b⟩ fun e h => by cases h
  | d + 1 => by
    have h := ok_many F m_isinstance m_tuple g kp b d
    exact ok_many_at F m_isinstance m_tuple ⟨f, fd, _, h, g, kp, b⟩ fun e h => by cases h; rfl
theorem ok_written_at {f : Addr} {fd : FuncData} (F : Fun K "_law_written" "_law_written" s__law_written f fd) (m_isinstance : mg "isinstance" = none) (m_tuple : mg "tuple" = none) (m_str : mg "str" = none) {k d : Nat} {sp : Sp} (c__law_written : Cal P w K mg base k "_law_written" sp) (hsp : ∀ e, d = e + 1 → sp = spWritten e) : FnOk P w K mg base CX0 (k + 1) f fd ["_law_items_here"] (spWritten d) := by
  refine F.ok sc__law_written (fun vs H Q E h => ?_) (fun cdv A outer s H vs Q E hr h => ?_)
  · obtain ⟨t, ys, M, rfl, _⟩ := h
    rfl
  · obtain ⟨t, ys, M, rfl, ht, hp, hc, hG, q⟩ := h
    refine ⟨_, (pss_cons (ps_set (i := 1) sc__law_written.nd rfl (Or.inl rfl) (pe_lst pa_nil))
    (pss_cons (ps_for PassesOwn.never rfl (pi_tup (pv 0)) (pg_name (i := 2) sc__law_written.nd rfl (Or.inl rfl))
    (pss_one (ps_if (pt_val (pe_callB call_isi (by rfl) m_isinstance (by decide +kernel) (pa_cons (pv 2) (pa_cons (pe_bltn (v := .ty "tuple") (by rfl) m_tuple (by decide +kernel) rfl) pa_nil))))
    (pss_one (ps_expr (pe_bm PySem.F.plainAttrs_list PySem.F.slot_list_append PySem.F.type_list_append mt_append (pv 1) (pa_cons (pe_op op_add_str (pe_op op_add_str (pe_op op_add_str (pe_callTy call_str_int (by rfl) m_str (by decide +kernel) (pa_cons (pe_ix (show IxR _ (rIxT K) from ix_tup) (pv 2) (pe_int) (fun _ _ => rfl)) pa_nil)) (pe_str)) (pe_c c__law_written hr (Nat.le_refl _) rfl (pa_cons (pe_ix (show IxR _ (rIxT K) from ix_tup) (pv 2) (pe_int) (fun _ _ => rfl)) pa_nil))) (pe_str)) pa_nil))))
    (pss_one (ps_expr (pe_bm PySem.F.plainAttrs_list PySem.F.slot_list_append PySem.F.type_list_append mt_append (pv 1) (pa_cons (pv 2) pa_nil)))))))
    (pss_one (ps_ret (pe_join (pe_str) (pv 1)))))), ?_⟩
    have sl : sizeLine = 16777216 := sizeLine_eq
    have hl := paired_ln hp
    have hcl := cnt_len M
    refine ⟨(by show 0 ≤ sizeLine; omega), fun D hD => ?_⟩
    refine ⟨_, rfl, t, rfl, ⟨_, SqT.of (same_new hD _ _ ht)⟩, ?_⟩
    refine for_tup (a := t) (xs := ys) (fun i σ H' => ∃ k2, σ = [some (.ref t), some (.ref D), k2] ∧ Same H H' ∧ H' D = some (.lst (((M.take i).map (wrI d)).map V.str))) ⟨none, rfl, same_new hD, upd_same⟩ (fun i σ H' _ ⟨_, _, s, _⟩ => SqT.of (s _ _ ht)) ?_ ?_
    · rintro i u σ H' hi ⟨k2, rfl, s1, hd⟩
      obtain ⟨e, he⟩ : ∃ e, M[i]? = some e := ⟨_, List.getElem?_eq_getElem (by have := (List.getElem?_eq_some_iff.mp hi).1; omega)⟩
      have hv := paired_at hp hi he
      have hm := List.mem_of_getElem? he
      have hle := cnt_mem hm
      have hg := hG e hm
      have hwl := wr_len d e hg
      have more : ∀ (H2 : Hp), Same H H2 → H2 D = some (.lst (((M.take i).map (wrI d)).map V.str)) → (((M.take i).map (wrI d)).map V.str).length < sizeLine ∧ Same H (upd H2 D (.lst (((M.take i).map (wrI d)).map V.str ++ [V.str (wrI d e)]))) ∧ (upd H2 D (.lst (((M.take i).map (wrI d)).map V.str ++ [V.str (wrI d e)]))) D = some (.lst (((M.take (i + 1)).map (wrI d)).map V.str)) := fun H2 s2 h2 => by
        refine ⟨?_, same_over s2 hD, ?_⟩
        · rw [List.length_map, List.length_map, List.length_take]
          omega
        · rw [upd_same, List.take_add_one, he, List.map_append, List.map_append]
          rfl
      rcases itV_ways hv with ⟨p, rfl, h1, h2⟩ | ⟨e', a, b, n, zs, l, rfl, rfl, ha, hb, hpl, hin⟩
      · refine ⟨_, rfl, _, _, _, _, false, rfl, .ty _, .base (.str _), kit_ty (by decide +kernel), false, rfl, ?_⟩
        obtain ⟨m1, m2, m3⟩ := more H' s1 hd
        rw [h2] at m2 m3
        exact ⟨_, rfl, .inl ⟨rfl, _, SqL.of hd⟩, _, rfl, D, _, _, rfl, rfl, hd, m1, _, rfl, m2, m3⟩
      · have hin : e = .inr (n, l) := eq_of_heq hin
        subst hin
        obtain ⟨g1, g2, g3, g4⟩ := hg
        rw [cnt_rep] at hle
        rw [wrI_rep, cnt_rep] at hwl
        have es := hsp e' rfl
        subst es
        have p1 : (Str.ofString "(").length = 1 := pa1_len
        have p2 : (Str.ofString ")").length = 1 := pa2_len
        rw [app_len, app_len, app_len] at hwl
        refine ⟨_, rfl, _, _, _, _, true, rfl, .ty _, .base (.tup (s1 _ _ ha)), kit_ty (by decide +kernel), true, rfl, ?_⟩
        refine ⟨_, rfl, .inl ⟨rfl, _, SqL.of hd⟩, _, rfl, a, _, _, _, rfl, rfl, SqT.of (s1 _ _ ha), rfl, n, rfl, log40 g1 g2, _, _, rfl, rfl, ?_, ?_⟩
        · rw [str_num (by omega)]
          omega
        rw [str_num (i := n) (by omega)]
        refine ⟨_, rfl, a, _, _, _, rfl, rfl, SqT.of (s1 _ _ ha), rfl, b, zs, l, rfl, s1 _ _ hb, paired_imp (fun _ _ h => h.keep s1 e' _ _) hpl, by omega, g4, fun H2 s2 => ?_⟩
        obtain ⟨m1, m2, m3⟩ := more H2 (s1.trans s2) (s2 _ _ hd)
        refine ⟨_, _, rfl, rfl, ?_, _, _, rfl, rfl, ?_, D, _, _, rfl, rfl, s2 _ _ hd, m1, _, rfl, m2, m3⟩
        · rw [app_len]
          omega
        · rw [app_len, app_len]
          omega
    · rintro σ H' ⟨k2, rfl, s1, hd⟩
      rw [hl, List.take_length] at hd
      refine ⟨⟨_, rfl⟩, _, rfl, B1, D, M.map (wrI d), rfl, rfl, .inl (SqL.of hd), ?_, q H' s1⟩
      rw [sum_plus]
      have h0 := wrL_len hG
      omega
theorem ok_written {f : Addr} {fd : FuncData} (F : Fun K "_law_written" "_law_written" s__law_written f fd) (m_isinstance : mg "isinstance" = none) (m_tuple : mg "tuple" = none) (m_str : mg "str" = none)
    (g : mg "_law_written" = some (.ref f)) (kp : PySem.W.keepIn K (.ref f) = true) (b : Binds K fd ["_law_items_here"] []) : ∀ d : Nat, FnOk P w K mg base CX0 (1 + d) f fd ["_law_items_here"] (spWritten d)
  | 0 => by
    have f0 : FnOk P w K mg base CX0 0 f fd ["_law_items_here"] spNever := ⟨fun _ _ _ _ h => h.elim, fun _ _ _ _ _ _ _ _ _ _ _ _ _ h => h.elim⟩
    exact ok_written_at F m_isinstance m_tuple m_str ⟨f, fd, _, f0, g, kp, b⟩ fun e h => by cases h
  | d + 1 => by
    have h := ok_written F m_isinstance m_tuple m_str g kp b d
    exact ok_written_at F m_isinstance m_tuple m_str ⟨f, fd, _, h, g, kp, b⟩ fun e h => by cases h; rfl
end
end Sea
namespace Sea
open PySem PySem.Spec PyProof.Rows L2
/-! the law's items -/
theorem mergeH {Pq G : Hp → Prop} {B : Prop} (k : (∀ Hc, Pq Hc → G Hc) → B) (b : ∀ Hc, Pq Hc → G Hc) : B := k b
theorem ite2S {c A B : Prop} [Decidable c] (h2 : ¬ c → B) (h1 : c → A) : if c then A else B := ite2 h1 h2
def spItems (d : Nat) : Sp := fun vs H Q _ => ∃ (tp cl na : Addr) (ns : List Int) (zs : List Str) (dd most : Int), vs = [.ref tp, .ref na, .int dd, .int most] ∧ Tape H tp cl ns ∧ H na = some (.lst (zs.map V.str)) ∧ na ≠ tp ∧ 1 ≤ zs.length ∧ zs.length ≤ 1000 ∧ dd = (d : Nat) ∧ 1 ≤ most ∧ most ≤ 60 ∧
  ∀ H' t ys M, KB tp H H' → Tape H' tp cl ns → H' t = some (.tup ys) → Paired (ItV d H') ys M → 1 ≤ M.length → (∀ i ∈ M, ItG (· ∈ pcsOf zs) d i) → (cntL d M : Nat) ≤ most → Q (.ref t) H'
theorem cntL_app {d : Nat} (l r : List (It d)) : cntL d (l ++ r) = cntL d l + cntL d r := by
  unfold cntL
  rw [List.map_append, List.sum_append]
theorem cntL_one {d : Nat} (e : It d) : cntL d [e] = cntI d e := by
  unfold cntL
  simp
/-- an item that is a repeat -/
def rpI (e : Nat) (n : Int) (l : List (It e)) : It (e + 1) := Sum.inr (n, l)
theorem rp_c (e : Nat) (n : Int) (l : List (It e)) : cntI (e + 1) (rpI e n l) = 1 + cntL e l := rfl
/-- an item that is a name -/
def nmI (d : Nat) (p : Piece) : It d := match d with
  | 0 => p
  | _ + 1 => .inl p
theorem nm_v (d : Nat) (H : Hp) (p : Piece) : ItV d H (.str p.nm) (nmI d p) := by
  cases d <;> rfl
theorem nm_c (d : Nat) (p : Piece) : cntI d (nmI d p) = 1 := by
  cases d <;> rfl
theorem nm_g {G : Piece → Prop} (d : Nat) (p : Piece) (h : G p) : ItG G d (nmI d p) := by
  cases d <;> exact h
section
variable {P : Program} {w : World} {K : PySem.W.Frag} {mg : Str → Option Value} {base : Heap}
theorem ok_items_at {f : Addr} {fd : FuncData} (F : Fun K "_law_items" "_law_items" s__law_items f fd) (m_range : mg "range" = none) (m_tuple : mg "tuple" = none) (m_len : mg "len" = none)
    (c__law_pick : Cal P w K mg base 1 "_law_pick" spPick) (c__law_some : Cal P w K mg base 2 "_law_some" spSome) (c__law_times : Cal P w K mg base 3 "_law_times" spTimesN) {d k : Nat} (hk : 7 + d ≤ k)
    {sp : Sp} (c__law_items : Cal P w K mg base k "_law_items" sp) (hsp : ∀ e, d = e + 1 → sp = spItems e)
    {spm : Sp} {km : Nat} (hkm : km ≤ k) (c_many : Cal P w K mg base km "_law_many" spm) (hspm : ∀ e, d = e + 1 → spm = spMany e) : FnOk P w K mg base CX0 (k + 1) f fd ["_law_tape_here", "_law_names_here", "_law_depth", "_law_most"] (spItems d) := by
  refine F.ok sc__law_items (fun vs H Q E h => ?_) (fun cdv A outer s H vs Q E hr h => ?_)
  · obtain ⟨tp, cl, na, ns, zs, dd, most, rfl, _⟩ := h
    rfl
  · obtain ⟨tp, cl, na, ns, zs, dd, most, rfl, T, hna, nn, z1, z2, hdd, m1, m60, q⟩ := h
    refine ⟨_, (pss_cons (ps_set (i := 4) sc__law_items.nd rfl (Or.inl rfl) (pe_lst pa_nil))
    (pss_cons (ps_set (i := 5) sc__law_items.nd rfl (Or.inl rfl) (pv 3))
    (pss_cons (ps_for PassesOwn.never rfl (pi_range1 (by rfl) m_range (pa_cons (pe_c c__law_some hr (by omega) rfl (pa_cons (pv 0) (pa_cons (pe_int) (pa_cons (pe_ix ix_list (pe_lst (pa_cons (pe_int) (pa_cons (pe_int) (pa_cons (pe_int) (pa_cons (pe_int) pa_nil))))) (pe_c c__law_pick hr (by omega) rfl (pa_cons (pv 0) (pa_cons (pe_int) pa_nil))) (fun _ _ => rfl)) pa_nil)))) pa_nil)) (pg_name (i := 6) sc__law_items.nd rfl (Or.inl rfl))
    (pss_one (ps_if (PW.pt (pw_and (pt_cmpR op_gt (pv 5) (pe_int) (nomark _)) (pw_and (pt_cmpR op_gt (pv 2) (pe_int) (nomark _)) (pw_and1 (pt_cmpR op_gt (pe_c c__law_pick hr (by omega) rfl (pa_cons (pv 0) (pa_cons (pe_int) pa_nil))) (pe_int) (nomark _))))))
    (pss_cons (ps_set (i := 7) sc__law_items.nd rfl (Or.inl rfl) (pe_c c__law_items hr (Nat.le_refl _) rfl (pa_cons (pv 0) (pa_cons (pv 1) (pa_cons (pe_op op_sub (pv 2) (pe_int)) (pa_cons (pe_op op_sub (pv 5) (pe_int)) pa_nil))))))
    (pss_cons (ps_expr (pe_bm PySem.F.plainAttrs_list PySem.F.slot_list_append PySem.F.type_list_append mt_append (pv 4) (pa_cons (pe_tup (pa_cons (pe_c c__law_times hr (by omega) rfl (pa_cons (pv 0) pa_nil)) (pa_cons (pv 7) pa_nil))) pa_nil)))
    (pss_one (ps_set (i := 5) sc__law_items.nd rfl (Or.inl rfl) (pe_op op_sub (pe_op op_sub (pv 5) (pe_int)) (pe_c c_many hr hkm rfl (pa_cons (pv 7) pa_nil)))))))
    (pss_one (ps_if (pt_cmpR op_gt (pv 5) (pe_int) (nomark _))
    (pss_cons (ps_expr (pe_bm PySem.F.plainAttrs_list PySem.F.slot_list_append PySem.F.type_list_append mt_append (pv 4) (pa_cons (pe_ix ix_list (pv 1) (pe_c c__law_pick hr (by omega) rfl (pa_cons (pv 0) (pa_cons (pe_callB call_len (by rfl) m_len (by decide +kernel) (pa_cons (pv 1) pa_nil)) pa_nil))) (fun _ _ => rfl)) pa_nil)))
    (pss_one (ps_set (i := 5) sc__law_items.nd rfl (Or.inl rfl) (pe_op op_sub (pv 5) (pe_int)))))
    pss_nil)))))
    (pss_one (ps_ret (pe_callTy call_tuple_of (by rfl) m_tuple (by decide +kernel) (pa_cons (pv 4) pa_nil))))))), ?_⟩
    have sl : sizeLine = 16777216 := sizeLine_eq
    refine ⟨(by show 0 ≤ sizeLine; omega), fun D hD => ?_⟩
    have T0 := T.new (o := .lst []) hD
    have nD := T.fresh hD
    have nDa : na ≠ D := ne_of_none hna hD
    have k0 := (KB.refl tp H).over (o := .lst []) hD
    have hd0 := upd_same (H := H) (a := D) (o := .lst [])
    have hna0 := k0 na _ nn hna
    generalize upd H D (.lst []) = H0 at T0 k0 hd0 hna0 ⊢
    refine ⟨_, rfl, ?_⟩
    refine ⟨_, rfl, (by show 4 ≤ sizeLine; omega), fun B hB => ?_⟩
    have T1 := T0.new (o := .lst [V.int 3, V.int 3, V.int 3, V.int 60]) hB
    have nB := T0.fresh hB
    have nBD : D ≠ B := ne_of_none hd0 hB
    have goneB : H B = none := by
      cases e : H B with
      | none => rfl
      | some o =>
        have := k0 B o nB.1.symm e
        rw [hB] at this
        cases this
    have k1 := k0.over (o := .lst [V.int 3, V.int 3, V.int 3, V.int 60]) goneB
    have hb1 := upd_same (H := H0) (a := B) (o := .lst [V.int 3, V.int 3, V.int 3, V.int 60])
    have hd1 : upd H0 B (.lst [V.int 3, V.int 3, V.int 3, V.int 60]) D = some (.lst []) := by rw [upd_ne nBD]; exact hd0
    generalize upd H0 B (.lst [V.int 3, V.int 3, V.int 3, V.int 60]) = H1 at T1 k1 hb1 hd1 ⊢
    refine ⟨_, rfl, tp, cl, ns, 4, rfl, T1, by decide, fun H2 e k2 T2 e0 e1 => ?_⟩
    have hb2 := k2 B _ nB.1.symm hb1
    have hd2 := k2 D _ nD.1.symm hd1
    obtain ⟨m, m3, mx60, hm⟩ : ∃ m : Int, 3 ≤ m ∧ m ≤ 60 ∧ atI [V.int 3, V.int 3, V.int 3, V.int 60] e = some (.int m) := by
      rcases (show e = 0 ∨ e = 1 ∨ e = 2 ∨ e = 3 by omega) with rfl | rfl | rfl | rfl
      · exact ⟨3, by decide, by decide, rfl⟩
      · exact ⟨3, by decide, by decide, rfl⟩
      · exact ⟨3, by decide, by decide, rfl⟩
      · exact ⟨60, by decide, by decide, rfl⟩
    refine ⟨B, _, e, _, rfl, rfl, SqL.of hb2, hm, tp, cl, ns, 1, m, rfl, T2, by omega, by omega, fun H3 g k3 T3 g0 g1 => ⟨g, rfl, by omega, by omega, ?_⟩⟩
    have hd3 := k3 D _ nD.1.symm hd2
    refine for_it (walk_range (lo := 0) (n := g.toNat)) (fun i σ H' => ∃ (k6 k7 : Option V) (ys : List V) (M : List (It d)), σ = [some (.ref tp), some (.ref na), some (.int dd), some (.int most), some (.ref D), some (.int (most - (cntL d M : Nat))), k6, k7] ∧ KB tp H H' ∧ Tape H' tp cl ns ∧
      H' D = some (.lst ys) ∧ Paired (ItV d H') ys M ∧ (∀ i ∈ M, ItG (· ∈ pcsOf zs) d i) ∧ (cntL d M : Nat) ≤ most ∧ (1 ≤ i → 1 ≤ M.length))
      ⟨none, none, [], [], (by show _ = ([some (.ref tp), some (.ref na), some (.int dd), some (.int most), some (.ref D), some (.int (most - 0)), none, none] : List (Option V)); rw [Int.sub_zero]; rfl), (k1.trans k2).trans k3, T3, hd3, .nil, (fun _ h => nomatch h), (by show ((0 : Nat) : Int) ≤ most; omega), (fun h => absurd h (by decide))⟩ (fun _ _ _ _ _ => trivial) ?_ ?_
    · rintro i x σ Ha Hb hi ⟨k6, k7, ys, M, rfl, ka, Ta, hd, hp, hG, hc, h1⟩ ⟨rfl, rfl⟩
      have hyl := paired_ln hp
      have hcl := cnt_len M
      apply mergeH (Pq := fun Hc => KB tp Hb Hc ∧ Tape Hc tp cl ns)
      · intro els
        refine ⟨_, rfl, _, _, rfl, rfl, _, rfl, ?_⟩
        refine ite2 (fun hl => ?_) (fun _ => ?_)
        · refine ⟨_, rfl, _, _, rfl, rfl, _, rfl, ?_⟩
          refine ite2 (fun hdp => ?_) (fun _ => ?_)
          · have hl := of_decide_eq_true hl
            have hdp := of_decide_eq_true hdp
            refine ⟨_, rfl, tp, cl, ns, 3, rfl, Ta, by decide, fun H4 c k4 T4 c0 c1 => ?_⟩
            refine ⟨_, _, rfl, rfl, _, rfl, ?_⟩
            apply ite2S
            · intro _
              exact els H4 ⟨k4, T4⟩
            intro _
            have hcv : ∀ e, d = e + 1 → True := fun _ _ => trivial
            obtain ⟨e, rfl⟩ : ∃ e, d = e + 1 := ⟨d - 1, by omega⟩
            have es := hsp e rfl
            have em := hspm e rfl
            subst es em
            refine ⟨_, rfl, _, rfl, _, rfl, _, _, rfl, rfl, _, rfl, _, _, rfl, rfl, ?_⟩
            have hna4 : H4 na = some (.lst (zs.map V.str)) := (ka.trans k4) na _ nn hna
            refine ⟨tp, cl, na, ns, zs, _, _, rfl, T4, hna4, nn, z1, z2, by omega, by omega, by omega, fun H5 t ys' M' k5 T5 ht hp' hM1 hG' hc' => ?_⟩
            have hd5 := (k4.trans k5) D _ nD.1.symm hd
            refine ⟨_, rfl, .inl ⟨rfl, _, SqL.of hd5⟩, _, rfl, tp, cl, ns, rfl, T5, fun H6 n k6 T6 n2 n40 => ?_⟩
            refine ⟨_, rfl, (by show 2 ≤ sizeLine; omega), fun P hP => ?_⟩
            have T7 := T6.new (o := HO.tup [V.int n, V.ref t]) hP
            have k47 := ((k4.trans k5).trans k6)
            have s7 := same_new (o := HO.tup [V.int n, V.ref t]) hP
            have hd7 := s7 _ _ (k6 D _ nD.1.symm hd5)
            have kt6 : KT H5 H6 := KB.kt k6 T5
            have kt4 : KT Hb H5 := KB.kt (k4.trans k5) Ta
            have ht7 : upd H6 P (HO.tup [V.int n, V.ref t]) t = some (.tup ys') := s7 _ _ (kt6 _ _ ht)
            have hP7 := upd_same (H := H6) (a := P) (o := HO.tup [V.int n, V.ref t])
            have kt7 : KT H6 (upd H6 P (HO.tup [V.int n, V.ref t])) := .of_same s7
            have kall := (ka.trans k47).trans (.of_same s7)
            generalize upd H6 P (HO.tup [V.int n, V.ref t]) = H7 at T7 s7 hd7 ht7 hP7 kt7 kall ⊢
            refine ⟨D, ys, _, rfl, rfl, hd7, by omega, ?_⟩
            have kt8 : KT H7 (upd H7 D (.lst (ys ++ [V.ref P]))) := (KT.refl _).over hd7
            have T8 := T7.other (o := .lst (ys ++ [V.ref P])) nD.1 nD.2
            have hd8 := upd_same (H := H7) (a := D) (o := HO.lst (ys ++ [V.ref P]))
            have k8 : KB tp H (upd H7 D (.lst (ys ++ [V.ref P]))) := kall.over hD
            have ht8 := kt8 _ _ ht7
            have hP8 := kt8 _ _ hP7
            have hpM : Paired (ItV e (upd H7 D (.lst (ys ++ [V.ref P])))) ys' M' := paired_imp (fun _ _ h => ItV.kt kt8 e _ _ (ItV.kt kt7 e _ _ (ItV.kt kt6 e _ _ h))) hp'
            have hpO : Paired (ItV (e + 1) (upd H7 D (.lst (ys ++ [V.ref P])))) ys M := paired_imp (fun _ _ h => ItV.kt kt8 (e + 1) _ _ (ItV.kt kt7 (e + 1) _ _ (ItV.kt kt6 (e + 1) _ _ (ItV.kt kt4 (e + 1) _ _ h)))) hp
            generalize upd H7 D (.lst (ys ++ [V.ref P])) = H8 at kt8 T8 hd8 k8 ht8 hP8 hpM hpO ⊢
            have hcM := cnt_len M'
            refine ⟨_, rfl, _, _, rfl, rfl, _, rfl, t, ys', M', rfl, ht8, hpM, by omega, fun H9 s9 => ?_⟩
            refine ⟨_, _, rfl, rfl, some (.int (0 + (i : Nat))), some (.ref t), ys ++ [V.ref P], M ++ [rpI e n M'], ?_, k8.trans (.of_same s9), T8.same s9, s9 _ _ hd8, paired_app (paired_imp (fun _ _ h => h.keep s9 (e + 1) _ _) hpO) ?_, fun j hj => ?_, ?_, fun _ => by rw [List.length_append]; exact Nat.le_add_left _ _⟩
            · rw [cntL_app, cntL_one, rp_c]
              rw [show most - ((cntL (e + 1) M + (1 + cntL e M') : Nat) : Int) = most - (cntL (e + 1) M : Nat) - 1 - (cntL e M' : Nat) by omega]
              rfl
            · refine ⟨P, t, ys'.zip M', rfl, s9 _ _ hP8, ?_, ?_, fun u hu => ?_⟩
              · rw [List.map_fst_zip (by rw [paired_ln hp']; exact Nat.le_refl _)]
                exact s9 _ _ ht8
              · exact (List.map_snd_zip (by rw [paired_ln hp']; exact Nat.le_refl _)).symm
              · obtain ⟨j, hj⟩ := List.getElem?_of_mem hu
                obtain ⟨j1, j2⟩ := List.getElem?_zip_eq_some.mp hj
                exact (paired_at hpM j1 j2).keep s9 e _ _
            · rcases List.mem_append.mp hj with h | h
              · exact hG j h
              · rw [List.mem_singleton.mp h]
                exact ⟨n2, n40, hM1, hG'⟩
            · rw [cntL_app, cntL_one, rp_c]
              omega
          · exact els Hb ⟨KB.refl _ _, Ta⟩
        · exact els Hb ⟨KB.refl _ _, Ta⟩
      · rintro Hc ⟨kc, Tc⟩
        have hdc := kc D _ nD.1.symm hd
        have ktc : KT Hb Hc := KB.kt kc Ta
        refine ⟨_, rfl, _, _, rfl, rfl, _, rfl, ite2 (fun hl => ?_) (fun hl => ?_)⟩
        · have hl := of_decide_eq_true hl
          have hnac : Hc na = some (.lst (zs.map V.str)) := (ka.trans kc) na _ nn hna
          refine ⟨_, rfl, .inl ⟨rfl, _, SqL.of hdc⟩, _, rfl, _, rfl, _, rfl, _, zs.length, rfl, .inl ⟨_, SqL.of hnac, (List.length_map ..).symm⟩, tp, cl, ns, _, rfl, Tc, by omega, fun H5 c k5 T5 c0 c1 => ?_⟩
          have hna5 := k5 na _ nn hnac
          have hd5 := k5 D _ nD.1.symm hdc
          have kt5 : KT Hc H5 := KB.kt k5 Tc
          obtain ⟨j, rfl⟩ : ∃ j : Nat, c = (j : Int) := ⟨c.toNat, by omega⟩
          have hj : j < zs.length := by omega
          have ez : zs[j]? = some zs[j] := List.getElem?_eq_getElem hj
          refine ⟨na, _, _, _, rfl, rfl, SqL.of hna5, atI_nat (j := j) (v := .str zs[j]) (by rw [List.getElem?_map, ez]; rfl), D, ys, _, rfl, rfl, hd5, by omega, ?_⟩
          have kt6 : KT H5 (upd H5 D (.lst (ys ++ [V.str zs[j]]))) := (KT.refl _).over hd5
          refine ⟨_, rfl, _, _, rfl, rfl, some (.int (0 + (i : Nat))), k7, ys ++ [V.str zs[j]], M ++ [nmI d (pcOf j zs[j])], ?_, ((ka.trans kc).trans k5).over hD, T5.other nD.1 nD.2, upd_same, paired_app (paired_imp (fun _ _ h => ItV.kt kt6 d _ _ (ItV.kt kt5 d _ _ (ItV.kt ktc d _ _ h))) hp) (nm_v d _ (pcOf j zs[j])), fun u hu => ?_, ?_, fun _ => by rw [List.length_append]; exact Nat.le_add_left _ _⟩
          · rw [cntL_app, cntL_one, nm_c]
            rw [show most - ((cntL d M + 1 : Nat) : Int) = most - (cntL d M : Nat) - 1 by omega]
            rfl
          · rcases List.mem_append.mp hu with h | h
            · exact hG u h
            · rw [List.mem_singleton.mp h]
              exact nm_g d _ (List.mem_of_getElem? (pcs_at ez))
          · rw [cntL_app, cntL_one, nm_c]
            omega
        · have hl : ¬ (0 : Int) < most - (cntL d M : Nat) := fun h => hl (decide_eq_true h)
          refine ⟨some (.int (0 + (i : Nat))), k7, ys, M, rfl, ka.trans kc, Tc, hdc, paired_imp (fun _ _ h => ItV.kt ktc d _ _ h) hp, hG, hc, fun _ => ?_⟩
          cases M with
          | nil =>
            have : (cntL d ([] : List (It d)) : Nat) = 0 := rfl
            omega
          | cons a r => exact Nat.le_add_left _ _
    · rintro σ H' ⟨k6, k7, ys, M, rfl, ka, Ta, hd, hp, hG, hc, h1⟩
      refine ⟨_, rfl, D, _, rfl, .inl ⟨SqL.of hd, fun t ht => ?_⟩⟩
      have s1 := same_new (o := HO.tup ys) ht
      exact q _ t ys M (ka.trans (.of_same s1)) (Ta.same s1) upd_same (paired_imp (fun _ _ h => h.keep s1 d _ _) hp) (h1 (by omega)) hG hc
theorem ok_items {f : Addr} {fd : FuncData} (F : Fun K "_law_items" "_law_items" s__law_items f fd) (m_range : mg "range" = none) (m_tuple : mg "tuple" = none) (m_len : mg "len" = none)
    (c__law_pick : Cal P w K mg base 1 "_law_pick" spPick) (c__law_some : Cal P w K mg base 2 "_law_some" spSome) (c__law_times : Cal P w K mg base 3 "_law_times" spTimesN) (c__law_many : ∀ e, Cal P w K mg base (1 + e) "_law_many" (spMany e))
    (g : mg "_law_items" = some (.ref f)) (kp : PySem.W.keepIn K (.ref f) = true) (b : Binds K fd ["_law_tape_here", "_law_names_here", "_law_depth", "_law_most"] []) : ∀ d : Nat, FnOk P w K mg base CX0 (8 + d) f fd ["_law_tape_here", "_law_names_here", "_law_depth", "_law_most"] (spItems d)
  | 0 => by
    have f0 : FnOk P w K mg base CX0 7 f fd ["_law_tape_here", "_law_names_here", "_law_depth", "_law_most"] (fun _ _ _ _ => False) := F.ok sc__law_items (fun _ _ _ _ h => h.elim) (fun _ _ _ _ _ _ _ _ _ h => h.elim)
    exact ok_items_at F m_range m_tuple m_len c__law_pick c__law_some c__law_times (Nat.le_refl 7) ⟨f, fd, _, f0, g, kp, b⟩ (fun e h => by cases h) (by decide) (c__law_many 0) (fun e h => by cases h)
  | d + 1 => by
    have h := ok_items F m_range m_tuple m_len c__law_pick c__law_some c__law_times c__law_many g kp b d
    exact ok_items_at (k := 8 + d) F m_range m_tuple m_len c__law_pick c__law_some c__law_times (by omega) ⟨f, fd, _, h, g, kp, b⟩ (fun e h => by cases h; rfl) (by omega) (c__law_many d) (fun e h => by cases h; rfl)
end
end Sea
namespace Sea
open PySem PySem.Spec PyProof.Rows L2
/-! the law's roll -/
/-- items in the heap, as a tuple of tuples, all that the law asks of them -/
structure RlAt (H : Hp) (t : Addr) (zs : List Str) (M : List (It 5)) : Prop where
  at' : ∃ ys, H t = some (.tup ys) ∧ Paired (ItV 5 H) ys M
  some : 1 ≤ M.length
  good : ∀ i ∈ M, ItG (· ∈ pcsOf zs) 5 i
  few : cntL 5 M ≤ 60
theorem RlAt.kt {H H' : Hp} {t : Addr} {zs : List Str} {M : List (It 5)} (h : RlAt H t zs M) (k : KT H H') : RlAt H' t zs M := by
  obtain ⟨ys, h1, h2⟩ := h.at'
  exact ⟨⟨ys, k _ _ h1, paired_imp (fun _ _ q => ItV.kt k 5 _ _ q) h2⟩, h.some, h.good, h.few⟩
theorem RlAt.keep {H H' : Hp} {t : Addr} {zs : List Str} {M : List (It 5)} (h : RlAt H t zs M) (k : Same H H') : RlAt H' t zs M := h.kt (.of_same k)
def spRoll5 : Sp := fun vs H Q _ => ∃ (tp cl na : Addr) (ns : List Int) (zs : List Str), vs = [.ref tp, .ref na] ∧ Tape H tp cl ns ∧ H na = some (.lst (zs.map V.str)) ∧ na ≠ tp ∧ 1 ≤ zs.length ∧ zs.length ≤ 1000 ∧ (∀ z ∈ zs, z.length ≤ 8) ∧
  ∀ H' t M, KB tp H H' → Tape H' tp cl ns → RlAt H' t zs M → Q (.ref t) H'
theorem paired_append {α β : Type} {R : α → β → Prop} {l l' : List α} {r r' : List β} (h1 : Paired R l r) (h2 : Paired R l' r') : Paired R (l ++ l') (r ++ r') := by
  induction h1 with
  | nil => exact h2
  | cons a _ ih => exact .cons a ih
def rLenK (K : PySem.W.Frag) : List V → Hp → VK → Prop := fun xs H Q => ∃ x n, xs = [x] ∧ LenV K x H n ∧ Q (.int (n : Nat)) H
theorem pcs_g8 {zs : List Str} (h : ∀ z ∈ zs, z.length ≤ 8) : ∀ p, p ∈ pcsOf zs → G8 p := fun p hp => by
  obtain ⟨i, z, hz, rfl⟩ := pcs_mem hp
  exact h z (List.mem_of_getElem? hz)
section
variable {P : Program} {w : World} {K : PySem.W.Frag} {mg : Str → Option Value} {base : Heap}
theorem ok_roll5 {f : Addr} {fd : FuncData} (F : Fun K "_law_roll" "_law_roll" s__law_roll f fd) (m_range : mg "range" = none) (m_tuple : mg "tuple" = none) (m_len : mg "len" = none)
    (c__law_pick : Cal P w K mg base 1 "_law_pick" spPick) (c__law_rarely : Cal P w K mg base 2 "_law_rarely" spRarely) (c__law_items : Cal P w K mg base 13 "_law_items" (spItems 5)) (c__law_many : Cal P w K mg base 6 "_law_many" (spMany 5)) (c__law_written : Cal P w K mg base 6 "_law_written" (spWritten 5)) : FnOk P w K mg base CX0 14 f fd ["_law_tape_here", "_law_names_here"] spRoll5 := by
  refine F.ok sc__law_roll (fun vs H Q E h => ?_) (fun cdv A outer s H vs Q E hr h => ?_)
  · obtain ⟨tp, cl, na, ns, zs, rfl, _⟩ := h
    rfl
  · obtain ⟨tp, cl, na, ns, zs, rfl, T, hna, nn, z1, z2, z8, q⟩ := h
    refine ⟨_, (pss_cons (ps_set (i := 2) sc__law_roll.nd rfl (Or.inl rfl) (pe_c c__law_items hr (by decide) rfl (pa_cons (pv 0) (pa_cons (pv 1) (pa_cons (pe_int) (pa_cons (pe_int) pa_nil))))))
    (C8.pss_cut (ps_if (pt_val (pe_c c__law_rarely hr (by decide) rfl (pa_cons (pv 0) (pa_cons (pe_int) pa_nil))))
    (pss_cons (ps_set (i := 3) sc__law_roll.nd rfl (Or.inl rfl) (pe_op op_sub (pe_int) (pe_c c__law_many hr (by decide) rfl (pa_cons (pv 2) pa_nil))))
    (pss_one (ps_set (i := 2) sc__law_roll.nd rfl (Or.inl rfl) (pe_op op_catT (pv 2) (pe_callTy call_tuple_of (by rfl) m_tuple (by decide +kernel) (pa_cons (pe_lc (own := [("_law_k", 4)]) rfl sc__law_roll.nd (pi_range1 (by rfl) m_range (pa_cons (pv 3) pa_nil)) (blkOk_by (N := N__law_roll) (sc := defScope s__law_roll) (by decide +kernel)) (fun _ _ _ _ _ => (pg_name (i := 4) sc__law_roll.nd rfl (Or.inl rfl))) (fun _ _ _ _ _ => pts_nil) (fun _ _ _ _ _ => (pe_ix (show IxR _ (rIxL K) from ix_list) (pv 1) (pe_c c__law_pick hr (by decide) rfl (pa_cons (pv 0) (pa_cons (pe_callB (show CallR _ _ (rLenK K) from call_len) (by rfl) m_len (by decide +kernel) (pa_cons (pv 1) pa_nil)) pa_nil))) (fun _ _ => rfl)))) pa_nil))))))
    pss_nil)
    (pss_cons (ps_if (pt_cmpR op_gt (pe_callB call_len (by rfl) m_len (by decide +kernel) (pa_cons (pe_c c__law_written hr (by decide) rfl (pa_cons (pv 2) pa_nil)) pa_nil)) (pe_int) (nomark _))
    (pss_one (ps_ret (pe_tup (pa_cons (pe_ix ix_list (pv 1) (pe_un un_neg (pe_int)) (fun _ _ => rfl)) pa_nil))))
    pss_nil)
    (pss_one (ps_ret (pv 2)))))), ?_⟩
    have sl : sizeLine = 16777216 := sizeLine_eq
    refine ⟨_, rfl, _, rfl, tp, cl, na, ns, zs, 5, 60, rfl, T, hna, nn, z1, z2, rfl, by decide, by decide, fun H1 t ys M k1 T1 ht hp hM1 hG hc => ?_⟩
    have hna1 := k1 na _ nn hna
    have R1 : RlAt H1 t zs M := ⟨⟨ys, ht, hp⟩, hM1, hG, by omega⟩
    refine ⟨fun σ H' => ∃ (t : Addr) (M : List (It 5)) (k3 k4 : Option V), σ = [some (.ref tp), some (.ref na), some (.ref t), k3, k4] ∧ KB tp H H' ∧ Tape H' tp cl ns ∧ RlAt H' t zs M, ?_, ?_⟩
    · refine ⟨_, rfl, tp, cl, ns, 6, rfl, T1, by decide, fun H2 b k2 T2 => ⟨b, rfl, ?_⟩⟩
      have kt2 : KT H1 H2 := KB.kt k2 T1
      have R2 := R1.kt kt2
      cases b with
      | false => exact ⟨t, M, _, _, rfl, k1.trans k2, T2, R2⟩
      | true =>
        have hna2 := k2 na _ nn hna1
        have hp2 : Paired (ItV 5 H2) ys M := paired_imp (fun _ _ h => ItV.kt kt2 5 _ _ h) hp
        have ht2 := kt2 _ _ ht
        refine iteT ⟨_, rfl, t, ys, M, rfl, ht2, hp2, by omega, fun H3 s3 => ⟨_, _, rfl, rfl, _, rfl, ?_⟩⟩
        have T3 := T2.same s3
        have hna3 := s3 _ _ hna2
        refine ⟨_, rfl, _, rfl, by omega, by omega, fun D hD => ?_⟩
        have nD := T3.fresh hD
        have nDa : na ≠ D := ne_of_none hna3 hD
        refine lc_range (lo := 0) (n := ((60 : Int) - (cntL 5 M : Nat)).toNat) (fun i H' => KB tp H3 H' ∧ Tape H' tp cl ns ∧ ∃ (us : List V) (N : List (It 5)), H' D = some (.lst us) ∧ us.length = i ∧ N.length = i ∧ Paired (ItV 5 H') us N ∧ (∀ u ∈ N, ItG (· ∈ pcsOf zs) 5 u) ∧ cntL 5 N = i)
          ⟨(KB.refl _ _).over hD, T3.new hD, [], [], upd_same, rfl, rfl, .nil, (fun _ h => nomatch h), rfl⟩ ?_ ?_
        · rintro i Ha hi ⟨ka, Ta, us, N, hd, hul, hNl, hpn, hGn, hcn⟩
          have hnaa := ka na _ nn hna3
          refine ⟨rfl, _, rfl, _, rfl, _, rfl, _, zs.length, rfl, .inl ⟨_, SqL.of hnaa, (List.length_map ..).symm⟩, tp, cl, ns, _, rfl, Ta, by omega, fun H5 c k5 T5 c0 c1 => ?_⟩
          have hna5 := k5 na _ nn hnaa
          have hd5 := k5 D _ nD.1.symm hd
          have kt5 : KT Ha H5 := KB.kt k5 Ta
          obtain ⟨j, rfl⟩ : ∃ j : Nat, c = (j : Int) := ⟨c.toNat, by omega⟩
          have hj : j < zs.length := by omega
          have ez : zs[j]? = some zs[j] := List.getElem?_eq_getElem hj
          have kt6 : KT H5 (upd H5 D (.lst (us ++ [V.str zs[j]]))) := (KT.refl _).over hd5
          refine ⟨na, _, _, _, rfl, rfl, SqL.of hna5, atI_nat (j := j) (v := .str zs[j]) (by rw [List.getElem?_map, ez]; rfl), us, hd5, by omega, (ka.trans k5).over hD, T5.other nD.1 nD.2, us ++ [V.str zs[j]], N ++ [nmI 5 (pcOf j zs[j])], upd_same, by rw [List.length_append, hul]; rfl, by rw [List.length_append, hNl]; rfl, ?_, fun u hu => ?_, ?_⟩
          · exact paired_app (paired_imp (fun _ _ h => ItV.kt kt6 5 _ _ (ItV.kt kt5 5 _ _ h)) hpn) (nm_v 5 _ (pcOf j zs[j]))
          · rcases List.mem_append.mp hu with h | h
            · exact hGn u h
            · rw [List.mem_singleton.mp h]
              exact nm_g 5 _ (List.mem_of_getElem? (pcs_at ez))
          · rw [cntL_app, cntL_one, nm_c, hcn]
        · rintro Ha ⟨ka, Ta, us, N, hd, hul, hNl, hpn, hGn, hcn⟩
          have kta : KT H3 Ha := KB.kt ka T3
          have hta := kta _ _ (s3 _ _ ht2)
          have hpa : Paired (ItV 5 Ha) ys M := paired_imp (fun _ _ h => ItV.kt kta 5 _ _ (h.keep s3 5 _ _)) hp2
          have hyl := paired_ln hp
          have hcl := cnt_len M
          refine ⟨D, _, rfl, .inl ⟨SqL.of hd, fun u hu => ?_⟩⟩
          have s4 := same_new (o := HO.tup us) hu
          have kal := ((k1.trans k2).trans (.of_same s3)).trans ka
          refine ⟨t, u, ys, us, rfl, rfl, SqT.of (s4 _ _ hta), SqT.of upd_same, fun e => ?_, by omega, fun e => ?_, fun _ v hv => ?_⟩
          · rw [e] at hyl
            have : (0 : Nat) = M.length := hyl
            omega
          · exact ⟨t, M, _, _, rfl, kal.trans (.of_same s4), Ta.same s4, ⟨⟨ys, s4 _ _ hta, paired_imp (fun _ _ h => h.keep s4 5 _ _) hpa⟩, hM1, hG, by omega⟩⟩
          · have s5 := same_new (o := HO.tup (ys ++ us)) hv
            refine ⟨v, M ++ N, _, _, rfl, (kal.trans (.of_same s4)).trans (.of_same s5), (Ta.same s4).same s5, ⟨⟨_, upd_same, paired_append (paired_imp (fun _ _ h => (h.keep s4 5 _ _).keep s5 5 _ _) hpa) (paired_imp (fun _ _ h => (h.keep s4 5 _ _).keep s5 5 _ _) hpn)⟩, ?_, fun i hi => ?_, ?_⟩⟩
            · rw [List.length_append]
              omega
            · rcases List.mem_append.mp hi with h | h
              · exact hG i h
              · exact hGn i h
            · rw [cntL_app, hcn]
              omega
    · rintro σ H2 ⟨t, M, k3, k4, rfl, k2, T2, R2⟩
      obtain ⟨ys, ht, hp⟩ := R2.at'
      have hf := R2.few
      have g8 : ∀ i ∈ M, ItG G8 5 i := fun i hi => (R2.good i hi).imp (pcs_g8 z8) 5 i
      have wl : (wrL 5 M).length ≤ 52 * cntL 5 M := Nat.le_trans (join_ln _) (wrL_len g8)
      have hna2 := k2 na _ nn hna
      refine ⟨_, rfl, t, ys, M, rfl, ht, hp, by omega, g8, fun H3 s3 => ⟨_, _, rfl, ⟨by omega, rfl⟩, _, _, rfl, rfl, _, rfl, ite2 (fun _ => ?_) (fun _ => ?_)⟩⟩
      · have hz : (zs.map V.str).getLast? = some (.str (zs.getLast (fun e => by rw [e] at z1; exact absurd z1 (by decide)))) := by
          rw [List.getLast?_map, List.getLast?_eq_some_getLast]
          rfl
        have hlast := List.getLast_mem (l := zs) (fun e => by rw [e] at z1; exact absurd z1 (by decide))
        generalize zs.getLast _ = zl at hz hlast
        obtain ⟨j, hj⟩ := List.getElem?_of_mem hlast
        refine ⟨_, rfl, _, rfl, na, _, _, _, rfl, rfl, SqL.of (s3 _ _ hna2), atI_last hz, (by show 1 ≤ sizeLine; omega), fun r hr0 => ?_⟩
        have s4 := same_new (o := HO.tup [V.str zl]) hr0
        refine q _ r [nmI 5 (pcOf j zl)] ((k2.trans (.of_same s3)).trans (.of_same s4)) ((T2.same s3).same s4) ⟨⟨_, upd_same, .cons (nm_v 5 _ (pcOf j zl)) .nil⟩, Nat.le_refl 1, fun i hi => ?_, by rw [cntL_one, nm_c]; decide⟩
        rw [List.mem_singleton.mp hi]
        exact nm_g 5 _ (List.mem_of_getElem? (pcs_at hj))
      · exact ⟨_, rfl, q H3 t M (k2.trans (.of_same s3)) (T2.same s3) (R2.keep s3)⟩
end
end Sea
namespace Sea
open PySem PySem.Spec PyProof.Rows L2
/-! tuples as lists, exactly -/
mutual
def listD : PyData → PyData
  | .list xs => .list (listDs xs)
  | .tuple xs => .list (listDs xs)
  | .dict kvs => .dict kvs
  | .none => .none
  | .bool b => .bool b
  | .int i => .int i
  | .str z => .str z
def listDs : List PyData → List PyData
  | [] => []
  | x :: xs => listD x :: listDs xs
end
theorem listDs_map : ∀ ds : List PyData, listDs ds = ds.map listD
  | [] => rfl
  | d :: r => congrArg (listD d :: ·) (listDs_map r)
theorem listD_tup (ds : List PyData) : listD (.tuple ds) = .list (ds.map listD) := by
  rw [← listDs_map]
  rfl
theorem listD_sc {x : V} {d : PyData} (h : Sc x d) : listD d = d := by
  cases d with
  | tuple xs => exact h.elim
  | list xs => exact h.elim
  | _ => rfl
def spListsL (ms : List Nat) : Sp := fun vs H Q _ => ∃ (x : V) (d : PyData), vs = [x] ∧ Th false ms H x d ∧ ∀ (H' : Hp) (y : V), Same H H' → Th true ms (NewH H H') y (listD d) → Q y H'
section
variable {P : Program} {w : World} {K : PySem.W.Frag} {mg : Str → Option Value} {base : Heap}
theorem ok_listsL {f : Addr} {fd : FuncData} (F : Fun K "_law_lists" "_law_lists" s__law_lists f fd) (m_isinstance : mg "isinstance" = none) (m_list : mg "list" = none) (m_tuple : mg "tuple" = none) {k : Nat} {sp : Sp} {ms : List Nat}
    (small : ∀ m ∈ ms, m ≤ 1000) (c__law_lists : Cal P w K mg base k "_law_lists" sp) (hyp : ∀ m r, ms = m :: r → sp = spListsL r) : FnOk P w K mg base CX0 (k + 1) f fd ["_law_thing"] (spListsL ms) := by
  refine F.ok sc__law_lists (fun vs H Q E h => ?_) (fun cdv A outer s H vs Q E hr h => ?_)
  · obtain ⟨x, d, rfl, _⟩ := h
    rfl
  · obtain ⟨x, d, rfl, hx, q⟩ := h
    refine ⟨_, (pss_cons (ps_if (pt_val (pe_callB call_isiT (by rfl) m_isinstance (by decide +kernel) (pa_cons (pv 0) (pa_cons (pe_tup (pa_cons (pe_bltn (v := .ty "list") (by rfl) m_list (by decide +kernel) rfl) (pa_cons (pe_bltn (v := .ty "tuple") (by rfl) m_tuple (by decide +kernel) rfl) pa_nil))) pa_nil))))
    (pss_one (ps_ret (pe_lc (own := [("_law_part", 1)]) rfl sc__law_lists.nd (pi_lt (pv 0)) (blkOk_by (N := N__law_lists) (sc := defScope s__law_lists) (by decide +kernel)) (fun _ _ _ _ _ => (pg_name (i := 1) sc__law_lists.nd rfl (Or.inl rfl))) (fun _ _ _ _ _ => pts_nil) (fun _ _ _ _ _ => (pe_c c__law_lists hr (Nat.le_refl _) rfl (pa_cons (pv 1) pa_nil))))))
    pss_nil)
    (pss_one (ps_ret (pv 0)))), ?_⟩
    refine ⟨_, rfl, (by show 2 ≤ sizeLine; decide), fun p hp => ?_⟩
    have sp0 := same_new (o := .tup [V.ty "list", V.ty "tuple"]) hp
    have plain : Sc x d → _ := fun hsc => q _ x sp0 (by rw [listD_sc hsc]; exact hsc.th)
    have ways : Sc x d ∨ ∃ (m : Nat) (r : List Nat) (a : Addr) (xs : List V) (ds : List PyData), ms = m :: r ∧ x = .ref a ∧ ds.length ≤ m ∧ xs.length = ds.length ∧ Paired (Th false r H) xs ds ∧ d = .tuple ds ∧ H a = some (.tup xs) := by
      cases ms with
      | nil => exact .inl hx
      | cons m r =>
        rcases hx with h | ⟨a, xs, ds, h1, h2, h3, ⟨h4, h5⟩ | ⟨h4, _⟩⟩
        · exact .inl h
        · exact .inr ⟨m, r, a, xs, ds, rfl, h1, h2, paired_ln h3, h3, h4, h5⟩
        · cases h4
    rcases ways with hsc | ⟨m, r, a, xs, ds, em, rfl, hm, le, hpr, hs, hq⟩
    · rcases isi_seqA (K := K) (H := upd H p (.tup [V.ty "list", V.ty "tuple"])) (.inl hsc.plain) with ⟨hpl, t, ty, kk⟩ | ⟨a, xs, rfl, _⟩
      · exact ⟨_, p, _, _, _, false, rfl, upd_same, .cons (.ty _) (.cons (.ty _) .nil), ty, kk, false, rfl, _, rfl, plain hsc⟩
      · exact hsc.plain.elim
    have es := hyp m r em
    subst em es
    have hq1 := sp0 _ _ hq
    rcases isi_seqA (K := K) (H := upd H p (.tup [V.ty "list", V.ty "tuple"])) (x := .ref a) (.inr ⟨a, xs, rfl, .inr hq1⟩) with ⟨hpl, _⟩ | ⟨a', xs', e, _, t, ty, kk⟩
    · exact hpl.elim
    refine ⟨_, p, _, _, _, true, rfl, upd_same, .cons (.ty _) (.cons (.ty _) .nil), ty, kk, true, rfl, _, rfl, a, rfl, ?_⟩
    generalize hH1 : (upd H p (.tup [V.ty "list", V.ty "tuple"])) = H1 at sp0 hq1 ⊢
    have m1000 := small m List.mem_cons_self
    · refine .inr ⟨⟨_, SqT.of hq1⟩, fun D hD => ?_⟩
      refine lc_it walk_tup (fun i H' => Same H1 H' ∧ ∃ ys : List V, H' D = some (.lst ys) ∧ Paired (Th true r (NewH (upd H1 D (.lst [])) H')) ys ((ds.take i).map listD)) ⟨same_new hD, [], upd_same, .nil⟩ (fun i H' _ hv => SqT.of (hv.1 _ _ hq1)) ?_ ?_
      · rintro i x Ha Hb hi ⟨ha, ys, hd, hpy⟩ ⟨rfl, hy⟩
        obtain ⟨dy, hdy, ry⟩ := paired_get' hpr hy
        have hi2 : i < ds.length := (List.getElem?_eq_some_iff.mp hdy).1
        have hDa : ∀ b, Hb b = none → (upd H1 D (.lst [])) b = none := fun b hb => by
          have n1 : b ≠ D := fun z => by rw [z, hd] at hb; cases hb
          rw [upd_ne n1]
          exact same_none ha hb
        refine ⟨rfl, _, rfl, x, dy, rfl, ry.keep (sp0.trans ha), fun H2 y s2 t2 => ⟨ys, s2 _ _ hd, ?_, same_over (ha.trans s2) hD, ys ++ [y], upd_same, ?_⟩⟩
        · have := paired_ln hpy
          rw [List.length_map, List.length_take] at this
          exact small_line (by omega)
        · have k1 : Same (NewH (upd H1 D (.lst [])) Hb) (NewH (upd H1 D (.lst [])) (upd H2 D (.lst (ys ++ [y])))) := new_mono (fun b hb => hb) fun b o hb ho => by
            have n1 : b ≠ D := fun z => by rw [z, upd_same] at hb; cases hb
            rw [upd_ne n1]
            exact s2 _ _ ho
          have k2 : Same (NewH Hb H2) (NewH (upd H1 D (.lst [])) (upd H2 D (.lst (ys ++ [y])))) := new_mono hDa fun b o hb ho => by
            have n1 : b ≠ D := fun z => by rw [z, hd] at hb; cases hb
            rw [upd_ne n1]
            exact ho
          rw [List.take_add_one, hdy, List.map_append]
          exact paired_app (paired_imp (fun u v h => h.keep k1) hpy) (t2.keep k2)
      · rintro H' ⟨ha, ys, hd, hpy⟩
        rw [le, List.take_length] at hpy
        have nD : H D = none := same_none sp0 hD
        have k1 : Same (NewH (upd H1 D (.lst [])) H') (NewH H H') := new_mono (fun b hb => by
          have n1 : b ≠ D := fun z => by rw [z, upd_same] at hb; cases hb
          rw [upd_ne n1] at hb
          exact same_none sp0 hb) fun b o hb ho => ho
        refine q H' (.ref D) (sp0.trans ha) ?_
        rw [hs, listD_tup]
        refine .inr ⟨D, ys, ds.map listD, rfl, by rw [List.length_map]; exact hm, paired_imp (fun u v h => h.keep k1) hpy, .inr ⟨rfl, rfl, ?_⟩⟩
        rw [new_at nD]
        exact hd
end
end Sea
namespace Sea
open PySem PySem.Spec PyProof.Rows L2
/-! items as things, and back -/
def msI : Nat → List Nat
  | 0 => []
  | d + 1 => 2 :: 60 :: msI d
theorem name_scI {z : Str} (h : NameW (cp z)) : Sc (.str z) (.str z) := by
  refine ⟨rfl, ?_, fun c hc => ?_⟩
  · have := h.most
    rw [cp_len] at this
    omega
  · have := h.sign c hc
    omega
theorem paired_mapR {α β γ : Type} {R : α → β → Prop} {f : γ → β} : ∀ {l : List α} {r : List γ}, Paired (fun a c => R a (f c)) l r → Paired R l (r.map f)
  | _, _, .nil => .nil
  | _, _, .cons h t => .cons h (paired_mapR t)
theorem paired_mapL {α β γ : Type} {R : α → β → Prop} {f : γ → β} : ∀ {l : List α} {r : List γ}, Paired R l (r.map f) → Paired (fun a c => R a (f c)) l r
  | [], [], _ => .nil
  | [], _ :: _, h => by cases h
  | _ :: _, [], h => by cases h
  | _ :: _, _ :: _, .cons h t => .cons h (paired_mapL t)
theorem paired_impM {α β : Type} {R S : α → β → Prop} : ∀ {l : List α} {r : List β}, (∀ a b, b ∈ r → R a b → S a b) → Paired R l r → Paired S l r
  | _, _, _, .nil => .nil
  | _, _, h, .cons a b => .cons (h _ _ List.mem_cons_self a) (paired_impM (fun x y m q => h x y (List.mem_cons_of_mem _ m) q) b)
theorem paired_E {α β : Type} {R : α → β → Prop} : ∀ {E : List (α × β)}, (∀ e ∈ E, R e.1 e.2) → Paired R (E.map (·.1)) (E.map (·.2))
  | [], _ => .nil
  | _ :: _, h => .cons (h _ List.mem_cons_self) (paired_E fun e he => h e (List.mem_cons_of_mem _ he))
theorem itV_th {G : Piece → Prop} (hG : ∀ p, G p → NameW (cp p.nm)) : ∀ (d : Nat) (H : Hp) (v : V) (i : It d), ItV d H v i → ItG G d i → cntI d i ≤ 61 → Th false (msI d) H v (itP d i)
  | 0, _, _, p, h, g, _ => by
    have h : _ = V.str p.nm := h
    rw [h]
    exact name_scI (hG p g)
  | _ + 1, _, _, .inl p, h, g, _ => by
    have h : _ = V.str p.nm := h
    rw [h]
    exact .inl (name_scI (hG p g))
  | d + 1, H, v, .inr (n, l), ⟨a, b, E, h1, h2, h3, h4, h5⟩, ⟨g1, g2, g3, g4⟩, hc => by
    rw [cnt_rep] at hc
    have hl := cnt_len l
    rw [h1, itP_rep]
    have hp : Paired (ItV d H) (E.map (·.1)) l := by rw [h4]; exact paired_E h5
    refine .inr ⟨a, [.int n, .ref b], [.int n, .tuple (l.map (itP d))], rfl, Nat.le_refl 2, .cons (.inl ⟨rfl, by omega⟩) (.cons (.inr ⟨b, E.map (·.1), l.map (itP d), rfl, by rw [List.length_map]; omega, paired_mapR (paired_impM (fun x y m q => itV_th hG d H x y q (g4 y m) (by have := cnt_mem m; omega)) hp), .inl ⟨rfl, h3⟩⟩) .nil), .inl ⟨rfl, h2⟩⟩
theorem th_itW {G : Piece → Prop} : ∀ (d : Nat) (H : Hp) (v : V) (i : It d), Th true (msI d) H v (listD (itP d i)) → ItG G d i → cntI d i ≤ 61 → ItW d H v i
  | 0, _, _, p, h, _, _ => h.1
  | _ + 1, _, _, .inl p, h, _, _ => by
    rcases h with h | ⟨a, xs, ds, _, _, _, ⟨e, _⟩ | ⟨_, e, _⟩⟩
    · exact h.1
    · cases e
    · cases e
  | d + 1, H, v, .inr (n, l), h, ⟨g1, g2, g3, g4⟩, hc => by
    rw [cnt_rep] at hc
    have hl := cnt_len l
    rw [itP_rep, listD_tup] at h
    rcases h with h | ⟨a, xs, ds, hv, _, hp, ⟨e, _⟩ | ⟨_, e, ha⟩⟩
    · exact h.elim
    · cases e
    · cases e
      rw [List.map_cons, List.map_cons, listD_tup] at hp
      match xs, hp with
      | [x1, x2], .cons h1 (.cons h2 .nil) =>
        have e1 : x1 = V.int n := by
          rcases h1 with h1 | ⟨_, _, _, _, _, _, ⟨e, _⟩ | ⟨_, e, _⟩⟩
          · exact h1.1
          · cases e
          · cases e
        rcases h2 with h2 | ⟨b, ys, es, hb, hl2, hq, ⟨e, _⟩ | ⟨_, e, hy⟩⟩
        · exact h2.elim
        · cases e
        · cases e
          rw [List.map_map] at hq
          have hq : Paired (fun a c => Th true (msI d) H a ((listD ∘ itP d) c)) ys l := paired_mapL hq
          have hyl := paired_ln hq
          subst e1 hb
          have e1 : (ys.zip l).map (·.1) = ys := List.map_fst_zip (by omega)
          have e2 : (ys.zip l).map (·.2) = l := List.map_snd_zip (by omega)
          refine ⟨a, b, ys.zip l, hv, .inr ha, .inr (by rw [e1]; exact hy), e2.symm, g1, by rw [List.length_zip]; omega, by rw [List.length_zip]; omega, fun u hu => ?_⟩
          obtain ⟨j, hj⟩ := List.getElem?_of_mem hu
          obtain ⟨j1, j2⟩ := List.getElem?_zip_eq_some.mp hj
          have hm := List.mem_of_getElem? j2
          exact th_itW d H u.1 u.2 (paired_at hq j1 j2) (g4 _ hm) (by have := cnt_mem hm; omega)
theorem itV_same : ∀ (d : Nat) (H : Hp) (u v : V) (i : It d), ItV d H u i → ItV d H v i → ItG (fun _ => True) d i → cntI d i ≤ 1000 → SameV (2 * d) H u v
  | 0, _, _, _, p, h1, h2, _, _ => by
    have h1 : _ = V.str p.nm := h1
    have h2 : _ = V.str p.nm := h2
    rw [h1, h2]
    exact ⟨trivial, rfl⟩
  | d + 1, _, _, _, .inl p, h1, h2, _, _ => by
    have h1 : _ = V.str p.nm := h1
    have h2 : _ = V.str p.nm := h2
    rw [h1, h2]
    exact .inl ⟨trivial, rfl⟩
  | d + 1, H, u, v, .inr (n, l), ⟨a, b, E, h1, h2, h3, h4, h5⟩, ⟨a', b', E', k1, k2, k3, k4, k5⟩, ⟨g1, g2, g3, g4⟩, hc => by
    rw [cnt_rep] at hc
    have hl := cnt_len l
    have eE : l.length = E.length := by rw [h4, List.length_map]
    have eE' : l.length = E'.length := by rw [k4, List.length_map]
    have p1 : Paired (ItV d H) (E.map (·.1)) l := by rw [h4]; exact paired_E h5
    have p2 : Paired (ItV d H) (E'.map (·.1)) l := by rw [k4]; exact paired_E k5
    rw [h1, k1, show 2 * (d + 1) = (2 * d + 1) + 1 by omega]
    refine .inr ⟨a, a', _, _, rfl, rfl, h2, k2, rfl, (by show 2 ≤ 20000; decide), fun i x y hx hy => ?_⟩
    match i, hx, hy with
    | 0, hx, hy => cases hx; cases hy; exact .inl ⟨trivial, rfl⟩
    | 1, hx, hy =>
      cases hx
      cases hy
      refine .inr ⟨b, b', _, _, rfl, rfl, h3, k3, by rw [List.length_map, List.length_map]; omega, by rw [List.length_map]; omega, fun j x y hx hy => ?_⟩
      have hj : j < l.length := by
        have := (List.getElem?_eq_some_iff.mp hx).1
        rw [List.length_map] at this
        omega
      have hlj : l[j]? = some l[j] := List.getElem?_eq_getElem hj
      have hm := List.getElem_mem hj
      exact itV_same d H x y l[j] (paired_at p1 hx hlj) (paired_at p2 hy hlj) (g4 _ hm) (by have := cnt_mem hm; omega)
    | _ + 2, hx, _ => cases hx
theorem lst_lay {G : Piece → Prop} (hG : ∀ p, G p → NameW (cp p.nm)) : ∀ (d : Nat) (i : It d), ItG G d i → (listD (itP d i)).canLay0 = true ∧ PyData.depth (listD (itP d i)) ≤ 2 * d
  | 0, _, h => ⟨asc_ok (nameS (hG _ h)), Nat.zero_le _⟩
  | _ + 1, .inl _, h => ⟨asc_ok (nameS (hG _ h)), Nat.zero_le _⟩
  | d + 1, .inr (n, l), ⟨_, _, _, g4⟩ => by
    have h1 : PyData.canLayAll0 (l.map (listD ∘ itP d)) = true := fs_lay fun e he => (lst_lay hG d e (g4 e he)).1
    have h2 : PyData.depthAll (l.map (listD ∘ itP d)) ≤ 2 * d := fs_depth fun e he => (lst_lay hG d e (g4 e he)).2
    rw [itP_rep, listD_tup, List.map_cons, List.map_cons, listD_tup, List.map_map]
    refine ⟨?_, ?_⟩
    · show (PyData.canLay0 (.int n) && (PyData.canLayAll0 (l.map (listD ∘ itP d)) && true)) = true
      rw [h1]
      rfl
    · show max 0 (max (PyData.depthAll (l.map (listD ∘ itP d)) + 1) 0) + 1 ≤ 2 * (d + 1)
      omega
end Sea
namespace Sea
open PySem PySem.Spec PyProof.Rows L2
/-! the law's reading back -/
theorem pcs_name {zs : List Str} (h : ∀ z ∈ zs, NameW (cp z)) : ∀ p, p ∈ pcsOf zs → NameW (cp p.nm) := fun p hp => by
  obtain ⟨i, z, hz, rfl⟩ := pcs_mem hp
  exact h z (List.mem_of_getElem? hz)
theorem rl_th {H : Hp} {t : Addr} {zs : List Str} {M : List (It 5)} (R : RlAt H t zs M) (hN : ∀ z ∈ zs, NameW (cp z)) : Th false (60 :: msI 5) H (.ref t) (.tuple (M.map (itP 5))) := by
  obtain ⟨ys, ht, hp⟩ := R.at'
  have hc := R.few
  have hl := cnt_len M
  refine .inr ⟨t, ys, M.map (itP 5), rfl, by rw [List.length_map]; omega, paired_mapR (paired_impM (fun x y m q => itV_th (pcs_name hN) 5 H x y q (R.good y m) (by have := cnt_mem m; omega)) hp), .inl ⟨rfl, ht⟩⟩
theorem th_items {H : Hp} {y : V} {zs : List Str} {M : List (It 5)} (hg : ∀ i ∈ M, ItG (· ∈ pcsOf zs) 5 i) (hc : cntL 5 M ≤ 60) (h : Th true (60 :: msI 5) H y (listD (.tuple (M.map (itP 5))))) :
    ∃ (a : Addr) (MM : List (V × It 5)), y = .ref a ∧ H a = some (.lst (MM.map (·.1))) ∧ MM.map (·.2) = M ∧ ∀ e ∈ MM, ItW 5 H e.1 e.2 := by
  rw [listD_tup] at h
  rcases h with h | ⟨a, xs, ds, hv, _, hp, ⟨e, _⟩ | ⟨_, e, ha⟩⟩
  · exact h.elim
  · cases e
  · cases e
    rw [List.map_map] at hp
    have hp : Paired (fun a c => Th true (msI 5) H a ((listD ∘ itP 5) c)) xs M := paired_mapL hp
    have hl := paired_ln hp
    refine ⟨a, xs.zip M, hv, ?_, List.map_snd_zip (by omega), fun u hu => ?_⟩
    · rw [List.map_fst_zip (by omega)]
      exact ha
    · obtain ⟨j, hj⟩ := List.getElem?_of_mem hu
      obtain ⟨j1, j2⟩ := List.getElem?_zip_eq_some.mp hj
      have hm := List.mem_of_getElem? j2
      exact th_itW 5 H u.1 u.2 (paired_at hp j1 j2) (hg _ hm) (by have := cnt_mem hm; omega)
theorem rl_w {H : Hp} {ys : List V} {zs : List Str} {M : List (It 5)} (hg : ∀ i ∈ M, ItG (· ∈ pcsOf zs) 5 i) (hc : cntL 5 M ≤ 60) (hp : Paired (ItV 5 H) ys M) : (ys.zip M).map (·.1) = ys ∧ (ys.zip M).map (·.2) = M ∧ ∀ e ∈ ys.zip M, ItW 5 H e.1 e.2 ∧ e.2 ∈ M := by
  have hl := paired_ln hp
  refine ⟨List.map_fst_zip (by omega), List.map_snd_zip (by omega), fun u hu => ?_⟩
  obtain ⟨j, hj⟩ := List.getElem?_of_mem hu
  obtain ⟨j1, j2⟩ := List.getElem?_zip_eq_some.mp hj
  have hm := List.mem_of_getElem? j2
  exact ⟨ItV.w 5 H u.1 u.2 (paired_at hp j1 j2) (hg _ hm) (by have := cnt_mem hm; omega), hm⟩
def spReadBack (CR CP : Addr) : Sp := fun vs H Q _ => ∃ (xp t : Addr) (zs : List Str) (M : List (It 5)), vs = [.ref xp, .ref t, .str (wrL 5 M)] ∧ PlanAt H CR CP xp 12 [] (pcsOf zs) [] zs zs ∧ (∀ z ∈ zs, NameW (cp z)) ∧ RlAt H t zs M ∧ ∀ H', Same H H' → Q (.bl true) H'
section
variable {P : Program} {w : World} {K : PySem.W.Frag} {mg : Str → Option Value} {base : Heap} {CR CP CS CT CRo fR : Addr} {fdR : FuncData}
open Classical in
theorem ok_readBack {f : Addr} {fd : FuncData} (F : Fun K "_law_read_back" "_law_read_back" s__law_read_back f fd) (m_isinstance : mg "isinstance" = none) (T : RoC K mg CRo fR) (FR : FnOk P w K mg base CX0 11 fR fdR ["self", "plan", "written"] (spRollI CR CP CS CT CRo)) (bR : Binds K fdR ["self", "plan", "written"] [])
    (hc : PySem.W.findIn K (.ref CRo) "__class__" = some (some (.builtin "object.__class__")) ∧ PySem.W.specialIn K (.builtin "object.__class__") "__get__" = some (some (.builtin "getset_descriptor.__get__")) ∧ PySem.W.takesIn K (.builtin "object.__class__") = some true ∧ PySem.W.mroIn K CRo (.type "object") = some true)
    (EP : EqOk P w K mg base CP 2 (spPlanEq CR CP)) (ER : EqOk P w K mg base CRo 3 (spRollEq CR CP CS CT CRo)) (c_read_roll : Cal P w K mg base 14 "read_roll" (spReadRoll CR CP CS CT CRo)) (c__law_same : Cal P w K mg base 12 "_law_same" (spSame 11)) (c__law_lists : Cal P w K mg base 12 "_law_lists" (spListsL (60 :: msI 5))) (c_write_roll : Cal P w K mg base 12 "write_roll" (spWrL 5)) :
    FnOk P w K mg base CX0 15 f fd ["_law_plan_here", "_law_items_here", "_law_text"] (spReadBack CR CP) := by
  obtain ⟨fe, fde, pse, Fe, hfe, hie, hbe⟩ := EP
  obtain ⟨fe2, fde2, pse2, Fe2, hfe2, hie2, hbe2⟩ := ER
  refine F.ok sc__law_read_back (fun vs H Q E h => ?_) (fun cdv A outer s H vs Q E hr h => ?_)
  · obtain ⟨xp, t, zs, M, rfl, _⟩ := h
    rfl
  · obtain ⟨xp, t, zs, M, rfl, hP, hN, R, q⟩ := h
    refine ⟨_, (pss_cons (ps_set (i := 3) sc__law_read_back.nd rfl (Or.inl rfl) (pe_c c_read_roll hr (by decide) rfl (pa_cons (pv 0) (pa_cons (pv 2) pa_nil))))
    (pss_cons (ps_if (PW.pt (pw_or (pt_not (pt_val (pe_callB call_isi (by rfl) m_isinstance (by decide +kernel) (pa_cons (pv 3) (pa_cons (pe_glob (v := .ref CRo) rfl T.g rfl) pa_nil))))) (pw_or1 (pt_not (pt_val (pe_c c__law_same hr (by decide) rfl (pa_cons (pe_fld (pv 3) rfl) (pa_cons (pv 1) pa_nil))))))))
    (pss_one (ps_ret (pe_bl)))
    pss_nil)
    (pss_cons (ps_if (PW.pt (pw_or (pt_not (pt_cmpR (op_ownEq Fe hr (by decide) hfe hie hbe) (pe_fld (pv 3) rfl) (pv 0) (nomark _))) (pw_or1 (pt_not (pt_cmpR (op_ownEq Fe2 hr (by decide) hfe2 hie2 hbe2) (pv 3) (pe_make (E := E0) T.made FR (hr.mono (by decide)) rfl T.g bR .nil pass0 (pa_cons (pv 0) (pa_cons (pe_c c__law_lists hr (by decide) rfl (pa_cons (pv 1) pa_nil)) pa_nil))) (nomark _))))))
    (pss_one (ps_ret (pe_bl)))
    pss_nil)
    (pss_one (ps_ret (pe_c c__law_same hr (by decide) rfl (pa_cons (pe_c c_write_roll hr (by decide) rfl (pa_cons (pe_fld (pv 3) rfl) pa_nil)) (pa_cons (pv 2) pa_nil)))))))), ?_⟩
    have hG := R.good
    have hf := R.few
    have hl := cnt_len M
    refine ⟨_, rfl, _, rfl, xp, 12, [], pcsOf zs, [], zs, zs, M, rfl, hP, by decide, Nat.zero_le _, R.some, hG, hf, fun H1 r s1 hR => ?_⟩
    have R1 := R.keep s1
    have hP1 := hP.keep s1
    obtain ⟨dx, wt, pt, wa, ys, E1, hx, _, hw, hv, _, _, _⟩ := id hR
    obtain ⟨ys', ht, hp⟩ := R1.at'
    refine ⟨_, rfl, _, _, _, _, true, rfl, .own CRo, .base (.ins hx T.cl hc.1 hc.2.1 hc.2.2.1 hc.2.2.2), if_pos (beq_self_eq_true _), true, rfl, iteF ?_⟩
    have hv : Paired (ItV 5 H1) ys M := hv
    have hyl := paired_ln hv
    have hyl' := paired_ln hp
    have sm : SameV 11 H1 (.ref wt) (.ref t) := .inr ⟨wt, t, ys, ys', rfl, rfl, hw, ht, by omega, by omega, fun i u v hu hv' => by
      have hi : i < M.length := by
        have := (List.getElem?_eq_some_iff.mp hu).1
        omega
      have hm : M[i]? = some M[i] := List.getElem?_eq_getElem hi
      have hmem := List.getElem_mem hi
      exact itV_same 5 H1 u v M[i] (paired_at hv hu hm) (paired_at hp hv' hm) ((hG _ hmem).imp (fun _ _ => trivial) 5 _) (by have := cnt_mem hmem; omega)⟩
    refine ⟨_, rfl, r, CRo, dx, _, _, rfl, hx, T.cl, T.n_written, ro_written .., _, rfl, .ref wt, .ref t, rfl, sm, fun H2 s2 => ⟨true, rfl, iteF ?_⟩⟩
    have hP2 := hP1.keep s2
    have hx2 := s2 _ _ hx
    have hR2 := hR.keep s2
    have R2 := R1.keep s2
    have no : ∀ c ∈ cuesC ([] : List (Addr × Cue)), CueG c := fun _ h => nomatch h
    obtain ⟨e1, _, _, _, _, _, _, _, _, _, _, _, _, hi1, _⟩ := id hP2
    refine ⟨_, rfl, r, CRo, dx, _, _, rfl, hx2, T.cl, T.n_plan, ro_plan .., _, rfl, ?_⟩
    refine ⟨xp, xp, e1, e1, _, _, rfl, rfl, hi1, hi1, xp, xp, 12, 12, [], [], pcsOf zs, pcsOf zs, [], [], zs, zs, zs, zs, rfl, hP2, hP2, no, no, hN, hN, hN, hN, ⟨_, rfl⟩, ?_⟩
    refine ⟨true, congrArg V.bl (decide_eq_true ⟨⟨rfl, rfl⟩, rfl, rfl, rfl, rfl⟩), iteF ?_⟩
    refine ⟨_, rfl, _, rfl, _, rfl, .ref t, .tuple (M.map (itP 5)), rfl, rl_th R2 hN, fun H3 y s3 hy => ?_⟩
    obtain ⟨a, MM, rfl, ha, hMM, hWW⟩ := th_items hG hf (hy.keep new_sub)
    have lMM : MM.length = M.length := by rw [← hMM, List.length_map]
    have hM1 := R.some
    refine roll_made (M := MM) (hP2.keep s3) (by decide) (Nat.zero_le _) (.inr ha) (by omega) hWW (fun e he => hG _ (by rw [← hMM]; exact List.mem_map_of_mem he)) (by rw [hMM]; exact hf) fun H4 r2 s4 hR4 => ?_
    rw [hMM] at hR4
    have hR3 := (hR2.keep s3).keep s4
    obtain ⟨dx3, _, _, _, _, _, hx3, _⟩ := id hR3
    obtain ⟨dx4, _, _, _, _, _, hx4, _⟩ := id hR4
    refine ⟨r, r2, dx3, dx4, _, _, rfl, rfl, hx3, hx4, r, r2, xp, xp, 12, 12, [], [], pcsOf zs, pcsOf zs, [], [], zs, zs, zs, zs, M, M, rfl, hR3, hR4, no, no, hN, hN, hN, hN, hG, hG, ⟨_, rfl⟩, ?_⟩
    refine ⟨true, congrArg V.bl (decide_eq_true ⟨⟨⟨rfl, rfl⟩, rfl, rfl, rfl, rfl⟩, rfl⟩), iteF ?_⟩
    have S14 := (s2.trans s3).trans s4
    have hv4 : Paired (ItV 5 H4) ys M := paired_imp (fun _ _ h => h.keep S14 5 _ _) hv
    obtain ⟨w1, w2, w3⟩ := rl_w hG hf hv4
    have g8 : ∀ i ∈ M, ItG G8 5 i := fun i hi => (hG i hi).imp (plan_g8 hP) 5 i
    refine ⟨_, rfl, r, CRo, dx, _, _, rfl, S14 _ _ hx, T.cl, T.n_written, ro_written .., wt, ys.zip M, rfl, .inl (by rw [w1]; exact S14 _ _ hw), fun e he => ⟨(w3 e he).1, g8 _ (w3 e he).2⟩, by rw [w2]; omega, fun H5 s5 => ?_⟩
    rw [w2]
    exact ⟨_, rfl, _, _, rfl, .inl ⟨trivial, rfl⟩, fun H6 s6 => q H6 (s1.trans (S14.trans (s5.trans s6)))⟩
end
end Sea
namespace Sea
open PySem PySem.Spec PyProof.Rows L2
/-! the law -/
def MENU : List Str := [Str.ofString "nowhere", Str.ofString "nobodyx", Str.ofString "zzzzzzzz", Str.ofString "b", Str.ofString "bb", Str.ofString "bbb", Str.ofString "bbbb"]
theorem menu_nd : MENU.Nodup := by decide +kernel
theorem menu_ok : ∀ z ∈ MENU, NameW (cp z) := by
  have h : (MENU.all fun z => decide (1 ≤ (cp z).length) && (decide ((cp z).length ≤ 8) && (cp z).all fun c => decide (97 ≤ c) && decide (c ≤ 122))) = true := by decide +kernel
  intro z hz
  have := List.all_eq_true.mp h z hz
  simp only [Bool.and_eq_true, decide_eq_true_eq, List.all_eq_true] at this
  exact ⟨this.1, this.2.1, this.2.2⟩
theorem menu_free {zs : List Str} (h : zs.length ≤ 6) : ∃ z r, MENU.filter (fun z => !decide (z ∈ zs)) = z :: r := by
  cases e : MENU.filter (fun z => !decide (z ∈ zs)) with
  | cons z r => exact ⟨z, r, rfl⟩
  | nil =>
    have sub : ∀ z ∈ MENU, z ∈ zs := fun z hz => by
      have := List.filter_eq_nil_iff.mp e z hz
      simpa using this
    have := nodup_le menu_nd sub
    have : MENU.length = 7 := rfl
    omega
theorem pcs_more {zs : List Str} (z : Str) {p : Piece} (h : p ∈ pcsOf zs) : p ∈ pcsOf (zs ++ [z]) := by
  obtain ⟨i, y, hy, rfl⟩ := pcs_mem h
  refine List.mem_of_getElem? (pcs_at (i := i) ?_)
  rw [List.getElem?_append_left (List.getElem?_eq_some_iff.mp hy).1]
  exact hy
theorem pcs_last (zs : List Str) (z : Str) : pcOf zs.length z ∈ pcsOf (zs ++ [z]) := by
  refine List.mem_of_getElem? (pcs_at (i := zs.length) ?_)
  rw [List.getElem?_append_right (Nat.le_refl _), Nat.sub_self]
  rfl
theorem pcs_ne (zs : List Str) (z : Str) : pcsOf (zs ++ [z]) ≠ pcsOf zs := fun e => by
  have := congrArg List.length e
  rw [pcs_len, pcs_len, List.length_append, List.length_singleton] at this
  omega
theorem RlAt.more {H : Hp} {t : Addr} {zs : List Str} {M : List (It 5)} (h : RlAt H t zs M) (z : Str) : RlAt H t (zs ++ [z]) M :=
  ⟨h.at', h.some, fun i hi => (h.good i hi).imp (fun _ => pcs_more z) 5 i, h.few⟩
theorem tup_shapedL {α : Type} {f : α → PyData} {xs : List α} (h : ∀ x ∈ xs, (f x).canLay0 = true) (d : ∀ x ∈ xs, PyData.depth (f x) ≤ 10) : SeqAt.shaped (.list (xs.map f)) = true := by
  show (PyData.canLayAll0 (xs.map f) && decide (PyData.depthAll (xs.map f) + 1 ≤ 64)) = true
  have := fs_depth d
  rw [fs_lay h, decide_eq_true (by omega)]
  rfl
theorem mergeA {Pq G : Addr → Hp → Prop} {B : Prop} (k : (∀ a Hc, Pq a Hc → G a Hc) → B) (b : ∀ a Hc, Pq a Hc → G a Hc) : B := k b
theorem andS {A C b : Prop} (h2 : ¬ b → C) (h1 : b → A) : (b → A) ∧ (¬ b → C) := ⟨h1, h2⟩
theorem iteFb {A B : Prop} {b : Bool} (e : b = false) (h : B) : if b = true then A else B := by
  subst e
  exact iteF h
def spLaw5 (K : PySem.W.Frag) : Sp := fun vs H Q _ => ∃ (a : Addr) (ns : List Int), vs = [.ref a] ∧ SqL K H a (ns.map V.int) ∧ ns.length ≤ 63 ∧ ∀ H', Q (.bl true) H'
section
variable {P : Program} {w : World} {K : PySem.W.Frag} {mg : Str → Option Value} {base : Heap} {CR CP CS CT CRo : Addr}
open Classical in
theorem ok_law5 {f : Addr} {fd : FuncData} (F : Fun K "law" "law" s_law f fd) (ER : EqOk P w K mg base CRo 3 (spRollEq CR CP CS CT CRo))
    (c__law_tape : Cal P w K mg base 1 "_law_tape" (spTape K)) (c__law_some : Cal P w K mg base 2 "_law_some" spSome) (c__law_some_names : Cal P w K mg base 3 "_law_some_names" spSomeNamesD) (c__law_plan : Cal P w K mg base 7 "_law_plan" (spPlan5 CR CP)) (c__law_roll : Cal P w K mg base 14 "_law_roll" spRoll5) (c__law_written : Cal P w K mg base 6 "_law_written" (spWritten 5))
    (c__law_lists : Cal P w K mg base 12 "_law_lists" (spListsL (60 :: msI 5))) (c__law_same : Cal P w K mg base 12 "_law_same" (spSame 11)) (c_write_roll : Cal P w K mg base 12 "write_roll" (spWrL 5)) (c_read_roll : Cal P w K mg base 14 "read_roll" (spReadRoll CR CP CS CT CRo)) (c__law_read_back : Cal P w K mg base 15 "_law_read_back" (spReadBack CR CP)) :
    FnOk P w K mg base CX0 16 f fd ["_law_script"] (spLaw5 K) := by
  obtain ⟨fe2, fde2, pse2, Fe2, hfe2, hie2, hbe2⟩ := ER
  refine F.ok sc_law (fun vs H Q E h => ?_) (fun cdv A outer s H vs Q E hr h => ?_)
  · obtain ⟨a, ns, rfl, _⟩ := h
    rfl
  · obtain ⟨sa, sns, rfl, hS, hl, q⟩ := h
    refine ⟨_, (pss_cons (ps_set (i := 1) sc_law.nd rfl (Or.inl rfl) (pe_c c__law_tape hr (by decide) rfl (pa_cons (pv 0) pa_nil)))
    (pss_cons (ps_set (i := 2) sc_law.nd rfl (Or.inr rfl) (pe_c c__law_some_names hr (by decide) rfl (pa_cons (pv 1) (pa_cons (pe_c c__law_some hr (by decide) rfl (pa_cons (pv 1) (pa_cons (pe_int) (pa_cons (pe_int) pa_nil)))) pa_nil))))
    (pss_cons (ps_set (i := 3) sc_law.nd rfl (Or.inl rfl) (pe_c c__law_plan hr (by decide) rfl (pa_cons (pv 2) pa_nil)))
    (pss_cons (ps_set (i := 4) sc_law.nd rfl (Or.inl rfl) (pe_c c__law_roll hr (by decide) rfl (pa_cons (pv 1) (pa_cons (pv 2) pa_nil))))
    (pss_cons (ps_set (i := 5) sc_law.nd rfl (Or.inl rfl) (pe_c c__law_roll hr (by decide) rfl (pa_cons (pv 1) (pa_cons (pv 2) pa_nil))))
    (pss_cons (ps_set (i := 6) sc_law.nd rfl (Or.inl rfl) (pe_c c__law_written hr (by decide) rfl (pa_cons (pv 4) pa_nil)))
    (pss_cons (ps_set (i := 7) sc_law.nd rfl (Or.inl rfl) (pe_c c__law_written hr (by decide) rfl (pa_cons (pv 5) pa_nil)))
    (pss_cons (ps_set (i := 8) sc_law.nd rfl (Or.inl rfl) (pe_c c__law_lists hr (by decide) rfl (pa_cons (pv 4) pa_nil)))
    (pss_cons (ps_if (PW.pt (pw_or (pt_not (pt_val (pe_c c__law_same hr (by decide) rfl (pa_cons (pe_c c_write_roll hr (by decide) rfl (pa_cons (pv 4) pa_nil)) (pa_cons (pv 6) pa_nil))))) (pw_or1 (pt_not (pt_val (pe_c c__law_same hr (by decide) rfl (pa_cons (pe_c c_write_roll hr (by decide) rfl (pa_cons (pv 8) pa_nil)) (pa_cons (pv 6) pa_nil))))))))
    (pss_one (ps_ret (pe_bl)))
    pss_nil)
    (pss_cons (ps_if (PW.pt (pw_or (pt_cmpR (op_neD hr.units) (pv 8) (pe_c c__law_lists hr (by decide) rfl (pa_cons (pv 4) pa_nil)) (nomark _)) (pw_or1 (pt_not (pt_val (pe_c c__law_same hr (by decide) rfl (pa_cons (pe_c c_write_roll hr (by decide) rfl (pa_cons (pv 5) pa_nil)) (pa_cons (pv 7) pa_nil))))))))
    (pss_one (ps_ret (pe_bl)))
    pss_nil)
    (pss_cons (ps_if (PW.pt (pw_or (pt_not (pt_val (pe_c c__law_read_back hr (by decide) rfl (pa_cons (pv 3) (pa_cons (pv 4) (pa_cons (pv 6) pa_nil)))))) (pw_or1 (pt_not (pt_val (pe_c c__law_read_back hr (by decide) rfl (pa_cons (pv 3) (pa_cons (pv 5) (pa_cons (pv 7) pa_nil)))))))))
    (pss_one (ps_ret (pe_bl)))
    pss_nil)
    (pss_cons (ps_if (pt_not (pt_val (pe_c c__law_read_back hr (by decide) rfl (pa_cons (pv 3) (pa_cons (pv 4) (pa_cons (pv 6) pa_nil))))))
    (pss_one (ps_ret (pe_bl)))
    pss_nil)
    (pss_cons (ps_if (pt_cmpR op_ne (pe_cmpR (op_ownEq Fe2 hr (by decide) hfe2 hie2 hbe2) (pe_c c_read_roll hr (by decide) rfl (pa_cons (pv 3) (pa_cons (pv 6) pa_nil))) (pe_c c_read_roll hr (by decide) rfl (pa_cons (pv 3) (pa_cons (pv 7) pa_nil))) (nomark _)) (pe_cmpR op_eq (pv 6) (pv 7) (nomark _)) (nomark _))
    (pss_one (ps_ret (pe_bl)))
    pss_nil)
    (pss_cons (ps_set (i := 9) sc_law.nd rfl (Or.inl rfl) (pe_lst (pa_cons (pe_str) (pa_cons (pe_str) (pa_cons (pe_str) (pa_cons (pe_str) (pa_cons (pe_str) (pa_cons (pe_str) (pa_cons (pe_str) pa_nil)))))))))
    (pss_cons (ps_set (i := 10) sc_law.nd rfl (Or.inl rfl) (pe_ix ix_list (pe_lc (own := [("_law_name", 13)]) rfl sc_law.nd (pi_list (pv 9)) (blkOk_by (N := N_law) (sc := defScope s_law) (by decide +kernel)) (fun _ _ _ _ _ => (pg_name (i := 13) sc_law.nd rfl (Or.inl rfl))) (fun _ _ _ _ _ => pts_one (pt_cmpR (show OpR _ _ (rIn K true) from op_notIn_seq) (pv 13) (pv 2) rfl)) (fun _ _ _ _ _ => (pv 13))) (pe_int) (fun _ _ => rfl)))
    (pss_cons (ps_set (i := 11) sc_law.nd rfl (Or.inl rfl) (pe_c c__law_plan hr (by decide) rfl (pa_cons (pe_op op_cat (pv 2) (pe_lst (pa_cons (pv 10) pa_nil))) pa_nil)))
    (pss_cons (ps_if (pt_cmpR (op_ownEq Fe2 hr (by decide) hfe2 hie2 hbe2) (pe_c c_read_roll hr (by decide) rfl (pa_cons (pv 11) (pa_cons (pv 6) pa_nil))) (pe_c c_read_roll hr (by decide) rfl (pa_cons (pv 3) (pa_cons (pv 6) pa_nil))) (nomark _))
    (pss_one (ps_ret (pe_bl)))
    pss_nil)
    (pss_cons (ps_set (i := 12) sc_law.nd rfl (Or.inl rfl) (pe_op op_catT (pe_tup (pa_cons (pv 10) pa_nil)) (pe_slice sl_tup (pv 4) (po_some (pe_int)) po_none)))
    (pss_one (ps_ret (pe_and (pe_c c__law_read_back hr (by decide) rfl (pa_cons (pv 11) (pa_cons (pv 4) (pa_cons (pv 6) pa_nil)))) (pe_one (pe_c c__law_read_back hr (by decide) rfl (pa_cons (pv 11) (pa_cons (pv 12) (pa_cons (pe_c c__law_written hr (by decide) rfl (pa_cons (pv 12) pa_nil)) pa_nil)))))))))))))))))))))))))), ?_⟩
    have sl : sizeLine = 16777216 := sizeLine_eq
    refine ⟨_, rfl, sa, sns, rfl, hS, hl, fun H1 tp cl ns s1 T1 => ?_⟩
    refine ⟨_, rfl, _, rfl, tp, cl, ns, 1, 6, rfl, T1, by decide, by decide, fun H2 m k2 T2 m0 m1 => ?_⟩
    refine ⟨tp, cl, ns, m, rfl, T2, m0, m1, fun H3 na zs k3 T3 nn hna z1 z6 hN znd => ?_⟩
    have z8 : ∀ z ∈ zs, z.length ≤ 8 := fun z hz => by
      have := (hN z hz).most
      rw [cp_len] at this
      exact this
    refine ⟨_, rfl, na, zs, rfl, hna, z1, by omega, hN, znd, fun H4 xp L s4 hP hL => ?_⟩
    subst hL
    have T4 := T3.same s4
    have hna4 := s4 _ _ hna
    refine ⟨_, rfl, _, rfl, tp, cl, na, ns, zs, rfl, T4, hna4, nn, z1, by omega, z8, fun H5 t M k5 T5 R5 => ?_⟩
    have hP5 := hP.km (KM.of_kb T4 k5)
    have hna5 := k5 na _ nn hna4
    refine ⟨_, rfl, _, rfl, tp, cl, na, ns, zs, rfl, T5, hna5, nn, z1, by omega, z8, fun H6 u N k6 T6 R6 => ?_⟩
    have hP6 := hP5.km (KM.of_kb T5 k6)
    have hna6 := k6 na _ nn hna5
    have RM6 := R5.kt (KB.kt k6 T5)
    have fM := RM6.few
    have fN := R6.few
    have gM := RM6.good
    have gN := R6.good
    have g8M : ∀ i ∈ M, ItG G8 5 i := fun i hi => (gM i hi).imp (pcs_g8 z8) 5 i
    have g8N : ∀ i ∈ N, ItG G8 5 i := fun i hi => (gN i hi).imp (pcs_g8 z8) 5 i
    clear hP hP5 R5 hna hna4 hna5
    obtain ⟨ys, ht, hp⟩ := RM6.at'
    obtain ⟨vs, hu, hpu⟩ := R6.at'
    refine ⟨_, rfl, t, ys, M, rfl, ht, hp, by omega, g8M, fun H7 s7 => ?_⟩
    refine ⟨_, rfl, u, vs, N, rfl, s7 _ _ hu, paired_imp (fun _ _ h => h.keep s7 5 _ _) hpu, by omega, g8N, fun H8 s8 => ?_⟩
    have S68 := s7.trans s8
    refine ⟨_, rfl, .ref t, .tuple (M.map (itP 5)), rfl, rl_th (RM6.keep S68) hN, fun H9 y s9 hy => ?_⟩
    have S69 := S68.trans s9
    have hyT := hy.keep new_sub
    obtain ⟨la, MM, rfl, hla, hMM, hWW⟩ := th_items gM fM hyT
    have lM : MM.length = M.length := by rw [← hMM, List.length_map]
    have wM : ∀ {H' : Hp}, Same H6 H' → Paired (ItV 5 H') ys M := fun s => paired_imp (fun _ _ h => h.keep s 5 _ _) hp
    have wN : ∀ {H' : Hp}, Same H6 H' → Paired (ItV 5 H') vs N := fun s => paired_imp (fun _ _ h => h.keep s 5 _ _) hpu
    obtain ⟨a1, a2, a3⟩ := rl_w gM fM (wM S69)
    -- the text of the items, of tuples and of lists
    refine ⟨_, rfl, t, ys.zip M, rfl, .inl (by rw [a1]; exact S69 _ _ ht), fun e he => ⟨(a3 e he).1, g8M _ (a3 e he).2⟩, by rw [a2]; omega, fun H10 s10 => ?_⟩
    rw [a2]
    refine ⟨_, rfl, _, _, rfl, .inl ⟨trivial, rfl⟩, fun H11 s11 => ⟨true, rfl, iteF ?_⟩⟩
    have S9b := s10.trans s11
    refine ⟨_, rfl, la, MM, rfl, .inr (S9b _ _ hla), fun e he => ⟨(hWW e he).keep S9b 5 _ _, g8M _ (by rw [← hMM]; exact List.mem_map_of_mem he)⟩, by rw [hMM]; omega, fun H12 s12 => ?_⟩
    rw [hMM]
    refine ⟨_, rfl, _, _, rfl, .inl ⟨trivial, rfl⟩, fun H13 s13 => ⟨true, rfl, iteF ?_⟩⟩
    have S913 := S9b.trans (s12.trans s13)
    have S613 := S69.trans S913
    -- the lists stay
    refine ⟨_, rfl, _, rfl, .ref t, .tuple (M.map (itP 5)), rfl, rl_th (RM6.keep S613) hN, fun H14 y2 s14 hy2 => ?_⟩
    have hyT2 := hy2.keep new_sub
    have lay : (listD (.tuple (M.map (itP 5)))).canLay0 = true := by
      rw [listD_tup, List.map_map]
      exact fs_lay fun e he => (lst_lay (pcs_name hN) 5 e (gM e he)).1
    have shp : SeqAt.shaped (listD (.tuple (M.map (itP 5)))) = true := by
      rw [listD_tup, List.map_map]
      exact tup_shapedL (fun e he => (lst_lay (pcs_name hN) 5 e (gM e he)).1) fun e he => (lst_lay (pcs_name hN) 5 e (gM e he)).2
    refine ⟨listD (.tuple (M.map (itP 5))), listD (.tuple (M.map (itP 5))), ((hyT.keep S913).keep s14).dp, hyT2.dp, shp, shp, _, rfl, ?_⟩
    rw [SeqAt.eqv_refl _ lay]
    refine iteF ?_
    have S614 := S613.trans s14
    obtain ⟨b1, b2, b3⟩ := rl_w gN fN (wN S614)
    refine ⟨_, rfl, u, vs.zip N, rfl, .inl (by rw [b1]; exact S614 _ _ hu), fun e he => ⟨(b3 e he).1, g8N _ (b3 e he).2⟩, by rw [b2]; omega, fun H15 s15 => ?_⟩
    rw [b2]
    refine ⟨_, rfl, _, _, rfl, .inl ⟨trivial, rfl⟩, fun H16 s16 => ⟨true, rfl, iteF ?_⟩⟩
    have S616 := S614.trans (s15.trans s16)
    clear hyT hyT2 hy hy2 hWW a1 a2 a3 b1 b2 b3
    -- read back
    refine ⟨_, rfl, _, rfl, _, rfl, xp, t, zs, M, rfl, hP6.keep S616, hN, RM6.keep S616, fun H17 s17 => ⟨true, rfl, iteF ?_⟩⟩
    have S617 := S616.trans s17
    refine ⟨_, rfl, _, rfl, _, rfl, xp, u, zs, N, rfl, hP6.keep S617, hN, R6.keep S617, fun H18 s18 => ⟨true, rfl, iteF ?_⟩⟩
    have S618 := S617.trans s18
    refine ⟨_, rfl, _, rfl, _, rfl, xp, t, zs, M, rfl, hP6.keep S618, hN, RM6.keep S618, fun H19 s19 => ⟨true, rfl, iteF ?_⟩⟩
    have S619 := S618.trans s19
    -- equal exactly if the texts are
    have no : ∀ c ∈ cuesC ([] : List (Addr × Cue)), CueG c := fun _ h => nomatch h
    refine ⟨_, rfl, _, rfl, xp, 12, [], pcsOf zs, [], zs, zs, M, rfl, hP6.keep S619, by decide, Nat.zero_le _, RM6.some, gM, fM, fun H20 r s20 hr20 => ?_⟩
    have S620 := S619.trans s20
    refine ⟨_, rfl, _, rfl, xp, 12, [], pcsOf zs, [], zs, zs, N, rfl, hP6.keep S620, by decide, Nat.zero_le _, R6.some, gN, fN, fun H21 r2 s21 hr21 => ?_⟩
    have S621 := S620.trans s21
    have hra := hr20.keep s21
    obtain ⟨dx3, _, _, _, _, _, hx3, _⟩ := id hra
    obtain ⟨dx4, _, _, _, _, _, hx4, _⟩ := id hr21
    refine ⟨r, r2, dx3, dx4, _, _, rfl, rfl, hx3, hx4, r, r2, xp, xp, 12, 12, [], [], pcsOf zs, pcsOf zs, [], [], zs, zs, zs, zs, M, N, rfl, hra, hr21, no, no, hN, hN, hN, hN, gM, gN, ⟨_, rfl⟩, ?_⟩
    refine ⟨_, rfl, _, rfl, rfl, rfl, _, rfl, ?_⟩
    have nmG : ∀ p, p ∈ pcsOf zs → NmG p := pcs_name hN
    have eqT : decide (((((12 : Int) = 12 ∧ cuesC ([] : List (Addr × Cue)) = cuesC ([] : List (Addr × Cue))) ∧ pcsOf zs = pcsOf zs ∧ ([] : List (Str × Str)) = [] ∧ zs = zs ∧ zs = zs) ∧ M.map (itP 5) = N.map (itP 5))) = decide (V.str (wrL 5 M) = V.str (wrL 5 N)) := by
      have iff := wrL_iff RM6.some R6.some (fun e he => (gM e he).imp nmG 5 e) (fun e he => (gN e he).imp nmG 5 e)
      refine decide_eq_decide.mpr ⟨fun h => congrArg V.str (iff.mpr h.2), fun h => ⟨⟨⟨rfl, rfl⟩, rfl, rfl, rfl, rfl⟩, iff.mp (V.str.inj h)⟩⟩
    refine iteFb ?_ ?_
    · show (!decide (V.bl (decide _) = V.bl (decide _))) = false
      rw [eqT, decide_eq_true rfl]
      rfl
    clear eqT
    -- a spare name
    refine ⟨(by show 7 ≤ sizeLine; omega), fun mp hmp0 => ?_⟩
    have s22 := same_new (o := HO.lst (MENU.map V.str)) hmp0
    have hmp := upd_same (H := H21) (a := mp) (o := HO.lst (MENU.map V.str))
    show gName 9 (V.ref mp) _ (upd H21 mp (HO.lst (MENU.map V.str))) _
    generalize upd H21 mp (HO.lst (MENU.map V.str)) = H22 at s22 hmp ⊢
    have S622 := S621.trans s22
    have hna22 := S622 _ _ hna6
    refine ⟨_, rfl, mp, rfl, ⟨_, SqL.of hmp⟩, fun D hD => ?_⟩
    refine lc_list (K := K) (a := mp) (xs := MENU.map V.str) (fun i H' => Same H22 H' ∧ H' D = some (.lst (((MENU.take i).filter fun z => !decide (z ∈ zs)).map V.str))) ⟨same_new hD, upd_same⟩ (fun i H' _ hq => SqL.of (hq.1 _ _ hmp)) ?_ ?_
    · rintro i x Ha hi ⟨sa, hd⟩
      rw [List.getElem?_map] at hi
      cases hMi : MENU[i]? with
      | none => rw [hMi] at hi; cases hi
      | some z =>
        rw [hMi] at hi
        cases hi
        have hi7 : i < 7 := (List.getElem?_eq_some_iff.mp hMi).1
        refine ⟨rfl, _, rfl, _, rfl, na, _, rfl, .inl (SqL.of (sa _ _ hna22)), rfl, flat_strs zs, _, rfl, ?_⟩
        show (if (!inV (.str z) (zs.map V.str)) = true then _ else _)
        rw [inV_strs]
        by_cases hz : z ∈ zs
        · rw [decide_eq_true hz]
          refine iteF ⟨sa, ?_⟩
          rw [hd, List.take_add_one, hMi, List.filter_append]
          simp [hz]
        · rw [decide_eq_false hz]
          refine iteT ⟨_, rfl, _, hd, ?_, same_over sa hD, ?_⟩
          · rw [List.length_map]
            have h1 := List.length_filter_le (fun z => !decide (z ∈ zs)) (MENU.take i)
            rw [List.length_take] at h1
            exact small_line (by omega)
          · rw [upd_same, List.take_add_one, hMi, List.filter_append]
            simp [hz]
    rintro H23 ⟨s23, hd⟩
    rw [List.length_map, List.take_length] at hd
    obtain ⟨sp, rs, hsp⟩ := menu_free (zs := zs) (by omega)
    have spM : sp ∈ MENU.filter fun z => !decide (z ∈ zs) := by rw [hsp]; exact List.mem_cons_self
    have sp1 : sp ∈ MENU := (List.mem_filter.mp spM).1
    have sp2 : sp ∉ zs := by simpa using (List.mem_filter.mp spM).2
    rw [hsp] at hd
    refine ⟨D, _, 0, .str sp, rfl, rfl, SqL.of hd, atI_0 _ _, ?_⟩
    have S623 := S622.trans s23
    have hna23 := S623 _ _ hna6
    have hNs : ∀ z ∈ zs ++ [sp], NameW (cp z) := fun z hz => by
      rcases List.mem_append.mp hz with h | h
      · exact hN z h
      · rw [List.mem_singleton.mp h]
        exact menu_ok sp sp1
    have nds : (zs ++ [sp]).Nodup := List.nodup_append.mpr ⟨znd, List.nodup_cons.mpr ⟨List.not_mem_nil, List.nodup_nil⟩, fun a ha b hb => by
      rw [List.mem_singleton.mp hb]
      exact fun h => sp2 (h ▸ ha)⟩
    have lzs : (zs ++ [sp]).length = zs.length + 1 := by rw [List.length_append]; rfl
    -- the wider plan
    refine ⟨_, rfl, _, rfl, (by show 1 ≤ sizeLine; omega), fun qp hqp => ?_⟩
    have s24 := same_new (o := HO.lst [V.str sp]) hqp
    have hq24 := upd_same (H := H23) (a := qp) (o := HO.lst [V.str sp])
    generalize upd H23 qp (HO.lst [V.str sp]) = H24 at s24 hq24 ⊢
    refine ⟨na, qp, _, _, rfl, rfl, s24 _ _ hna23, hq24, by rw [List.length_map]; show zs.length + 1 ≤ sizeLine; omega, fun wp hwp => ?_⟩
    have s25 := same_new (o := HO.lst (zs.map V.str ++ [V.str sp])) hwp
    have hw25 : upd H24 wp (HO.lst (zs.map V.str ++ [V.str sp])) wp = some (.lst ((zs ++ [sp]).map V.str)) := by
      rw [upd_same, List.map_append]
      rfl
    generalize upd H24 wp (HO.lst (zs.map V.str ++ [V.str sp])) = H25 at s25 hw25 ⊢
    refine ⟨wp, zs ++ [sp], rfl, hw25, by omega, by omega, hNs, nds, fun H26 wx L s26 hPw hL => ?_⟩
    subst hL
    have S626 := S623.trans (s24.trans (s25.trans s26))
    have gMw : ∀ i ∈ M, ItG (· ∈ pcsOf (zs ++ [sp])) 5 i := fun i hi => (gM i hi).imp (fun _ => pcs_more sp) 5 i
    refine ⟨_, rfl, _, rfl, wx, 12, [], pcsOf (zs ++ [sp]), [], zs ++ [sp], zs ++ [sp], M, rfl, hPw, by decide, Nat.zero_le _, RM6.some, gMw, fM, fun H27 r5 s27 hr27 => ?_⟩
    have S627 := S626.trans s27
    refine ⟨_, rfl, _, rfl, xp, 12, [], pcsOf zs, [], zs, zs, M, rfl, hP6.keep S627, by decide, Nat.zero_le _, RM6.some, gM, fM, fun H28 r6 s28 hr28 => ?_⟩
    have S628 := S627.trans s28
    have hrb := hr27.keep s28
    obtain ⟨dx5, _, _, _, _, _, hx5, _⟩ := id hrb
    obtain ⟨dx6, _, _, _, _, _, hx6, _⟩ := id hr28
    refine ⟨r5, r6, dx5, dx6, _, _, rfl, rfl, hx5, hx6, r5, r6, wx, xp, 12, 12, [], [], pcsOf (zs ++ [sp]), pcsOf zs, [], [], zs ++ [sp], zs, zs ++ [sp], zs, M, M, rfl, hrb, hr28, no, no, hNs, hN, hNs, hN, gMw, gM, ⟨_, rfl⟩, ?_⟩
    refine ⟨_, rfl, ?_⟩
    rw [decide_eq_false fun h => pcs_ne zs sp h.1.2.1]
    refine iteF ?_
    -- another first item
    have hPw28 := hPw.keep (s27.trans s28)
    have ht28 := S628 _ _ ht
    obtain ⟨y0, ys, rfl⟩ : ∃ y0 r, ys = y0 :: r := by
      cases ys with
      | nil =>
        have h1 := paired_ln hp
        have h2 := RM6.some
        rw [← h1] at h2
        exact absurd h2 (by decide)
      | cons y r => exact ⟨y, r, rfl⟩
    obtain ⟨m0, M', rfl⟩ : ∃ m r, M = m :: r := by
      cases M with
      | nil => cases hp
      | cons m r => exact ⟨m, r, rfl⟩
    refine ⟨_, rfl, (by show 1 ≤ sizeLine; omega), fun ap hap => ?_⟩
    have s29 := same_new (o := HO.tup [V.str sp]) hap
    have ha29 := upd_same (H := H28) (a := ap) (o := HO.tup [V.str sp])
    generalize upd H28 ap (HO.tup [V.str sp]) = H29 at s29 ha29 ⊢
    have c1 : cutV (y0 :: ys) (some 1) none = ys := cut_from1 y0 ys
    refine ⟨_, rfl, 1, rfl, t, y0 :: ys, rfl, SqT.of (s29 _ _ ht28), ?_, fun cpp hcp => ?_⟩
    · rintro ⟨h, _⟩
      have : min 1 (y0 :: ys).length = 0 := h
      rw [List.length_cons] at this
      omega
    rw [c1]
    have s30 := same_new (o := HO.tup ys) hcp
    have hc30 := upd_same (H := H29) (a := cpp) (o := HO.tup ys)
    generalize upd H29 cpp (HO.tup ys) = H30 at s30 hc30 ⊢
    apply mergeA (Pq := fun a Hc => Same H30 Hc ∧ Hc a = some (.tup (V.str sp :: ys)))
    · intro go
      have lys : ys.length ≤ 60 := by
        have h1 := paired_ln hp
        have h2 := cnt_len (m0 :: M')
        rw [List.length_cons] at h1
        rw [List.length_cons] at h2 h1
        omega
      refine ⟨ap, cpp, _, _, rfl, rfl, SqT.of (s30 _ _ ha29), SqT.of hc30, (fun e => by cases e), by show 1 + ys.length ≤ sizeLine; omega, ?_⟩
      apply andS
      · intro _ v hv
        have s31 := same_new (o := HO.tup ([V.str sp] ++ ys)) hv
        have hv31 := upd_same (H := H30) (a := v) (o := HO.tup ([V.str sp] ++ ys))
        generalize upd H30 v (HO.tup ([V.str sp] ++ ys)) = H31 at s31 hv31 ⊢
        exact go v H31 ⟨s31, hv31⟩
      · intro e
        exact go ap H30 ⟨Same.refl _, by rw [e]; exact s30 _ _ ha29⟩
    rintro sw H31 ⟨s31, hsw⟩
    have S31 := S628.trans (s29.trans (s30.trans s31))
    have hcM : 1 + cntL 5 M' ≤ 60 := by
      have h1 : cntL 5 (m0 :: M') = cntI 5 m0 + cntL 5 M' := rfl
      have h2 := cntI_pos 5 m0
      omega
    have hpt : Paired (ItV 5 H31) ys M' := by
      have := wM S31
      cases this with
      | cons a b => exact b
    have Rs : RlAt H31 sw (zs ++ [sp]) (nmI 5 (pcOf zs.length sp) :: M') := ⟨⟨_, hsw, .cons (nm_v 5 _ (pcOf zs.length sp)) hpt⟩, Nat.le_add_left _ _, fun i hi => by
      rcases List.mem_cons.mp hi with h | h
      · rw [h]
        exact nm_g 5 _ (pcs_last zs sp)
      · exact gMw i (List.mem_cons_of_mem _ h), by
      show cntI 5 (nmI 5 (pcOf zs.length sp)) + cntL 5 M' ≤ 60
      rw [nm_c]
      exact hcM⟩
    have hPw31 := hPw28.keep (s29.trans (s30.trans s31))
    refine ⟨_, rfl, _, rfl, _, rfl, wx, t, zs ++ [sp], m0 :: M', rfl, hPw31, hNs, (RM6.keep S31).more sp, fun H32 s32 => ⟨true, rfl, iteT ?_⟩⟩
    have Rs32 := Rs.keep s32
    obtain ⟨ws, hws, hwp⟩ := Rs32.at'
    have z8s : ∀ z ∈ zs ++ [sp], z.length ≤ 8 := fun z hz => by
      have := (hNs z hz).most
      rw [cp_len] at this
      exact this
    have fS := Rs.few
    refine ⟨_, rfl, _, rfl, _, rfl, sw, ws, _, rfl, hws, hwp, by omega, fun i hi => (Rs.good i hi).imp (pcs_g8 z8s) 5 i, fun H33 s33 => ?_⟩
    exact ⟨wx, sw, zs ++ [sp], _, rfl, hPw31.keep (s32.trans s33), hNs, Rs32.keep s33, fun H34 s34 => q H34⟩
end
end Sea
namespace Sea
open PySem PySem.Spec PyProof.Rows L2
/-! what the top has left -/
theorem ok_iLn {P : Program} {w : World} {K : PySem.W.Frag} {mg : Str → Option Value} {base : Heap} {C f : Addr} {fd : FuncData} (F : Fun K "__init__" "BadLength.__init__" s_BadLength___init__ f fd) : FnOk P w K mg base CX0 1 f fd ["self", "length"] (spIni K C "length") := by
  refine F.ok sc_BadLength___init__ (fun vs H Q E h => ?_) (fun cdv A outer s H vs Q E hr h => ?_)
  · obtain ⟨a, v, rfl, _⟩ := h
    rfl
  · obtain ⟨a, v, rfl, ox, no, ha, q⟩ := h
    exact ⟨_, pss_one (ps_ost (pv 0) (pv 1)), _, rfl, _, rfl, a, C, rfl, ox, no, .inl ⟨ha, q⟩⟩
theorem ok_iU {P : Program} {w : World} {K : PySem.W.Frag} {mg : Str → Option Value} {base : Heap} {C f : Addr} {fd : FuncData} (F : Fun K "__init__" "BadCue.__init__" s_BadCue___init__ f fd) : FnOk P w K mg base CX0 1 f fd ["self", "number"] (spIni K C "number") := by
  refine F.ok sc_BadCue___init__ (fun vs H Q E h => ?_) (fun cdv A outer s H vs Q E hr h => ?_)
  · obtain ⟨a, v, rfl, _⟩ := h
    rfl
  · obtain ⟨a, v, rfl, ox, no, ha, q⟩ := h
    exact ⟨_, pss_one (ps_ost (pv 0) (pv 1)), _, rfl, _, rfl, a, C, rfl, ox, no, .inl ⟨ha, q⟩⟩
theorem ok_iM {P : Program} {w : World} {K : PySem.W.Frag} {mg : Str → Option Value} {base : Heap} {C f : Addr} {fd : FuncData} (F : Fun K "__init__" "TooMany.__init__" s_TooMany___init__ f fd) : FnOk P w K mg base CX0 1 f fd ["self", "word"] (spIni K C "word") := by
  refine F.ok sc_TooMany___init__ (fun vs H Q E h => ?_) (fun cdv A outer s H vs Q E hr h => ?_)
  · obtain ⟨a, v, rfl, _⟩ := h
    rfl
  · obtain ⟨a, v, rfl, ox, no, ha, q⟩ := h
    exact ⟨_, pss_one (ps_ost (pv 0) (pv 1)), _, rfl, _, rfl, a, C, rfl, ox, no, .inl ⟨ha, q⟩⟩
theorem ok_same4 {P : Program} {w : World} {K : PySem.W.Frag} {mg : Str → Option Value} {base : Heap} {f : Addr} {fd : FuncData} (F : Fun K "_law_same" "_law_same" s__law_same f fd) (m_isinstance : mg "isinstance" = none) (m_tuple : mg "tuple" = none) (m_bool : mg "bool" = none) (m_str : mg "str" = none) (m_int : mg "int" = none)
    (m_len : mg "len" = none) (m_all : mg "all" = none) (m_range : mg "range" = none) (g : mg "_law_same" = some (.ref f)) (kp : PySem.W.keepIn K (.ref f) = true) (b : Binds K fd ["_law_told", "_law_due"] []) :
    FnOk P w K mg base CX0 12 f fd ["_law_told", "_law_due"] (spSame 11) := by
  have f0 : FnOk P w K mg base CX0 0 f fd ["_law_told", "_law_due"] spNever := ⟨fun _ _ _ _ h => h.elim, fun _ _ _ _ _ _ _ _ _ _ _ _ _ h => h.elim⟩
  have step : ∀ {k n : Nat}, FnOk P w K mg base CX0 k f fd ["_law_told", "_law_due"] (spSame n) → FnOk P w K mg base CX0 (k + 1) f fd ["_law_told", "_law_due"] (spSame (n + 1)) := fun {k n} h =>
    ok_same_at F m_isinstance m_tuple m_bool m_str m_int m_len m_all m_range ⟨f, fd, _, h, g, kp, b⟩ fun vs H Q E hs => by
      obtain ⟨x, y, rfl, hw, q⟩ := hs
      refine ⟨x, y, rfl, q, ?_⟩
      rcases hw with hw | ⟨a, b, xs, ys, h1, h2, h3, h4, h5, h6, h7⟩
      · exact .inl hw
      · exact .inr ⟨a, b, xs, ys, h1, h2, h3, h4, h5, h6, fun i u v e1 e2 H1 Q1 E1 s1 q1 => ⟨u, v, rfl, (h7 i u v e1 e2).keep s1, q1⟩⟩
  have f1 : FnOk P w K mg base CX0 1 f fd ["_law_told", "_law_due"] (spSame 0) :=
    ok_same_at F m_isinstance m_tuple m_bool m_str m_int m_len m_all m_range ⟨f, fd, _, f0, g, kp, b⟩ fun vs H Q E hs => by
      obtain ⟨x, y, rfl, hw, q⟩ := hs
      exact ⟨x, y, rfl, q, .inl hw⟩
  exact step (step (step (step (step (step (step (step (step (step (step f1))))))))))
theorem ok_lists5 {P : Program} {w : World} {K : PySem.W.Frag} {mg : Str → Option Value} {base : Heap} {f : Addr} {fd : FuncData} (F : Fun K "_law_lists" "_law_lists" s__law_lists f fd) (m_isinstance : mg "isinstance" = none) (m_list : mg "list" = none) (m_tuple : mg "tuple" = none)
    (g : mg "_law_lists" = some (.ref f)) (kp : PySem.W.keepIn K (.ref f) = true) (b : Binds K fd ["_law_thing"] []) : ∀ ms : List Nat, (∀ m ∈ ms, m ≤ 1000) → FnOk P w K mg base CX0 (ms.length + 1) f fd ["_law_thing"] (spListsL ms)
  | [], h => by
    have f0 : FnOk P w K mg base CX0 0 f fd ["_law_thing"] spNever := ⟨fun _ _ _ _ h => h.elim, fun _ _ _ _ _ _ _ _ _ _ _ _ _ h => h.elim⟩
    exact ok_listsL F m_isinstance m_list m_tuple h ⟨f, fd, _, f0, g, kp, b⟩ fun _ _ e => nomatch e
  | m :: r, h => ok_listsL F m_isinstance m_list m_tuple h ⟨f, fd, _, ok_lists5 F m_isinstance m_list m_tuple g kp b r (fun x hx => h x (List.mem_cons_of_mem _ hx)), g, kp, b⟩ fun _ _ e => by cases e; rfl
theorem all_mk {l : PySem.W.OpenLaw} {w : World} {K : PySem.W.Frag} {h : Heap} {mg : Str → Option Value} {fa CE CLn CU CM CR CP CS CT CRo TD aE aW f_is_integer f_is_within f_items_of f_parts_of f_is_name f_has_percent f_is_text f_cue_of f_judged_cues f_piece_of_form f_judged_pieces f_judged_arrows f_wrong_name f_judged_starts f_judged_ends f_led_to f_first_unreached f_strip_of_piece f_sends_of_piece f_joins f_piece_stretch f_behind_one_another f_repeated f_all_of f_part_of f_repeat_of f_judged_items f_judged_roll f_write_item f_write_roll f_run_end f_stands f_is_times f_read_item f_read_items f_read_roll f__law_tape f__law_pick f__law_some f__law_rarely f__law_names f__law_same f__law_lists f__law_some_names f__law_plan f__law_times f__law_many f__law_items f__law_written f__law_roll f__law_read_back f_law f_iLn f_iU f_iM f_iR f_iP f_iS f_iPt f_iRo f_eqR f_eqP f_eqRo f_shown_of f_strip_of f_followers f_sends_of f_has : Addr} (X : K.In h) (G : h.Ns mainGlobals mg) (hfa : mg "law" = some (.ref fa))
    {od_is_integer an_is_integer od_is_within an_is_within od_items_of an_items_of od_parts_of an_parts_of od_is_name an_is_name od_has_percent an_has_percent od_is_text an_is_text od_cue_of an_cue_of od_judged_cues an_judged_cues od_piece_of_form an_piece_of_form od_judged_pieces an_judged_pieces od_judged_arrows an_judged_arrows od_wrong_name an_wrong_name od_judged_starts an_judged_starts od_judged_ends an_judged_ends od_led_to an_led_to od_first_unreached an_first_unreached od_strip_of_piece an_strip_of_piece od_sends_of_piece an_sends_of_piece od_joins an_joins od_piece_stretch an_piece_stretch od_behind_one_another an_behind_one_another od_repeated an_repeated od_all_of an_all_of od_part_of an_part_of od_repeat_of an_repeat_of od_judged_items an_judged_items od_judged_roll an_judged_roll od_write_item an_write_item od_write_roll an_write_roll od_run_end an_run_end od_stands an_stands od_is_times an_is_times od_read_item an_read_item od_read_items an_read_items od_read_roll an_read_roll od__law_tape an__law_tape od__law_pick an__law_pick od__law_some an__law_some od__law_rarely an__law_rarely od__law_names an__law_names od__law_same an__law_same od__law_lists an__law_lists od__law_some_names an__law_some_names od__law_plan an__law_plan od__law_times an__law_times od__law_many an__law_many od__law_items an__law_items od__law_written an__law_written od__law_roll an__law_roll od__law_read_back an__law_read_back od_law an_law od_iLn an_iLn od_iU an_iU od_iM an_iM od_iR an_iR od_iP an_iP od_iS an_iS od_iPt an_iPt od_iRo an_iRo od_eqR an_eqR od_eqP an_eqP od_eqRo an_eqRo od_shown_of an_shown_of od_strip_of an_strip_of od_followers an_followers od_sends_of an_sends_of od_has an_has : Option Addr} {sl_is_integer sl_is_within sl_items_of sl_parts_of sl_is_name sl_has_percent sl_is_text sl_cue_of sl_judged_cues sl_piece_of_form sl_judged_pieces sl_judged_arrows sl_wrong_name sl_judged_starts sl_judged_ends sl_led_to sl_first_unreached sl_strip_of_piece sl_sends_of_piece sl_joins sl_piece_stretch sl_behind_one_another sl_repeated sl_all_of sl_part_of sl_repeat_of sl_judged_items sl_judged_roll sl_write_item sl_write_roll sl_run_end sl_stands sl_is_times sl_read_item sl_read_items sl_read_roll sl__law_tape sl__law_pick sl__law_some sl__law_rarely sl__law_names sl__law_same sl__law_lists sl__law_some_names sl__law_plan sl__law_times sl__law_many sl__law_items sl__law_written sl__law_roll sl__law_read_back sl_law sl_iLn sl_iU sl_iM sl_iR sl_iP sl_iS sl_iPt sl_iRo sl_eqR sl_eqP sl_eqRo sl_shown_of sl_strip_of sl_followers sl_sends_of sl_has : Array (Option Value)} {oc_is_integer kV_is_integer dc_is_integer pm_is_integer cd_is_integer ct_is_integer oc_is_within kV_is_within dc_is_within pm_is_within cd_is_within ct_is_within oc_items_of kV_items_of dc_items_of pm_items_of cd_items_of ct_items_of oc_parts_of kV_parts_of dc_parts_of pm_parts_of cd_parts_of ct_parts_of oc_is_name kV_is_name dc_is_name pm_is_name cd_is_name ct_is_name oc_has_percent kV_has_percent dc_has_percent pm_has_percent cd_has_percent ct_has_percent oc_is_text kV_is_text dc_is_text pm_is_text cd_is_text ct_is_text oc_cue_of kV_cue_of dc_cue_of pm_cue_of cd_cue_of ct_cue_of oc_judged_cues kV_judged_cues dc_judged_cues pm_judged_cues cd_judged_cues ct_judged_cues oc_piece_of_form kV_piece_of_form dc_piece_of_form pm_piece_of_form cd_piece_of_form ct_piece_of_form oc_judged_pieces kV_judged_pieces dc_judged_pieces pm_judged_pieces cd_judged_pieces ct_judged_pieces oc_judged_arrows kV_judged_arrows dc_judged_arrows pm_judged_arrows cd_judged_arrows ct_judged_arrows oc_wrong_name kV_wrong_name dc_wrong_name pm_wrong_name cd_wrong_name ct_wrong_name oc_judged_starts kV_judged_starts dc_judged_starts pm_judged_starts cd_judged_starts ct_judged_starts oc_judged_ends kV_judged_ends dc_judged_ends pm_judged_ends cd_judged_ends ct_judged_ends oc_led_to kV_led_to dc_led_to pm_led_to cd_led_to ct_led_to oc_first_unreached kV_first_unreached dc_first_unreached pm_first_unreached cd_first_unreached ct_first_unreached oc_strip_of_piece kV_strip_of_piece dc_strip_of_piece pm_strip_of_piece cd_strip_of_piece ct_strip_of_piece oc_sends_of_piece kV_sends_of_piece dc_sends_of_piece pm_sends_of_piece cd_sends_of_piece ct_sends_of_piece oc_joins kV_joins dc_joins pm_joins cd_joins ct_joins oc_piece_stretch kV_piece_stretch dc_piece_stretch pm_piece_stretch cd_piece_stretch ct_piece_stretch oc_behind_one_another kV_behind_one_another dc_behind_one_another pm_behind_one_another cd_behind_one_another ct_behind_one_another oc_repeated kV_repeated dc_repeated pm_repeated cd_repeated ct_repeated oc_all_of kV_all_of dc_all_of pm_all_of cd_all_of ct_all_of oc_part_of kV_part_of dc_part_of pm_part_of cd_part_of ct_part_of oc_repeat_of kV_repeat_of dc_repeat_of pm_repeat_of cd_repeat_of ct_repeat_of oc_judged_items kV_judged_items dc_judged_items pm_judged_items cd_judged_items ct_judged_items oc_judged_roll kV_judged_roll dc_judged_roll pm_judged_roll cd_judged_roll ct_judged_roll oc_write_item kV_write_item dc_write_item pm_write_item cd_write_item ct_write_item oc_write_roll kV_write_roll dc_write_roll pm_write_roll cd_write_roll ct_write_roll oc_run_end kV_run_end dc_run_end pm_run_end cd_run_end ct_run_end oc_stands kV_stands dc_stands pm_stands cd_stands ct_stands oc_is_times kV_is_times dc_is_times pm_is_times cd_is_times ct_is_times oc_read_item kV_read_item dc_read_item pm_read_item cd_read_item ct_read_item oc_read_items kV_read_items dc_read_items pm_read_items cd_read_items ct_read_items oc_read_roll kV_read_roll dc_read_roll pm_read_roll cd_read_roll ct_read_roll oc__law_tape kV__law_tape dc__law_tape pm__law_tape cd__law_tape ct__law_tape oc__law_pick kV__law_pick dc__law_pick pm__law_pick cd__law_pick ct__law_pick oc__law_some kV__law_some dc__law_some pm__law_some cd__law_some ct__law_some oc__law_rarely kV__law_rarely dc__law_rarely pm__law_rarely cd__law_rarely ct__law_rarely oc__law_names kV__law_names dc__law_names pm__law_names cd__law_names ct__law_names oc__law_same kV__law_same dc__law_same pm__law_same cd__law_same ct__law_same oc__law_lists kV__law_lists dc__law_lists pm__law_lists cd__law_lists ct__law_lists oc__law_some_names kV__law_some_names dc__law_some_names pm__law_some_names cd__law_some_names ct__law_some_names oc__law_plan kV__law_plan dc__law_plan pm__law_plan cd__law_plan ct__law_plan oc__law_times kV__law_times dc__law_times pm__law_times cd__law_times ct__law_times oc__law_many kV__law_many dc__law_many pm__law_many cd__law_many ct__law_many oc__law_items kV__law_items dc__law_items pm__law_items cd__law_items ct__law_items oc__law_written kV__law_written dc__law_written pm__law_written cd__law_written ct__law_written oc__law_roll kV__law_roll dc__law_roll pm__law_roll cd__law_roll ct__law_roll oc__law_read_back kV__law_read_back dc__law_read_back pm__law_read_back cd__law_read_back ct__law_read_back oc_law kV_law dc_law pm_law cd_law ct_law oc_iLn kV_iLn dc_iLn pm_iLn cd_iLn ct_iLn oc_iU kV_iU dc_iU pm_iU cd_iU ct_iU oc_iM kV_iM dc_iM pm_iM cd_iM ct_iM oc_iR kV_iR dc_iR pm_iR cd_iR ct_iR oc_iP kV_iP dc_iP pm_iP cd_iP ct_iP oc_iS kV_iS dc_iS pm_iS cd_iS ct_iS oc_iPt kV_iPt dc_iPt pm_iPt cd_iPt ct_iPt oc_iRo kV_iRo dc_iRo pm_iRo cd_iRo ct_iRo oc_eqR kV_eqR dc_eqR pm_eqR cd_eqR ct_eqR oc_eqP kV_eqP dc_eqP pm_eqP cd_eqP ct_eqP oc_eqRo kV_eqRo dc_eqRo pm_eqRo cd_eqRo ct_eqRo oc_shown_of kV_shown_of dc_shown_of pm_shown_of cd_shown_of ct_shown_of oc_strip_of kV_strip_of dc_strip_of pm_strip_of cd_strip_of ct_strip_of oc_followers kV_followers dc_followers pm_followers cd_followers ct_followers oc_sends_of kV_sends_of dc_sends_of pm_sends_of cd_sends_of ct_sends_of oc_has kV_has dc_has pm_has cd_has ct_has : Value} {tP tT tQ tL tD tkPi tRa tOn tW1 tW2 tMD tMI tMG : Tok} {oTD oWA oE : Obj} {nTD nWA nE : Nat}
    {nmLn qLn : Str} {NLn : Addr} {bsLn : List Value} {snLn : List Str} {subLn : List Value} {abLn : Bool} {colLn : Option Bool} {ddLn : Option Addr} {m0Ln m1Ln m2Ln m3Ln m5Ln : Option Value}
    {nmU qU : Str} {NU : Addr} {bsU : List Value} {snU : List Str} {subU : List Value} {abU : Bool} {colU : Option Bool} {ddU : Option Addr} {m0U m1U m2U m3U m5U : Option Value}
    {nmM qM : Str} {NM : Addr} {bsM : List Value} {snM : List Str} {subM : List Value} {abM : Bool} {colM : Option Bool} {ddM : Option Addr} {m0M m1M m2M m3M m5M : Option Value}
    (a_is_integer : PySem.W.nsIn K mainGlobals "is_integer" = some (some (.ref f_is_integer)))
    (l_is_integer : K.lookup f_is_integer = some ⟨oc_is_integer, od_is_integer, .func (PySem.W.fnOf "is_integer" "is_integer" (defArgs s_is_integer) (defBody s_is_integer) (defScope s_is_integer) .none kV_is_integer dc_is_integer pm_is_integer an_is_integer cd_is_integer ct_is_integer), sl_is_integer⟩)
    (c_is_integer_ : PySem.W.codeIn K cd_is_integer "is_integer" = true)
    (k_is_integer : PySem.W.keepIn K (.ref f_is_integer) = true)
    (a_is_within : PySem.W.nsIn K mainGlobals "is_within" = some (some (.ref f_is_within)))
    (l_is_within : K.lookup f_is_within = some ⟨oc_is_within, od_is_within, .func (PySem.W.fnOf "is_within" "is_within" (defArgs s_is_within) (defBody s_is_within) (defScope s_is_within) .none kV_is_within dc_is_within pm_is_within an_is_within cd_is_within ct_is_within), sl_is_within⟩)
    (c_is_within_ : PySem.W.codeIn K cd_is_within "is_within" = true)
    (k_is_within : PySem.W.keepIn K (.ref f_is_within) = true)
    (a_items_of : PySem.W.nsIn K mainGlobals "items_of" = some (some (.ref f_items_of)))
    (l_items_of : K.lookup f_items_of = some ⟨oc_items_of, od_items_of, .func (PySem.W.fnOf "items_of" "items_of" (defArgs s_items_of) (defBody s_items_of) (defScope s_items_of) .none kV_items_of dc_items_of pm_items_of an_items_of cd_items_of ct_items_of), sl_items_of⟩)
    (c_items_of_ : PySem.W.codeIn K cd_items_of "items_of" = true)
    (k_items_of : PySem.W.keepIn K (.ref f_items_of) = true)
    (a_parts_of : PySem.W.nsIn K mainGlobals "parts_of" = some (some (.ref f_parts_of)))
    (l_parts_of : K.lookup f_parts_of = some ⟨oc_parts_of, od_parts_of, .func (PySem.W.fnOf "parts_of" "parts_of" (defArgs s_parts_of) (defBody s_parts_of) (defScope s_parts_of) .none kV_parts_of dc_parts_of pm_parts_of an_parts_of cd_parts_of ct_parts_of), sl_parts_of⟩)
    (c_parts_of_ : PySem.W.codeIn K cd_parts_of "parts_of" = true)
    (k_parts_of : PySem.W.keepIn K (.ref f_parts_of) = true)
    (a_is_name : PySem.W.nsIn K mainGlobals "is_name" = some (some (.ref f_is_name)))
    (l_is_name : K.lookup f_is_name = some ⟨oc_is_name, od_is_name, .func (PySem.W.fnOf "is_name" "is_name" (defArgs s_is_name) (defBody s_is_name) (defScope s_is_name) .none kV_is_name dc_is_name pm_is_name an_is_name cd_is_name ct_is_name), sl_is_name⟩)
    (c_is_name_ : PySem.W.codeIn K cd_is_name "is_name" = true)
    (k_is_name : PySem.W.keepIn K (.ref f_is_name) = true)
    (a_has_percent : PySem.W.nsIn K mainGlobals "has_percent" = some (some (.ref f_has_percent)))
    (l_has_percent : K.lookup f_has_percent = some ⟨oc_has_percent, od_has_percent, .func (PySem.W.fnOf "has_percent" "has_percent" (defArgs s_has_percent) (defBody s_has_percent) (defScope s_has_percent) .none kV_has_percent dc_has_percent pm_has_percent an_has_percent cd_has_percent ct_has_percent), sl_has_percent⟩)
    (c_has_percent_ : PySem.W.codeIn K cd_has_percent "has_percent" = true)
    (k_has_percent : PySem.W.keepIn K (.ref f_has_percent) = true)
    (a_is_text : PySem.W.nsIn K mainGlobals "is_text" = some (some (.ref f_is_text)))
    (l_is_text : K.lookup f_is_text = some ⟨oc_is_text, od_is_text, .func (PySem.W.fnOf "is_text" "is_text" (defArgs s_is_text) (defBody s_is_text) (defScope s_is_text) .none kV_is_text dc_is_text pm_is_text an_is_text cd_is_text ct_is_text), sl_is_text⟩)
    (c_is_text_ : PySem.W.codeIn K cd_is_text "is_text" = true)
    (k_is_text : PySem.W.keepIn K (.ref f_is_text) = true)
    (a_cue_of : PySem.W.nsIn K mainGlobals "cue_of" = some (some (.ref f_cue_of)))
    (l_cue_of : K.lookup f_cue_of = some ⟨oc_cue_of, od_cue_of, .func (PySem.W.fnOf "cue_of" "cue_of" (defArgs s_cue_of) (defBody s_cue_of) (defScope s_cue_of) .none kV_cue_of dc_cue_of pm_cue_of an_cue_of cd_cue_of ct_cue_of), sl_cue_of⟩)
    (c_cue_of_ : PySem.W.codeIn K cd_cue_of "cue_of" = true)
    (k_cue_of : PySem.W.keepIn K (.ref f_cue_of) = true)
    (a_judged_cues : PySem.W.nsIn K mainGlobals "judged_cues" = some (some (.ref f_judged_cues)))
    (l_judged_cues : K.lookup f_judged_cues = some ⟨oc_judged_cues, od_judged_cues, .func (PySem.W.fnOf "judged_cues" "judged_cues" (defArgs s_judged_cues) (defBody s_judged_cues) (defScope s_judged_cues) .none kV_judged_cues dc_judged_cues pm_judged_cues an_judged_cues cd_judged_cues ct_judged_cues), sl_judged_cues⟩)
    (c_judged_cues_ : PySem.W.codeIn K cd_judged_cues "judged_cues" = true)
    (k_judged_cues : PySem.W.keepIn K (.ref f_judged_cues) = true)
    (a_piece_of_form : PySem.W.nsIn K mainGlobals "piece_of_form" = some (some (.ref f_piece_of_form)))
    (l_piece_of_form : K.lookup f_piece_of_form = some ⟨oc_piece_of_form, od_piece_of_form, .func (PySem.W.fnOf "piece_of_form" "piece_of_form" (defArgs s_piece_of_form) (defBody s_piece_of_form) (defScope s_piece_of_form) .none kV_piece_of_form dc_piece_of_form pm_piece_of_form an_piece_of_form cd_piece_of_form ct_piece_of_form), sl_piece_of_form⟩)
    (c_piece_of_form_ : PySem.W.codeIn K cd_piece_of_form "piece_of_form" = true)
    (k_piece_of_form : PySem.W.keepIn K (.ref f_piece_of_form) = true)
    (a_judged_pieces : PySem.W.nsIn K mainGlobals "judged_pieces" = some (some (.ref f_judged_pieces)))
    (l_judged_pieces : K.lookup f_judged_pieces = some ⟨oc_judged_pieces, od_judged_pieces, .func (PySem.W.fnOf "judged_pieces" "judged_pieces" (defArgs s_judged_pieces) (defBody s_judged_pieces) (defScope s_judged_pieces) .none kV_judged_pieces dc_judged_pieces pm_judged_pieces an_judged_pieces cd_judged_pieces ct_judged_pieces), sl_judged_pieces⟩)
    (c_judged_pieces_ : PySem.W.codeIn K cd_judged_pieces "judged_pieces" = true)
    (k_judged_pieces : PySem.W.keepIn K (.ref f_judged_pieces) = true)
    (a_judged_arrows : PySem.W.nsIn K mainGlobals "judged_arrows" = some (some (.ref f_judged_arrows)))
    (l_judged_arrows : K.lookup f_judged_arrows = some ⟨oc_judged_arrows, od_judged_arrows, .func (PySem.W.fnOf "judged_arrows" "judged_arrows" (defArgs s_judged_arrows) (defBody s_judged_arrows) (defScope s_judged_arrows) .none kV_judged_arrows dc_judged_arrows pm_judged_arrows an_judged_arrows cd_judged_arrows ct_judged_arrows), sl_judged_arrows⟩)
    (c_judged_arrows_ : PySem.W.codeIn K cd_judged_arrows "judged_arrows" = true)
    (k_judged_arrows : PySem.W.keepIn K (.ref f_judged_arrows) = true)
    (a_wrong_name : PySem.W.nsIn K mainGlobals "wrong_name" = some (some (.ref f_wrong_name)))
    (l_wrong_name : K.lookup f_wrong_name = some ⟨oc_wrong_name, od_wrong_name, .func (PySem.W.fnOf "wrong_name" "wrong_name" (defArgs s_wrong_name) (defBody s_wrong_name) (defScope s_wrong_name) .none kV_wrong_name dc_wrong_name pm_wrong_name an_wrong_name cd_wrong_name ct_wrong_name), sl_wrong_name⟩)
    (c_wrong_name_ : PySem.W.codeIn K cd_wrong_name "wrong_name" = true)
    (k_wrong_name : PySem.W.keepIn K (.ref f_wrong_name) = true)
    (a_judged_starts : PySem.W.nsIn K mainGlobals "judged_starts" = some (some (.ref f_judged_starts)))
    (l_judged_starts : K.lookup f_judged_starts = some ⟨oc_judged_starts, od_judged_starts, .func (PySem.W.fnOf "judged_starts" "judged_starts" (defArgs s_judged_starts) (defBody s_judged_starts) (defScope s_judged_starts) .none kV_judged_starts dc_judged_starts pm_judged_starts an_judged_starts cd_judged_starts ct_judged_starts), sl_judged_starts⟩)
    (c_judged_starts_ : PySem.W.codeIn K cd_judged_starts "judged_starts" = true)
    (k_judged_starts : PySem.W.keepIn K (.ref f_judged_starts) = true)
    (a_judged_ends : PySem.W.nsIn K mainGlobals "judged_ends" = some (some (.ref f_judged_ends)))
    (l_judged_ends : K.lookup f_judged_ends = some ⟨oc_judged_ends, od_judged_ends, .func (PySem.W.fnOf "judged_ends" "judged_ends" (defArgs s_judged_ends) (defBody s_judged_ends) (defScope s_judged_ends) .none kV_judged_ends dc_judged_ends pm_judged_ends an_judged_ends cd_judged_ends ct_judged_ends), sl_judged_ends⟩)
    (c_judged_ends_ : PySem.W.codeIn K cd_judged_ends "judged_ends" = true)
    (k_judged_ends : PySem.W.keepIn K (.ref f_judged_ends) = true)
    (a_led_to : PySem.W.nsIn K mainGlobals "led_to" = some (some (.ref f_led_to)))
    (l_led_to : K.lookup f_led_to = some ⟨oc_led_to, od_led_to, .func (PySem.W.fnOf "led_to" "led_to" (defArgs s_led_to) (defBody s_led_to) (defScope s_led_to) .none kV_led_to dc_led_to pm_led_to an_led_to cd_led_to ct_led_to), sl_led_to⟩)
    (c_led_to_ : PySem.W.codeIn K cd_led_to "led_to" = true)
    (k_led_to : PySem.W.keepIn K (.ref f_led_to) = true)
    (a_first_unreached : PySem.W.nsIn K mainGlobals "first_unreached" = some (some (.ref f_first_unreached)))
    (l_first_unreached : K.lookup f_first_unreached = some ⟨oc_first_unreached, od_first_unreached, .func (PySem.W.fnOf "first_unreached" "first_unreached" (defArgs s_first_unreached) (defBody s_first_unreached) (defScope s_first_unreached) .none kV_first_unreached dc_first_unreached pm_first_unreached an_first_unreached cd_first_unreached ct_first_unreached), sl_first_unreached⟩)
    (c_first_unreached_ : PySem.W.codeIn K cd_first_unreached "first_unreached" = true)
    (k_first_unreached : PySem.W.keepIn K (.ref f_first_unreached) = true)
    (a_strip_of_piece : PySem.W.nsIn K mainGlobals "strip_of_piece" = some (some (.ref f_strip_of_piece)))
    (l_strip_of_piece : K.lookup f_strip_of_piece = some ⟨oc_strip_of_piece, od_strip_of_piece, .func (PySem.W.fnOf "strip_of_piece" "strip_of_piece" (defArgs s_strip_of_piece) (defBody s_strip_of_piece) (defScope s_strip_of_piece) .none kV_strip_of_piece dc_strip_of_piece pm_strip_of_piece an_strip_of_piece cd_strip_of_piece ct_strip_of_piece), sl_strip_of_piece⟩)
    (c_strip_of_piece_ : PySem.W.codeIn K cd_strip_of_piece "strip_of_piece" = true)
    (k_strip_of_piece : PySem.W.keepIn K (.ref f_strip_of_piece) = true)
    (a_sends_of_piece : PySem.W.nsIn K mainGlobals "sends_of_piece" = some (some (.ref f_sends_of_piece)))
    (l_sends_of_piece : K.lookup f_sends_of_piece = some ⟨oc_sends_of_piece, od_sends_of_piece, .func (PySem.W.fnOf "sends_of_piece" "sends_of_piece" (defArgs s_sends_of_piece) (defBody s_sends_of_piece) (defScope s_sends_of_piece) .none kV_sends_of_piece dc_sends_of_piece pm_sends_of_piece an_sends_of_piece cd_sends_of_piece ct_sends_of_piece), sl_sends_of_piece⟩)
    (c_sends_of_piece_ : PySem.W.codeIn K cd_sends_of_piece "sends_of_piece" = true)
    (k_sends_of_piece : PySem.W.keepIn K (.ref f_sends_of_piece) = true)
    (a_joins : PySem.W.nsIn K mainGlobals "joins" = some (some (.ref f_joins)))
    (l_joins : K.lookup f_joins = some ⟨oc_joins, od_joins, .func (PySem.W.fnOf "joins" "joins" (defArgs s_joins) (defBody s_joins) (defScope s_joins) .none kV_joins dc_joins pm_joins an_joins cd_joins ct_joins), sl_joins⟩)
    (c_joins_ : PySem.W.codeIn K cd_joins "joins" = true)
    (k_joins : PySem.W.keepIn K (.ref f_joins) = true)
    (a_piece_stretch : PySem.W.nsIn K mainGlobals "piece_stretch" = some (some (.ref f_piece_stretch)))
    (l_piece_stretch : K.lookup f_piece_stretch = some ⟨oc_piece_stretch, od_piece_stretch, .func (PySem.W.fnOf "piece_stretch" "piece_stretch" (defArgs s_piece_stretch) (defBody s_piece_stretch) (defScope s_piece_stretch) .none kV_piece_stretch dc_piece_stretch pm_piece_stretch an_piece_stretch cd_piece_stretch ct_piece_stretch), sl_piece_stretch⟩)
    (c_piece_stretch_ : PySem.W.codeIn K cd_piece_stretch "piece_stretch" = true)
    (k_piece_stretch : PySem.W.keepIn K (.ref f_piece_stretch) = true)
    (a_behind_one_another : PySem.W.nsIn K mainGlobals "behind_one_another" = some (some (.ref f_behind_one_another)))
    (l_behind_one_another : K.lookup f_behind_one_another = some ⟨oc_behind_one_another, od_behind_one_another, .func (PySem.W.fnOf "behind_one_another" "behind_one_another" (defArgs s_behind_one_another) (defBody s_behind_one_another) (defScope s_behind_one_another) .none kV_behind_one_another dc_behind_one_another pm_behind_one_another an_behind_one_another cd_behind_one_another ct_behind_one_another), sl_behind_one_another⟩)
    (c_behind_one_another_ : PySem.W.codeIn K cd_behind_one_another "behind_one_another" = true)
    (k_behind_one_another : PySem.W.keepIn K (.ref f_behind_one_another) = true)
    (a_repeated : PySem.W.nsIn K mainGlobals "repeated" = some (some (.ref f_repeated)))
    (l_repeated : K.lookup f_repeated = some ⟨oc_repeated, od_repeated, .func (PySem.W.fnOf "repeated" "repeated" (defArgs s_repeated) (defBody s_repeated) (defScope s_repeated) .none kV_repeated dc_repeated pm_repeated an_repeated cd_repeated ct_repeated), sl_repeated⟩)
    (c_repeated_ : PySem.W.codeIn K cd_repeated "repeated" = true)
    (k_repeated : PySem.W.keepIn K (.ref f_repeated) = true)
    (a_all_of : PySem.W.nsIn K mainGlobals "all_of" = some (some (.ref f_all_of)))
    (l_all_of : K.lookup f_all_of = some ⟨oc_all_of, od_all_of, .func (PySem.W.fnOf "all_of" "all_of" (defArgs s_all_of) (defBody s_all_of) (defScope s_all_of) .none kV_all_of dc_all_of pm_all_of an_all_of cd_all_of ct_all_of), sl_all_of⟩)
    (c_all_of_ : PySem.W.codeIn K cd_all_of "all_of" = true)
    (k_all_of : PySem.W.keepIn K (.ref f_all_of) = true)
    (a_part_of : PySem.W.nsIn K mainGlobals "part_of" = some (some (.ref f_part_of)))
    (l_part_of : K.lookup f_part_of = some ⟨oc_part_of, od_part_of, .func (PySem.W.fnOf "part_of" "part_of" (defArgs s_part_of) (defBody s_part_of) (defScope s_part_of) .none kV_part_of dc_part_of pm_part_of an_part_of cd_part_of ct_part_of), sl_part_of⟩)
    (c_part_of_ : PySem.W.codeIn K cd_part_of "part_of" = true)
    (k_part_of : PySem.W.keepIn K (.ref f_part_of) = true)
    (a_repeat_of : PySem.W.nsIn K mainGlobals "repeat_of" = some (some (.ref f_repeat_of)))
    (l_repeat_of : K.lookup f_repeat_of = some ⟨oc_repeat_of, od_repeat_of, .func (PySem.W.fnOf "repeat_of" "repeat_of" (defArgs s_repeat_of) (defBody s_repeat_of) (defScope s_repeat_of) .none kV_repeat_of dc_repeat_of pm_repeat_of an_repeat_of cd_repeat_of ct_repeat_of), sl_repeat_of⟩)
    (c_repeat_of_ : PySem.W.codeIn K cd_repeat_of "repeat_of" = true)
    (k_repeat_of : PySem.W.keepIn K (.ref f_repeat_of) = true)
    (a_judged_items : PySem.W.nsIn K mainGlobals "judged_items" = some (some (.ref f_judged_items)))
    (l_judged_items : K.lookup f_judged_items = some ⟨oc_judged_items, od_judged_items, .func (PySem.W.fnOf "judged_items" "judged_items" (defArgs s_judged_items) (defBody s_judged_items) (defScope s_judged_items) .none kV_judged_items dc_judged_items pm_judged_items an_judged_items cd_judged_items ct_judged_items), sl_judged_items⟩)
    (c_judged_items_ : PySem.W.codeIn K cd_judged_items "judged_items" = true)
    (k_judged_items : PySem.W.keepIn K (.ref f_judged_items) = true)
    (a_judged_roll : PySem.W.nsIn K mainGlobals "judged_roll" = some (some (.ref f_judged_roll)))
    (l_judged_roll : K.lookup f_judged_roll = some ⟨oc_judged_roll, od_judged_roll, .func (PySem.W.fnOf "judged_roll" "judged_roll" (defArgs s_judged_roll) (defBody s_judged_roll) (defScope s_judged_roll) .none kV_judged_roll dc_judged_roll pm_judged_roll an_judged_roll cd_judged_roll ct_judged_roll), sl_judged_roll⟩)
    (c_judged_roll_ : PySem.W.codeIn K cd_judged_roll "judged_roll" = true)
    (k_judged_roll : PySem.W.keepIn K (.ref f_judged_roll) = true)
    (a_write_item : PySem.W.nsIn K mainGlobals "write_item" = some (some (.ref f_write_item)))
    (l_write_item : K.lookup f_write_item = some ⟨oc_write_item, od_write_item, .func (PySem.W.fnOf "write_item" "write_item" (defArgs s_write_item) (defBody s_write_item) (defScope s_write_item) .none kV_write_item dc_write_item pm_write_item an_write_item cd_write_item ct_write_item), sl_write_item⟩)
    (c_write_item_ : PySem.W.codeIn K cd_write_item "write_item" = true)
    (k_write_item : PySem.W.keepIn K (.ref f_write_item) = true)
    (a_write_roll : PySem.W.nsIn K mainGlobals "write_roll" = some (some (.ref f_write_roll)))
    (l_write_roll : K.lookup f_write_roll = some ⟨oc_write_roll, od_write_roll, .func (PySem.W.fnOf "write_roll" "write_roll" (defArgs s_write_roll) (defBody s_write_roll) (defScope s_write_roll) .none kV_write_roll dc_write_roll pm_write_roll an_write_roll cd_write_roll ct_write_roll), sl_write_roll⟩)
    (c_write_roll_ : PySem.W.codeIn K cd_write_roll "write_roll" = true)
    (k_write_roll : PySem.W.keepIn K (.ref f_write_roll) = true)
    (a_run_end : PySem.W.nsIn K mainGlobals "run_end" = some (some (.ref f_run_end)))
    (l_run_end : K.lookup f_run_end = some ⟨oc_run_end, od_run_end, .func (PySem.W.fnOf "run_end" "run_end" (defArgs s_run_end) (defBody s_run_end) (defScope s_run_end) .none kV_run_end dc_run_end pm_run_end an_run_end cd_run_end ct_run_end), sl_run_end⟩)
    (c_run_end_ : PySem.W.codeIn K cd_run_end "run_end" = true)
    (k_run_end : PySem.W.keepIn K (.ref f_run_end) = true)
    (a_stands : PySem.W.nsIn K mainGlobals "stands" = some (some (.ref f_stands)))
    (l_stands : K.lookup f_stands = some ⟨oc_stands, od_stands, .func (PySem.W.fnOf "stands" "stands" (defArgs s_stands) (defBody s_stands) (defScope s_stands) .none kV_stands dc_stands pm_stands an_stands cd_stands ct_stands), sl_stands⟩)
    (c_stands_ : PySem.W.codeIn K cd_stands "stands" = true)
    (k_stands : PySem.W.keepIn K (.ref f_stands) = true)
    (a_is_times : PySem.W.nsIn K mainGlobals "is_times" = some (some (.ref f_is_times)))
    (l_is_times : K.lookup f_is_times = some ⟨oc_is_times, od_is_times, .func (PySem.W.fnOf "is_times" "is_times" (defArgs s_is_times) (defBody s_is_times) (defScope s_is_times) .none kV_is_times dc_is_times pm_is_times an_is_times cd_is_times ct_is_times), sl_is_times⟩)
    (c_is_times_ : PySem.W.codeIn K cd_is_times "is_times" = true)
    (k_is_times : PySem.W.keepIn K (.ref f_is_times) = true)
    (a_read_item : PySem.W.nsIn K mainGlobals "read_item" = some (some (.ref f_read_item)))
    (l_read_item : K.lookup f_read_item = some ⟨oc_read_item, od_read_item, .func (PySem.W.fnOf "read_item" "read_item" (defArgs s_read_item) (defBody s_read_item) (defScope s_read_item) .none kV_read_item dc_read_item pm_read_item an_read_item cd_read_item ct_read_item), sl_read_item⟩)
    (c_read_item_ : PySem.W.codeIn K cd_read_item "read_item" = true)
    (k_read_item : PySem.W.keepIn K (.ref f_read_item) = true)
    (a_read_items : PySem.W.nsIn K mainGlobals "read_items" = some (some (.ref f_read_items)))
    (l_read_items : K.lookup f_read_items = some ⟨oc_read_items, od_read_items, .func (PySem.W.fnOf "read_items" "read_items" (defArgs s_read_items) (defBody s_read_items) (defScope s_read_items) .none kV_read_items dc_read_items pm_read_items an_read_items cd_read_items ct_read_items), sl_read_items⟩)
    (c_read_items_ : PySem.W.codeIn K cd_read_items "read_items" = true)
    (k_read_items : PySem.W.keepIn K (.ref f_read_items) = true)
    (a_read_roll : PySem.W.nsIn K mainGlobals "read_roll" = some (some (.ref f_read_roll)))
    (l_read_roll : K.lookup f_read_roll = some ⟨oc_read_roll, od_read_roll, .func (PySem.W.fnOf "read_roll" "read_roll" (defArgs s_read_roll) (defBody s_read_roll) (defScope s_read_roll) .none kV_read_roll dc_read_roll pm_read_roll an_read_roll cd_read_roll ct_read_roll), sl_read_roll⟩)
    (c_read_roll_ : PySem.W.codeIn K cd_read_roll "read_roll" = true)
    (k_read_roll : PySem.W.keepIn K (.ref f_read_roll) = true)
    (a__law_tape : PySem.W.nsIn K mainGlobals "_law_tape" = some (some (.ref f__law_tape)))
    (l__law_tape : K.lookup f__law_tape = some ⟨oc__law_tape, od__law_tape, .func (PySem.W.fnOf "_law_tape" "_law_tape" (defArgs s__law_tape) (defBody s__law_tape) (defScope s__law_tape) .none kV__law_tape dc__law_tape pm__law_tape an__law_tape cd__law_tape ct__law_tape), sl__law_tape⟩)
    (c__law_tape_ : PySem.W.codeIn K cd__law_tape "_law_tape" = true)
    (k__law_tape : PySem.W.keepIn K (.ref f__law_tape) = true)
    (a__law_pick : PySem.W.nsIn K mainGlobals "_law_pick" = some (some (.ref f__law_pick)))
    (l__law_pick : K.lookup f__law_pick = some ⟨oc__law_pick, od__law_pick, .func (PySem.W.fnOf "_law_pick" "_law_pick" (defArgs s__law_pick) (defBody s__law_pick) (defScope s__law_pick) .none kV__law_pick dc__law_pick pm__law_pick an__law_pick cd__law_pick ct__law_pick), sl__law_pick⟩)
    (c__law_pick_ : PySem.W.codeIn K cd__law_pick "_law_pick" = true)
    (k__law_pick : PySem.W.keepIn K (.ref f__law_pick) = true)
    (a__law_some : PySem.W.nsIn K mainGlobals "_law_some" = some (some (.ref f__law_some)))
    (l__law_some : K.lookup f__law_some = some ⟨oc__law_some, od__law_some, .func (PySem.W.fnOf "_law_some" "_law_some" (defArgs s__law_some) (defBody s__law_some) (defScope s__law_some) .none kV__law_some dc__law_some pm__law_some an__law_some cd__law_some ct__law_some), sl__law_some⟩)
    (c__law_some_ : PySem.W.codeIn K cd__law_some "_law_some" = true)
    (k__law_some : PySem.W.keepIn K (.ref f__law_some) = true)
    (a__law_rarely : PySem.W.nsIn K mainGlobals "_law_rarely" = some (some (.ref f__law_rarely)))
    (l__law_rarely : K.lookup f__law_rarely = some ⟨oc__law_rarely, od__law_rarely, .func (PySem.W.fnOf "_law_rarely" "_law_rarely" (defArgs s__law_rarely) (defBody s__law_rarely) (defScope s__law_rarely) .none kV__law_rarely dc__law_rarely pm__law_rarely an__law_rarely cd__law_rarely ct__law_rarely), sl__law_rarely⟩)
    (c__law_rarely_ : PySem.W.codeIn K cd__law_rarely "_law_rarely" = true)
    (k__law_rarely : PySem.W.keepIn K (.ref f__law_rarely) = true)
    (a__law_names : PySem.W.nsIn K mainGlobals "_law_names" = some (some (.ref f__law_names)))
    (l__law_names : K.lookup f__law_names = some ⟨oc__law_names, od__law_names, .func (PySem.W.fnOf "_law_names" "_law_names" (defArgs s__law_names) (defBody s__law_names) (defScope s__law_names) .none kV__law_names dc__law_names pm__law_names an__law_names cd__law_names ct__law_names), sl__law_names⟩)
    (c__law_names_ : PySem.W.codeIn K cd__law_names "_law_names" = true)
    (k__law_names : PySem.W.keepIn K (.ref f__law_names) = true)
    (a__law_same : PySem.W.nsIn K mainGlobals "_law_same" = some (some (.ref f__law_same)))
    (l__law_same : K.lookup f__law_same = some ⟨oc__law_same, od__law_same, .func (PySem.W.fnOf "_law_same" "_law_same" (defArgs s__law_same) (defBody s__law_same) (defScope s__law_same) .none kV__law_same dc__law_same pm__law_same an__law_same cd__law_same ct__law_same), sl__law_same⟩)
    (c__law_same_ : PySem.W.codeIn K cd__law_same "_law_same" = true)
    (k__law_same : PySem.W.keepIn K (.ref f__law_same) = true)
    (a__law_lists : PySem.W.nsIn K mainGlobals "_law_lists" = some (some (.ref f__law_lists)))
    (l__law_lists : K.lookup f__law_lists = some ⟨oc__law_lists, od__law_lists, .func (PySem.W.fnOf "_law_lists" "_law_lists" (defArgs s__law_lists) (defBody s__law_lists) (defScope s__law_lists) .none kV__law_lists dc__law_lists pm__law_lists an__law_lists cd__law_lists ct__law_lists), sl__law_lists⟩)
    (c__law_lists_ : PySem.W.codeIn K cd__law_lists "_law_lists" = true)
    (k__law_lists : PySem.W.keepIn K (.ref f__law_lists) = true)
    (a__law_some_names : PySem.W.nsIn K mainGlobals "_law_some_names" = some (some (.ref f__law_some_names)))
    (l__law_some_names : K.lookup f__law_some_names = some ⟨oc__law_some_names, od__law_some_names, .func (PySem.W.fnOf "_law_some_names" "_law_some_names" (defArgs s__law_some_names) (defBody s__law_some_names) (defScope s__law_some_names) .none kV__law_some_names dc__law_some_names pm__law_some_names an__law_some_names cd__law_some_names ct__law_some_names), sl__law_some_names⟩)
    (c__law_some_names_ : PySem.W.codeIn K cd__law_some_names "_law_some_names" = true)
    (k__law_some_names : PySem.W.keepIn K (.ref f__law_some_names) = true)
    (a__law_plan : PySem.W.nsIn K mainGlobals "_law_plan" = some (some (.ref f__law_plan)))
    (l__law_plan : K.lookup f__law_plan = some ⟨oc__law_plan, od__law_plan, .func (PySem.W.fnOf "_law_plan" "_law_plan" (defArgs s__law_plan) (defBody s__law_plan) (defScope s__law_plan) .none kV__law_plan dc__law_plan pm__law_plan an__law_plan cd__law_plan ct__law_plan), sl__law_plan⟩)
    (c__law_plan_ : PySem.W.codeIn K cd__law_plan "_law_plan" = true)
    (k__law_plan : PySem.W.keepIn K (.ref f__law_plan) = true)
    (a__law_times : PySem.W.nsIn K mainGlobals "_law_times" = some (some (.ref f__law_times)))
    (l__law_times : K.lookup f__law_times = some ⟨oc__law_times, od__law_times, .func (PySem.W.fnOf "_law_times" "_law_times" (defArgs s__law_times) (defBody s__law_times) (defScope s__law_times) .none kV__law_times dc__law_times pm__law_times an__law_times cd__law_times ct__law_times), sl__law_times⟩)
    (c__law_times_ : PySem.W.codeIn K cd__law_times "_law_times" = true)
    (k__law_times : PySem.W.keepIn K (.ref f__law_times) = true)
    (a__law_many : PySem.W.nsIn K mainGlobals "_law_many" = some (some (.ref f__law_many)))
    (l__law_many : K.lookup f__law_many = some ⟨oc__law_many, od__law_many, .func (PySem.W.fnOf "_law_many" "_law_many" (defArgs s__law_many) (defBody s__law_many) (defScope s__law_many) .none kV__law_many dc__law_many pm__law_many an__law_many cd__law_many ct__law_many), sl__law_many⟩)
    (c__law_many_ : PySem.W.codeIn K cd__law_many "_law_many" = true)
    (k__law_many : PySem.W.keepIn K (.ref f__law_many) = true)
    (a__law_items : PySem.W.nsIn K mainGlobals "_law_items" = some (some (.ref f__law_items)))
    (l__law_items : K.lookup f__law_items = some ⟨oc__law_items, od__law_items, .func (PySem.W.fnOf "_law_items" "_law_items" (defArgs s__law_items) (defBody s__law_items) (defScope s__law_items) .none kV__law_items dc__law_items pm__law_items an__law_items cd__law_items ct__law_items), sl__law_items⟩)
    (c__law_items_ : PySem.W.codeIn K cd__law_items "_law_items" = true)
    (k__law_items : PySem.W.keepIn K (.ref f__law_items) = true)
    (a__law_written : PySem.W.nsIn K mainGlobals "_law_written" = some (some (.ref f__law_written)))
    (l__law_written : K.lookup f__law_written = some ⟨oc__law_written, od__law_written, .func (PySem.W.fnOf "_law_written" "_law_written" (defArgs s__law_written) (defBody s__law_written) (defScope s__law_written) .none kV__law_written dc__law_written pm__law_written an__law_written cd__law_written ct__law_written), sl__law_written⟩)
    (c__law_written_ : PySem.W.codeIn K cd__law_written "_law_written" = true)
    (k__law_written : PySem.W.keepIn K (.ref f__law_written) = true)
    (a__law_roll : PySem.W.nsIn K mainGlobals "_law_roll" = some (some (.ref f__law_roll)))
    (l__law_roll : K.lookup f__law_roll = some ⟨oc__law_roll, od__law_roll, .func (PySem.W.fnOf "_law_roll" "_law_roll" (defArgs s__law_roll) (defBody s__law_roll) (defScope s__law_roll) .none kV__law_roll dc__law_roll pm__law_roll an__law_roll cd__law_roll ct__law_roll), sl__law_roll⟩)
    (c__law_roll_ : PySem.W.codeIn K cd__law_roll "_law_roll" = true)
    (k__law_roll : PySem.W.keepIn K (.ref f__law_roll) = true)
    (a__law_read_back : PySem.W.nsIn K mainGlobals "_law_read_back" = some (some (.ref f__law_read_back)))
    (l__law_read_back : K.lookup f__law_read_back = some ⟨oc__law_read_back, od__law_read_back, .func (PySem.W.fnOf "_law_read_back" "_law_read_back" (defArgs s__law_read_back) (defBody s__law_read_back) (defScope s__law_read_back) .none kV__law_read_back dc__law_read_back pm__law_read_back an__law_read_back cd__law_read_back ct__law_read_back), sl__law_read_back⟩)
    (c__law_read_back_ : PySem.W.codeIn K cd__law_read_back "_law_read_back" = true)
    (k__law_read_back : PySem.W.keepIn K (.ref f__law_read_back) = true)
    (a_law : PySem.W.nsIn K mainGlobals "law" = some (some (.ref f_law)))
    (l_law : K.lookup f_law = some ⟨oc_law, od_law, .func (PySem.W.fnOf "law" "law" (defArgs s_law) (defBody s_law) (defScope s_law) .none kV_law dc_law pm_law an_law cd_law ct_law), sl_law⟩)
    (c_law_ : PySem.W.codeIn K cd_law "law" = true)
    (k_law : PySem.W.keepIn K (.ref f_law) = true)
    (aCE : PySem.W.nsIn K mainGlobals "CaptionError" = some (some (.ref CE)))
    (aLn : PySem.W.nsIn K mainGlobals "BadLength" = some (some (.ref CLn)))
    (xLn_ : K.lookup CLn = some (excClassObj nmLn qLn CLn NLn bsLn [.ref CE, .type "ValueError", .type "Exception", .type "BaseException", .type "object"] true snLn subLn abLn colLn ddLn m0Ln m1Ln m2Ln m3Ln m5Ln "ValueError.__new__"))
    (saLn : PySem.W.findIn K (.ref CLn) "__setattr__" = some (some (.builtin "object.__setattr__")))
    (eLn : PySem.W.subIn K (.ref CLn) (.type "BaseException") = some true)
    (tLn : PySem.W.typeIn K (.ref CLn) = some (.type "type"))
    (kpLn : PySem.W.keepIn K (.ref CLn) = true)
    (inLn : PySem.W.findIn K (.ref CLn) "__init__" = some (some (.ref f_iLn)))
    (tILn : PySem.W.typeIn K (.ref f_iLn) = some (.type "function"))
    (noLn : PySem.W.findIn K (.ref CLn) "length" = some none)
    (iLn : PySem.W.isClsIn K CLn = true)
    (gaLn : PySem.W.findIn K (.ref CLn) "__getattribute__" = some (some (.builtin "BaseException.__getattribute__")))
    (ggLn : PySem.W.findIn K (.ref CLn) "__getattr__" = some none)
    (klLn : PySem.W.findIn K (.ref CLn) "__class__" = some (some (.builtin "object.__class__")))
    (mrLn : PySem.W.mroIn K CLn (.type "object") = some true)
    (hdLn : PySem.W.hasDictIn K CLn = true)
    (l_iLn : K.lookup f_iLn = some ⟨oc_iLn, od_iLn, .func (PySem.W.fnOf "__init__" "BadLength.__init__" (defArgs s_BadLength___init__) (defBody s_BadLength___init__) (defScope s_BadLength___init__) .none kV_iLn dc_iLn pm_iLn an_iLn cd_iLn ct_iLn), sl_iLn⟩)
    (c_iLn_ : PySem.W.codeIn K cd_iLn "BadLength.__init__" = true)
    (k_iLn : PySem.W.keepIn K (.ref f_iLn) = true)
    (aU : PySem.W.nsIn K mainGlobals "BadCue" = some (some (.ref CU)))
    (xU_ : K.lookup CU = some (excClassObj nmU qU CU NU bsU [.ref CE, .type "ValueError", .type "Exception", .type "BaseException", .type "object"] true snU subU abU colU ddU m0U m1U m2U m3U m5U "ValueError.__new__"))
    (saU : PySem.W.findIn K (.ref CU) "__setattr__" = some (some (.builtin "object.__setattr__")))
    (eU : PySem.W.subIn K (.ref CU) (.type "BaseException") = some true)
    (tU : PySem.W.typeIn K (.ref CU) = some (.type "type"))
    (kpU : PySem.W.keepIn K (.ref CU) = true)
    (inU : PySem.W.findIn K (.ref CU) "__init__" = some (some (.ref f_iU)))
    (tIU : PySem.W.typeIn K (.ref f_iU) = some (.type "function"))
    (noU : PySem.W.findIn K (.ref CU) "number" = some none)
    (iU : PySem.W.isClsIn K CU = true)
    (gaU : PySem.W.findIn K (.ref CU) "__getattribute__" = some (some (.builtin "BaseException.__getattribute__")))
    (ggU : PySem.W.findIn K (.ref CU) "__getattr__" = some none)
    (klU : PySem.W.findIn K (.ref CU) "__class__" = some (some (.builtin "object.__class__")))
    (mrU : PySem.W.mroIn K CU (.type "object") = some true)
    (hdU : PySem.W.hasDictIn K CU = true)
    (l_iU : K.lookup f_iU = some ⟨oc_iU, od_iU, .func (PySem.W.fnOf "__init__" "BadCue.__init__" (defArgs s_BadCue___init__) (defBody s_BadCue___init__) (defScope s_BadCue___init__) .none kV_iU dc_iU pm_iU an_iU cd_iU ct_iU), sl_iU⟩)
    (c_iU_ : PySem.W.codeIn K cd_iU "BadCue.__init__" = true)
    (k_iU : PySem.W.keepIn K (.ref f_iU) = true)
    (aM : PySem.W.nsIn K mainGlobals "TooMany" = some (some (.ref CM)))
    (xM_ : K.lookup CM = some (excClassObj nmM qM CM NM bsM [.ref CE, .type "ValueError", .type "Exception", .type "BaseException", .type "object"] true snM subM abM colM ddM m0M m1M m2M m3M m5M "ValueError.__new__"))
    (saM : PySem.W.findIn K (.ref CM) "__setattr__" = some (some (.builtin "object.__setattr__")))
    (eM : PySem.W.subIn K (.ref CM) (.type "BaseException") = some true)
    (tM : PySem.W.typeIn K (.ref CM) = some (.type "type"))
    (kpM : PySem.W.keepIn K (.ref CM) = true)
    (inM : PySem.W.findIn K (.ref CM) "__init__" = some (some (.ref f_iM)))
    (tIM : PySem.W.typeIn K (.ref f_iM) = some (.type "function"))
    (noM : PySem.W.findIn K (.ref CM) "word" = some none)
    (iM : PySem.W.isClsIn K CM = true)
    (gaM : PySem.W.findIn K (.ref CM) "__getattribute__" = some (some (.builtin "BaseException.__getattribute__")))
    (ggM : PySem.W.findIn K (.ref CM) "__getattr__" = some none)
    (klM : PySem.W.findIn K (.ref CM) "__class__" = some (some (.builtin "object.__class__")))
    (mrM : PySem.W.mroIn K CM (.type "object") = some true)
    (hdM : PySem.W.hasDictIn K CM = true)
    (l_iM : K.lookup f_iM = some ⟨oc_iM, od_iM, .func (PySem.W.fnOf "__init__" "TooMany.__init__" (defArgs s_TooMany___init__) (defBody s_TooMany___init__) (defScope s_TooMany___init__) .none kV_iM dc_iM pm_iM an_iM cd_iM ct_iM), sl_iM⟩)
    (c_iM_ : PySem.W.codeIn K cd_iM "TooMany.__init__" = true)
    (k_iM : PySem.W.keepIn K (.ref f_iM) = true)
    (gt : PySem.W.specialIn K (.builtin "object.__class__") "__get__" = some (some (.builtin "getset_descriptor.__get__")))
    (tk : PySem.W.takesIn K (.builtin "object.__class__") = some true)
    (aCR : PySem.W.nsIn K mainGlobals "Reel" = some (some (.ref CR)))
    (pgCR : PySem.W.plainGet K CR Str.empty = true)
    (hdCR : PySem.W.hasDictIn K CR = true)
    (poCR : PySem.W.plainOver K CR = true)
    (saCR : PySem.W.findIn K (.ref CR) "__setattr__" = some (some (.builtin "object.__setattr__")))
    (mkCR : PySem.W.makesIn K CR = true)
    (inCR : PySem.W.findIn K (.ref CR) "__init__" = some (some (.ref f_iR)))
    (fnCR : PySem.W.isFn K (.ref f_iR) = true)
    (kpCR : PySem.W.keepIn K (.ref CR) = true)
    (nCR_length : PySem.W.findIn K (.ref CR) "length" = some none)
    (nCR_cues : PySem.W.findIn K (.ref CR) "cues" = some none)
    (nCR__speakers : PySem.W.findIn K (.ref CR) "_speakers" = some none)
    (nCR__naming : PySem.W.findIn K (.ref CR) "_naming" = some none)
    (l_iR : K.lookup f_iR = some ⟨oc_iR, od_iR, .func (PySem.W.fnOf "__init__" "Reel.__init__" (defArgs s_Reel___init__) (defBody s_Reel___init__) (defScope s_Reel___init__) (.ref TD) kV_iR dc_iR pm_iR an_iR cd_iR ct_iR), sl_iR⟩)
    (c_iR_ : PySem.W.codeIn K cd_iR "Reel.__init__" = true)
    (k_iR : PySem.W.keepIn K (.ref f_iR) = true)
    (aCP : PySem.W.nsIn K mainGlobals "Plan" = some (some (.ref CP)))
    (pgCP : PySem.W.plainGet K CP Str.empty = true)
    (hdCP : PySem.W.hasDictIn K CP = true)
    (poCP : PySem.W.plainOver K CP = true)
    (saCP : PySem.W.findIn K (.ref CP) "__setattr__" = some (some (.builtin "object.__setattr__")))
    (mkCP : PySem.W.makesIn K CP = true)
    (inCP : PySem.W.findIn K (.ref CP) "__init__" = some (some (.ref f_iP)))
    (fnCP : PySem.W.isFn K (.ref f_iP) = true)
    (kpCP : PySem.W.keepIn K (.ref CP) = true)
    (nCP_reel : PySem.W.findIn K (.ref CP) "reel" = some none)
    (nCP_pieces : PySem.W.findIn K (.ref CP) "pieces" = some none)
    (nCP__names : PySem.W.findIn K (.ref CP) "_names" = some none)
    (nCP_arrows : PySem.W.findIn K (.ref CP) "arrows" = some none)
    (nCP_starts : PySem.W.findIn K (.ref CP) "starts" = some none)
    (nCP_ends : PySem.W.findIn K (.ref CP) "ends" = some none)
    (nCP__grain : PySem.W.findIn K (.ref CP) "_grain" = some none)
    (nCP__pieces : PySem.W.findIn K (.ref CP) "_pieces" = some none)
    (nCP__sends : PySem.W.findIn K (.ref CP) "_sends" = some none)
    (nCP__factors : PySem.W.findIn K (.ref CP) "_factors" = some none)
    (nCP__shown : PySem.W.findIn K (.ref CP) "_shown" = some none)
    (nCP__behind : PySem.W.findIn K (.ref CP) "_behind" = some none)
    (nCP__strips : PySem.W.findIn K (.ref CP) "_strips" = some none)
    (l_iP : K.lookup f_iP = some ⟨oc_iP, od_iP, .func (PySem.W.fnOf "__init__" "Plan.__init__" (defArgs s_Plan___init__) (defBody s_Plan___init__) (defScope s_Plan___init__) .none kV_iP dc_iP pm_iP an_iP cd_iP ct_iP), sl_iP⟩)
    (c_iP_ : PySem.W.codeIn K cd_iP "Plan.__init__" = true)
    (k_iP : PySem.W.keepIn K (.ref f_iP) = true)
    (aCS : PySem.W.nsIn K mainGlobals "Stretch" = some (some (.ref CS)))
    (pgCS : PySem.W.plainGet K CS Str.empty = true)
    (hdCS : PySem.W.hasDictIn K CS = true)
    (poCS : PySem.W.plainOver K CS = true)
    (saCS : PySem.W.findIn K (.ref CS) "__setattr__" = some (some (.builtin "object.__setattr__")))
    (mkCS : PySem.W.makesIn K CS = true)
    (inCS : PySem.W.findIn K (.ref CS) "__init__" = some (some (.ref f_iS)))
    (fnCS : PySem.W.isFn K (.ref f_iS) = true)
    (kpCS : PySem.W.keepIn K (.ref CS) = true)
    (nCS_first : PySem.W.findIn K (.ref CS) "first" = some none)
    (nCS_last : PySem.W.findIn K (.ref CS) "last" = some none)
    (nCS_linked : PySem.W.findIn K (.ref CS) "linked" = some none)
    (nCS_many : PySem.W.findIn K (.ref CS) "many" = some none)
    (nCS_grains : PySem.W.findIn K (.ref CS) "grains" = some none)
    (nCS_shows : PySem.W.findIn K (.ref CS) "shows" = some none)
    (nCS_sent : PySem.W.findIn K (.ref CS) "sent" = some none)
    (nCS_head : PySem.W.findIn K (.ref CS) "head" = some none)
    (nCS_tail : PySem.W.findIn K (.ref CS) "tail" = some none)
    (l_iS : K.lookup f_iS = some ⟨oc_iS, od_iS, .func (PySem.W.fnOf "__init__" "Stretch.__init__" (defArgs s_Stretch___init__) (defBody s_Stretch___init__) (defScope s_Stretch___init__) .none kV_iS dc_iS pm_iS an_iS cd_iS ct_iS), sl_iS⟩)
    (c_iS_ : PySem.W.codeIn K cd_iS "Stretch.__init__" = true)
    (k_iS : PySem.W.keepIn K (.ref f_iS) = true)
    (aCT : PySem.W.nsIn K mainGlobals "Part" = some (some (.ref CT)))
    (pgCT : PySem.W.plainGet K CT Str.empty = true)
    (hdCT : PySem.W.hasDictIn K CT = true)
    (poCT : PySem.W.plainOver K CT = true)
    (saCT : PySem.W.findIn K (.ref CT) "__setattr__" = some (some (.builtin "object.__setattr__")))
    (mkCT : PySem.W.makesIn K CT = true)
    (inCT : PySem.W.findIn K (.ref CT) "__init__" = some (some (.ref f_iPt)))
    (fnCT : PySem.W.isFn K (.ref f_iPt) = true)
    (kpCT : PySem.W.keepIn K (.ref CT) = true)
    (nCT_name : PySem.W.findIn K (.ref CT) "name" = some none)
    (nCT_times : PySem.W.findIn K (.ref CT) "times" = some none)
    (nCT_parts : PySem.W.findIn K (.ref CT) "parts" = some none)
    (nCT_body : PySem.W.findIn K (.ref CT) "body" = some none)
    (nCT_whole : PySem.W.findIn K (.ref CT) "whole" = some none)
    (l_iPt : K.lookup f_iPt = some ⟨oc_iPt, od_iPt, .func (PySem.W.fnOf "__init__" "Part.__init__" (defArgs s_Part___init__) (defBody s_Part___init__) (defScope s_Part___init__) .none kV_iPt dc_iPt pm_iPt an_iPt cd_iPt ct_iPt), sl_iPt⟩)
    (c_iPt_ : PySem.W.codeIn K cd_iPt "Part.__init__" = true)
    (k_iPt : PySem.W.keepIn K (.ref f_iPt) = true)
    (aCRo : PySem.W.nsIn K mainGlobals "Roll" = some (some (.ref CRo)))
    (pgCRo : PySem.W.plainGet K CRo Str.empty = true)
    (hdCRo : PySem.W.hasDictIn K CRo = true)
    (poCRo : PySem.W.plainOver K CRo = true)
    (saCRo : PySem.W.findIn K (.ref CRo) "__setattr__" = some (some (.builtin "object.__setattr__")))
    (mkCRo : PySem.W.makesIn K CRo = true)
    (inCRo : PySem.W.findIn K (.ref CRo) "__init__" = some (some (.ref f_iRo)))
    (fnCRo : PySem.W.isFn K (.ref f_iRo) = true)
    (kpCRo : PySem.W.keepIn K (.ref CRo) = true)
    (nCRo_plan : PySem.W.findIn K (.ref CRo) "plan" = some none)
    (nCRo_written : PySem.W.findIn K (.ref CRo) "written" = some none)
    (nCRo__parts : PySem.W.findIn K (.ref CRo) "_parts" = some none)
    (nCRo__whole : PySem.W.findIn K (.ref CRo) "_whole" = some none)
    (l_iRo : K.lookup f_iRo = some ⟨oc_iRo, od_iRo, .func (PySem.W.fnOf "__init__" "Roll.__init__" (defArgs s_Roll___init__) (defBody s_Roll___init__) (defScope s_Roll___init__) .none kV_iRo dc_iRo pm_iRo an_iRo cd_iRo ct_iRo), sl_iRo⟩)
    (c_iRo_ : PySem.W.codeIn K cd_iRo "Roll.__init__" = true)
    (k_iRo : PySem.W.keepIn K (.ref f_iRo) = true)
    (klCR : PySem.W.findIn K (.ref CR) "__class__" = some (some (.builtin "object.__class__")))
    (mrCR : PySem.W.mroIn K CR (.type "object") = some true)
    (klCP : PySem.W.findIn K (.ref CP) "__class__" = some (some (.builtin "object.__class__")))
    (mrCP : PySem.W.mroIn K CP (.type "object") = some true)
    (klCRo : PySem.W.findIn K (.ref CRo) "__class__" = some (some (.builtin "object.__class__")))
    (mrCRo : PySem.W.mroIn K CRo (.type "object") = some true)
    (nRS : CRo ≠ CS)
    (nRT : CRo ≠ CT)
    (lTD : K.lookup TD = some oTD)
    (dTD : oTD.data = .seq #[.ref aE] nTD)
    (lE : K.lookup aE = some oE)
    (clE : oE.cls = .type "tuple")
    (dE : oE.data = .seq #[] nE)
    (rdCP : PySem.W.readsIn K CP (.type "type") = true)
    (gaCP : PySem.W.specialIn K (.ref CP) "__getattribute__" = some (some (.builtin "type.__getattribute__")))
    (fWA : PySem.W.findCls K (.ref CP) (.type "type") "WAYS" = some (.val (.ref aW)))
    (lWA : K.lookup aW = some oWA)
    (clWA : oWA.cls = .type "tuple")
    (dWA : oWA.data = .seq #[.str (Str.ofString "on") tW1, .str (Str.ofString "back") tW2] nWA)
    (a_eqR : PySem.W.findIn K (.ref CR) "__eq__" = some (some (.ref f_eqR)))
    (i_eqR : PySem.W.isFn K (.ref f_eqR) = true)
    (l_eqR : K.lookup f_eqR = some ⟨oc_eqR, od_eqR, .func (PySem.W.fnOf "__eq__" "Reel.__eq__" (defArgs s_Reel___eq__) (defBody s_Reel___eq__) (defScope s_Reel___eq__) .none kV_eqR dc_eqR pm_eqR an_eqR cd_eqR ct_eqR), sl_eqR⟩)
    (c_eqR_ : PySem.W.codeIn K cd_eqR "Reel.__eq__" = true)
    (k_eqR : PySem.W.keepIn K (.ref f_eqR) = true)
    (a_eqP : PySem.W.findIn K (.ref CP) "__eq__" = some (some (.ref f_eqP)))
    (i_eqP : PySem.W.isFn K (.ref f_eqP) = true)
    (l_eqP : K.lookup f_eqP = some ⟨oc_eqP, od_eqP, .func (PySem.W.fnOf "__eq__" "Plan.__eq__" (defArgs s_Plan___eq__) (defBody s_Plan___eq__) (defScope s_Plan___eq__) .none kV_eqP dc_eqP pm_eqP an_eqP cd_eqP ct_eqP), sl_eqP⟩)
    (c_eqP_ : PySem.W.codeIn K cd_eqP "Plan.__eq__" = true)
    (k_eqP : PySem.W.keepIn K (.ref f_eqP) = true)
    (a_eqRo : PySem.W.findIn K (.ref CRo) "__eq__" = some (some (.ref f_eqRo)))
    (i_eqRo : PySem.W.isFn K (.ref f_eqRo) = true)
    (l_eqRo : K.lookup f_eqRo = some ⟨oc_eqRo, od_eqRo, .func (PySem.W.fnOf "__eq__" "Roll.__eq__" (defArgs s_Roll___eq__) (defBody s_Roll___eq__) (defScope s_Roll___eq__) .none kV_eqRo dc_eqRo pm_eqRo an_eqRo cd_eqRo ct_eqRo), sl_eqRo⟩)
    (c_eqRo_ : PySem.W.codeIn K cd_eqRo "Roll.__eq__" = true)
    (k_eqRo : PySem.W.keepIn K (.ref f_eqRo) = true)
    (a_shown_of : PySem.W.findIn K (.ref CP) "shown_of" = some (some (.ref f_shown_of)))
    (i_shown_of : PySem.W.isFn K (.ref f_shown_of) = true)
    (l_shown_of : K.lookup f_shown_of = some ⟨oc_shown_of, od_shown_of, .func (PySem.W.fnOf "shown_of" "Plan.shown_of" (defArgs s_Plan_shown_of) (defBody s_Plan_shown_of) (defScope s_Plan_shown_of) .none kV_shown_of dc_shown_of pm_shown_of an_shown_of cd_shown_of ct_shown_of), sl_shown_of⟩)
    (c_shown_of_ : PySem.W.codeIn K cd_shown_of "Plan.shown_of" = true)
    (k_shown_of : PySem.W.keepIn K (.ref f_shown_of) = true)
    (a_strip_of : PySem.W.findIn K (.ref CP) "strip_of" = some (some (.ref f_strip_of)))
    (i_strip_of : PySem.W.isFn K (.ref f_strip_of) = true)
    (l_strip_of : K.lookup f_strip_of = some ⟨oc_strip_of, od_strip_of, .func (PySem.W.fnOf "strip_of" "Plan.strip_of" (defArgs s_Plan_strip_of) (defBody s_Plan_strip_of) (defScope s_Plan_strip_of) .none kV_strip_of dc_strip_of pm_strip_of an_strip_of cd_strip_of ct_strip_of), sl_strip_of⟩)
    (c_strip_of_ : PySem.W.codeIn K cd_strip_of "Plan.strip_of" = true)
    (k_strip_of : PySem.W.keepIn K (.ref f_strip_of) = true)
    (a_followers : PySem.W.findIn K (.ref CP) "followers" = some (some (.ref f_followers)))
    (i_followers : PySem.W.isFn K (.ref f_followers) = true)
    (l_followers : K.lookup f_followers = some ⟨oc_followers, od_followers, .func (PySem.W.fnOf "followers" "Plan.followers" (defArgs s_Plan_followers) (defBody s_Plan_followers) (defScope s_Plan_followers) .none kV_followers dc_followers pm_followers an_followers cd_followers ct_followers), sl_followers⟩)
    (c_followers_ : PySem.W.codeIn K cd_followers "Plan.followers" = true)
    (k_followers : PySem.W.keepIn K (.ref f_followers) = true)
    (a_sends_of : PySem.W.findIn K (.ref CP) "sends_of" = some (some (.ref f_sends_of)))
    (i_sends_of : PySem.W.isFn K (.ref f_sends_of) = true)
    (l_sends_of : K.lookup f_sends_of = some ⟨oc_sends_of, od_sends_of, .func (PySem.W.fnOf "sends_of" "Plan.sends_of" (defArgs s_Plan_sends_of) (defBody s_Plan_sends_of) (defScope s_Plan_sends_of) .none kV_sends_of dc_sends_of pm_sends_of an_sends_of cd_sends_of ct_sends_of), sl_sends_of⟩)
    (c_sends_of_ : PySem.W.codeIn K cd_sends_of "Plan.sends_of" = true)
    (k_sends_of : PySem.W.keepIn K (.ref f_sends_of) = true)
    (a_has : PySem.W.findIn K (.ref CP) "__contains__" = some (some (.ref f_has)))
    (i_has : PySem.W.isFn K (.ref f_has) = true)
    (l_has : K.lookup f_has = some ⟨oc_has, od_has, .func (PySem.W.fnOf "__contains__" "Plan.__contains__" (defArgs s_Plan___contains__) (defBody s_Plan___contains__) (defScope s_Plan___contains__) .none kV_has dc_has pm_has an_has cd_has ct_has), sl_has⟩)
    (c_has_ : PySem.W.codeIn K cd_has "Plan.__contains__" = true)
    (k_has : PySem.W.keepIn K (.ref f_has) = true)
    (gP : PySem.W.nsIn K mainGlobals "PERCENT" = some (some (.int 37 tP)))
    (gT : PySem.W.nsIn K mainGlobals "MOST_TICKS" = some (some (.int 2000 tT)))
    (gQ : PySem.W.nsIn K mainGlobals "MOST_CUES" = some (some (.int 40 tQ)))
    (gPi : PySem.W.nsIn K mainGlobals "MOST_PIECES" = some (some (.int 12 tkPi)))
    (gRa : PySem.W.nsIn K mainGlobals "MOST_RATE" = some (some (.int 6 tRa)))
    (gOn : PySem.W.nsIn K mainGlobals "ON" = some (some (.str (Str.ofString "on") tOn)))
    (gLE : PySem.W.nsIn K mainGlobals "LETTERS" = some (some (.str LET tL)))
    (gDI : PySem.W.nsIn K mainGlobals "DIGITS" = some (some (.str DIG tD)))
    (gMD : PySem.W.nsIn K mainGlobals "MOST_DEEP" = some (some (.int 5 tMD)))
    (gMI : PySem.W.nsIn K mainGlobals "MOST_ITEMS" = some (some (.int 60 tMI)))
    (gMG : PySem.W.nsIn K mainGlobals "MOST_DIGITS" = some (some (.int 40 tMG)))
    (gGc : PySem.W.nsIn K mainGlobals "gcd" = some (some (.builtin "math.gcd")))
    (gLc : PySem.W.nsIn K mainGlobals "lcm" = some (some (.builtin "math.lcm")))
    (z_isinstance : PySem.W.nsIn K mainGlobals "isinstance" = some none)
    (z_int : PySem.W.nsIn K mainGlobals "int" = some none)
    (z_bool : PySem.W.nsIn K mainGlobals "bool" = some none)
    (z_str : PySem.W.nsIn K mainGlobals "str" = some none)
    (z_len : PySem.W.nsIn K mainGlobals "len" = some none)
    (z_ord : PySem.W.nsIn K mainGlobals "ord" = some none)
    (z_all : PySem.W.nsIn K mainGlobals "all" = some none)
    (z_enumerate : PySem.W.nsIn K mainGlobals "enumerate" = some none)
    (z_max : PySem.W.nsIn K mainGlobals "max" = some none)
    (z_min : PySem.W.nsIn K mainGlobals "min" = some none)
    (z_abs : PySem.W.nsIn K mainGlobals "abs" = some none)
    (z_range : PySem.W.nsIn K mainGlobals "range" = some none)
    (z_tuple : PySem.W.nsIn K mainGlobals "tuple" = some none)
    (z_list : PySem.W.nsIn K mainGlobals "list" = some none)
    (z_sorted : PySem.W.nsIn K mainGlobals "sorted" = some none)
    (z_set : PySem.W.nsIn K mainGlobals "set" = some none)
    : ∃ fd : FuncData, (∀ (s : Shared) (v : Value), BindsTo s fd ⟨[v], []⟩ [("_law_script", v)]) ∧ ∀ base : Heap, K.In base → base.Ns mainGlobals mg → FnOk l.prog w K mg base CX0 16 fa fd ["_law_script"] (spLaw5 K) := by
  have e := hfa.symm.trans (PySem.W.mg_of X G a_law)
  cases e
  have m_isinstance := PySem.W.mg_none_of X G z_isinstance
  have m_int := PySem.W.mg_none_of X G z_int
  have m_bool := PySem.W.mg_none_of X G z_bool
  have m_str := PySem.W.mg_none_of X G z_str
  have m_len := PySem.W.mg_none_of X G z_len
  have m_ord := PySem.W.mg_none_of X G z_ord
  have m_all := PySem.W.mg_none_of X G z_all
  have m_enumerate := PySem.W.mg_none_of X G z_enumerate
  have m_max := PySem.W.mg_none_of X G z_max
  have m_min := PySem.W.mg_none_of X G z_min
  have m_abs := PySem.W.mg_none_of X G z_abs
  have m_range := PySem.W.mg_none_of X G z_range
  have m_tuple := PySem.W.mg_none_of X G z_tuple
  have m_list := PySem.W.mg_none_of X G z_list
  have m_sorted := PySem.W.mg_none_of X G z_sorted
  have m_set := PySem.W.mg_none_of X G z_set
  have g_PERCENT := PySem.W.mg_of X G gP
  have g_MOST_TICKS := PySem.W.mg_of X G gT
  have g_MOST_CUES := PySem.W.mg_of X G gQ
  have g_MOST_PIECES := PySem.W.mg_of X G gPi
  have g_MOST_RATE := PySem.W.mg_of X G gRa
  have g_ON := PySem.W.mg_of X G gOn
  have g_LETTERS := PySem.W.mg_of X G gLE
  have g_DIGITS := PySem.W.mg_of X G gDI
  have g_gcd := PySem.W.mg_of X G gGc
  have g_lcm := PySem.W.mg_of X G gLc
  have g_MOST_DEEP := PySem.W.mg_of X G gMD
  have g_MOST_ITEMS := PySem.W.mg_of X G gMI
  have g_MOST_DIGITS := PySem.W.mg_of X G gMG
  have F_is_integer := fun_mk (st := s_is_integer) l_is_integer c_is_integer_ k_is_integer
  have b_is_integer := F_is_integer.binds (ps := ["thing"]) fun _ _ _ _ _ _ us hl => match us, hl with | [_], _ => rfl
  have F_is_within := fun_mk (st := s_is_within) l_is_within c_is_within_ k_is_within
  have b_is_within := F_is_within.binds (ps := ["thing", "low", "high"]) fun _ _ _ _ _ _ us hl => match us, hl with | [_, _, _], _ => rfl
  have F_items_of := fun_mk (st := s_items_of) l_items_of c_items_of_ k_items_of
  have b_items_of := F_items_of.binds (ps := ["thing"]) fun _ _ _ _ _ _ us hl => match us, hl with | [_], _ => rfl
  have F_parts_of := fun_mk (st := s_parts_of) l_parts_of c_parts_of_ k_parts_of
  have b_parts_of := F_parts_of.binds (ps := ["thing", "many"]) fun _ _ _ _ _ _ us hl => match us, hl with | [_, _], _ => rfl
  have F_is_name := fun_mk (st := s_is_name) l_is_name c_is_name_ k_is_name
  have b_is_name := F_is_name.binds (ps := ["thing"]) fun _ _ _ _ _ _ us hl => match us, hl with | [_], _ => rfl
  have F_has_percent := fun_mk (st := s_has_percent) l_has_percent c_has_percent_ k_has_percent
  have b_has_percent := F_has_percent.binds (ps := ["word"]) fun _ _ _ _ _ _ us hl => match us, hl with | [_], _ => rfl
  have F_is_text := fun_mk (st := s_is_text) l_is_text c_is_text_ k_is_text
  have b_is_text := F_is_text.binds (ps := ["thing"]) fun _ _ _ _ _ _ us hl => match us, hl with | [_], _ => rfl
  have F_cue_of := fun_mk (st := s_cue_of) l_cue_of c_cue_of_ k_cue_of
  have b_cue_of := F_cue_of.binds (ps := ["thing", "earliest", "length"]) fun _ _ _ _ _ _ us hl => match us, hl with | [_, _, _], _ => rfl
  have F_judged_cues := fun_mk (st := s_judged_cues) l_judged_cues c_judged_cues_ k_judged_cues
  have b_judged_cues := F_judged_cues.binds (ps := ["length", "cues"]) fun _ _ _ _ _ _ us hl => match us, hl with | [_, _], _ => rfl
  have F_piece_of_form := fun_mk (st := s_piece_of_form) l_piece_of_form c_piece_of_form_ k_piece_of_form
  have b_piece_of_form := F_piece_of_form.binds (ps := ["reel", "thing"]) fun _ _ _ _ _ _ us hl => match us, hl with | [_, _], _ => rfl
  have F_judged_pieces := fun_mk (st := s_judged_pieces) l_judged_pieces c_judged_pieces_ k_judged_pieces
  have b_judged_pieces := F_judged_pieces.binds (ps := ["reel", "pieces"]) fun _ _ _ _ _ _ us hl => match us, hl with | [_, _], _ => rfl
  have F_judged_arrows := fun_mk (st := s_judged_arrows) l_judged_arrows c_judged_arrows_ k_judged_arrows
  have b_judged_arrows := F_judged_arrows.binds (ps := ["names", "arrows"]) fun _ _ _ _ _ _ us hl => match us, hl with | [_, _], _ => rfl
  have F_wrong_name := fun_mk (st := s_wrong_name) l_wrong_name c_wrong_name_ k_wrong_name
  have b_wrong_name := F_wrong_name.binds (ps := ["names", "things"]) fun _ _ _ _ _ _ us hl => match us, hl with | [_, _], _ => rfl
  have F_judged_starts := fun_mk (st := s_judged_starts) l_judged_starts c_judged_starts_ k_judged_starts
  have b_judged_starts := F_judged_starts.binds (ps := ["names", "starts"]) fun _ _ _ _ _ _ us hl => match us, hl with | [_, _], _ => rfl
  have F_judged_ends := fun_mk (st := s_judged_ends) l_judged_ends c_judged_ends_ k_judged_ends
  have b_judged_ends := F_judged_ends.binds (ps := ["names", "ends"]) fun _ _ _ _ _ _ us hl => match us, hl with | [_, _], _ => rfl
  have F_led_to := fun_mk (st := s_led_to) l_led_to c_led_to_ k_led_to
  have b_led_to := F_led_to.binds (ps := ["names", "arrows"]) fun _ _ _ _ _ _ us hl => match us, hl with | [_, _], _ => rfl
  have F_first_unreached := fun_mk (st := s_first_unreached) l_first_unreached c_first_unreached_ k_first_unreached
  have b_first_unreached := F_first_unreached.binds (ps := ["names", "arrows", "starts", "ends"]) fun _ _ _ _ _ _ us hl => match us, hl with | [_, _, _, _], _ => rfl
  have F_strip_of_piece := fun_mk (st := s_strip_of_piece) l_strip_of_piece c_strip_of_piece_ k_strip_of_piece
  have b_strip_of_piece := F_strip_of_piece.binds (ps := ["reel", "piece", "factor"]) fun _ _ _ _ _ _ us hl => match us, hl with | [_, _, _], _ => rfl
  have F_sends_of_piece := fun_mk (st := s_sends_of_piece) l_sends_of_piece c_sends_of_piece_ k_sends_of_piece
  have b_sends_of_piece := F_sends_of_piece.binds (ps := ["reel", "piece", "strip"]) fun _ _ _ _ _ _ us hl => match us, hl with | [_, _, _], _ => rfl
  have F_joins := fun_mk (st := s_joins) l_joins c_joins_ k_joins
  have b_joins := F_joins.binds (ps := ["tail", "head"]) fun _ _ _ _ _ _ us hl => match us, hl with | [_, _], _ => rfl
  have F_piece_stretch := fun_mk (st := s_piece_stretch) l_piece_stretch c_piece_stretch_ k_piece_stretch
  have b_piece_stretch := F_piece_stretch.binds (ps := ["plan", "name"]) fun _ _ _ _ _ _ us hl => match us, hl with | [_, _], _ => rfl
  have F_behind_one_another := fun_mk (st := s_behind_one_another) l_behind_one_another c_behind_one_another_ k_behind_one_another
  have b_behind_one_another := F_behind_one_another.binds (ps := ["plan", "left", "right"]) fun _ _ _ _ _ _ us hl => match us, hl with | [_, _, _], _ => rfl
  have F_repeated := fun_mk (st := s_repeated) l_repeated c_repeated_ k_repeated
  have b_repeated := F_repeated.binds (ps := ["plan", "body", "times"]) fun _ _ _ _ _ _ us hl => match us, hl with | [_, _, _], _ => rfl
  have F_all_of := fun_mk (st := s_all_of) l_all_of c_all_of_ k_all_of
  have b_all_of := F_all_of.binds (ps := ["plan", "parts"]) fun _ _ _ _ _ _ us hl => match us, hl with | [_, _], _ => rfl
  have F_part_of := fun_mk (st := s_part_of) l_part_of c_part_of_ k_part_of
  have b_part_of := F_part_of.binds (ps := ["plan", "item"]) fun _ _ _ _ _ _ us hl => match us, hl with | [_, _], _ => rfl
  have F_repeat_of := fun_mk (st := s_repeat_of) l_repeat_of c_repeat_of_ k_repeat_of
  have b_repeat_of := F_repeat_of.binds (ps := ["item"]) fun _ _ _ _ _ _ us hl => match us, hl with | [_], _ => rfl
  have F_judged_items := fun_mk (st := s_judged_items) l_judged_items c_judged_items_ k_judged_items
  have b_judged_items := F_judged_items.binds (ps := ["plan", "items", "number", "depth"]) fun _ _ _ _ _ _ us hl => match us, hl with | [_, _, _, _], _ => rfl
  have F_judged_roll := fun_mk (st := s_judged_roll) l_judged_roll c_judged_roll_ k_judged_roll
  have b_judged_roll := F_judged_roll.binds (ps := ["plan", "written"]) fun _ _ _ _ _ _ us hl => match us, hl with | [_, _], _ => rfl
  have F_write_item := fun_mk (st := s_write_item) l_write_item c_write_item_ k_write_item
  have b_write_item := F_write_item.binds (ps := ["item"]) fun _ _ _ _ _ _ us hl => match us, hl with | [_], _ => rfl
  have F_write_roll := fun_mk (st := s_write_roll) l_write_roll c_write_roll_ k_write_roll
  have b_write_roll := F_write_roll.binds (ps := ["written"]) fun _ _ _ _ _ _ us hl => match us, hl with | [_], _ => rfl
  have F_run_end := fun_mk (st := s_run_end) l_run_end c_run_end_ k_run_end
  have b_run_end := F_run_end.binds (ps := ["text", "at", "signs"]) fun _ _ _ _ _ _ us hl => match us, hl with | [_, _, _], _ => rfl
  have F_stands := fun_mk (st := s_stands) l_stands c_stands_ k_stands
  have b_stands := F_stands.binds (ps := ["text", "at", "sign"]) fun _ _ _ _ _ _ us hl => match us, hl with | [_, _, _], _ => rfl
  have F_is_times := fun_mk (st := s_is_times) l_is_times c_is_times_ k_is_times
  have b_is_times := F_is_times.binds (ps := ["digits"]) fun _ _ _ _ _ _ us hl => match us, hl with | [_], _ => rfl
  have F_read_item := fun_mk (st := s_read_item) l_read_item c_read_item_ k_read_item
  have b_read_item := F_read_item.binds (ps := ["plan", "text", "at", "depth"]) fun _ _ _ _ _ _ us hl => match us, hl with | [_, _, _, _], _ => rfl
  have F_read_items := fun_mk (st := s_read_items) l_read_items c_read_items_ k_read_items
  have b_read_items := F_read_items.binds (ps := ["plan", "text", "at", "depth"]) fun _ _ _ _ _ _ us hl => match us, hl with | [_, _, _, _], _ => rfl
  have F_read_roll := fun_mk (st := s_read_roll) l_read_roll c_read_roll_ k_read_roll
  have b_read_roll := F_read_roll.binds (ps := ["plan", "text"]) fun _ _ _ _ _ _ us hl => match us, hl with | [_, _], _ => rfl
  have F__law_tape := fun_mk (st := s__law_tape) l__law_tape c__law_tape_ k__law_tape
  have b__law_tape := F__law_tape.binds (ps := ["_law_script"]) fun _ _ _ _ _ _ us hl => match us, hl with | [_], _ => rfl
  have F__law_pick := fun_mk (st := s__law_pick) l__law_pick c__law_pick_ k__law_pick
  have b__law_pick := F__law_pick.binds (ps := ["_law_tape_here", "_law_many_here"]) fun _ _ _ _ _ _ us hl => match us, hl with | [_, _], _ => rfl
  have F__law_some := fun_mk (st := s__law_some) l__law_some c__law_some_ k__law_some
  have b__law_some := F__law_some.binds (ps := ["_law_tape_here", "_law_low", "_law_high"]) fun _ _ _ _ _ _ us hl => match us, hl with | [_, _, _], _ => rfl
  have F__law_rarely := fun_mk (st := s__law_rarely) l__law_rarely c__law_rarely_ k__law_rarely
  have b__law_rarely := F__law_rarely.binds (ps := ["_law_tape_here", "_law_many_here"]) fun _ _ _ _ _ _ us hl => match us, hl with | [_, _], _ => rfl
  have F__law_names := fun_mk (st := s__law_names) l__law_names c__law_names_ k__law_names
  have b__law_names := F__law_names.binds (ps := ["_law_tape_here", "_law_many_here"]) fun _ _ _ _ _ _ us hl => match us, hl with | [_, _], _ => rfl
  have F__law_same := fun_mk (st := s__law_same) l__law_same c__law_same_ k__law_same
  have b__law_same := F__law_same.binds (ps := ["_law_told", "_law_due"]) fun _ _ _ _ _ _ us hl => match us, hl with | [_, _], _ => rfl
  have F__law_lists := fun_mk (st := s__law_lists) l__law_lists c__law_lists_ k__law_lists
  have b__law_lists := F__law_lists.binds (ps := ["_law_thing"]) fun _ _ _ _ _ _ us hl => match us, hl with | [_], _ => rfl
  have F__law_some_names := fun_mk (st := s__law_some_names) l__law_some_names c__law_some_names_ k__law_some_names
  have b__law_some_names := F__law_some_names.binds (ps := ["_law_tape_here", "_law_many_here"]) fun _ _ _ _ _ _ us hl => match us, hl with | [_, _], _ => rfl
  have F__law_plan := fun_mk (st := s__law_plan) l__law_plan c__law_plan_ k__law_plan
  have b__law_plan := F__law_plan.binds (ps := ["_law_names_here"]) fun _ _ _ _ _ _ us hl => match us, hl with | [_], _ => rfl
  have F__law_times := fun_mk (st := s__law_times) l__law_times c__law_times_ k__law_times
  have b__law_times := F__law_times.binds (ps := ["_law_tape_here"]) fun _ _ _ _ _ _ us hl => match us, hl with | [_], _ => rfl
  have F__law_many := fun_mk (st := s__law_many) l__law_many c__law_many_ k__law_many
  have b__law_many := F__law_many.binds (ps := ["_law_items_here"]) fun _ _ _ _ _ _ us hl => match us, hl with | [_], _ => rfl
  have F__law_items := fun_mk (st := s__law_items) l__law_items c__law_items_ k__law_items
  have b__law_items := F__law_items.binds (ps := ["_law_tape_here", "_law_names_here", "_law_depth", "_law_most"]) fun _ _ _ _ _ _ us hl => match us, hl with | [_, _, _, _], _ => rfl
  have F__law_written := fun_mk (st := s__law_written) l__law_written c__law_written_ k__law_written
  have b__law_written := F__law_written.binds (ps := ["_law_items_here"]) fun _ _ _ _ _ _ us hl => match us, hl with | [_], _ => rfl
  have F__law_roll := fun_mk (st := s__law_roll) l__law_roll c__law_roll_ k__law_roll
  have b__law_roll := F__law_roll.binds (ps := ["_law_tape_here", "_law_names_here"]) fun _ _ _ _ _ _ us hl => match us, hl with | [_, _], _ => rfl
  have F__law_read_back := fun_mk (st := s__law_read_back) l__law_read_back c__law_read_back_ k__law_read_back
  have b__law_read_back := F__law_read_back.binds (ps := ["_law_plan_here", "_law_items_here", "_law_text"]) fun _ _ _ _ _ _ us hl => match us, hl with | [_, _, _], _ => rfl
  have F_law := fun_mk (st := s_law) l_law c_law_ k_law
  have F_iLn := fun_mk (st := s_BadLength___init__) l_iLn c_iLn_ k_iLn
  have b_iLn := F_iLn.binds (ps := ["self", "length"]) fun _ _ _ _ _ _ us hl => match us, hl with | [_, _], _ => rfl
  have XLn : XC K mg "BadLength" "length" CLn f_iLn := ⟨PySem.W.mg_of X G aLn, ⟨⟨_, _, _, _, _, _, _, _, _, _, _, _, _, _, _, xLn_, rfl⟩, saLn, eLn, tLn, kpLn⟩, inLn, tILn, noLn, ⟨iLn, gaLn, ggLn, eLn, klLn, gt, tk, mrLn⟩, hdLn⟩
  have F_iU := fun_mk (st := s_BadCue___init__) l_iU c_iU_ k_iU
  have b_iU := F_iU.binds (ps := ["self", "number"]) fun _ _ _ _ _ _ us hl => match us, hl with | [_, _], _ => rfl
  have XU : XC K mg "BadCue" "number" CU f_iU := ⟨PySem.W.mg_of X G aU, ⟨⟨_, _, _, _, _, _, _, _, _, _, _, _, _, _, _, xU_, rfl⟩, saU, eU, tU, kpU⟩, inU, tIU, noU, ⟨iU, gaU, ggU, eU, klU, gt, tk, mrU⟩, hdU⟩
  have F_iM := fun_mk (st := s_TooMany___init__) l_iM c_iM_ k_iM
  have b_iM := F_iM.binds (ps := ["self", "word"]) fun _ _ _ _ _ _ us hl => match us, hl with | [_, _], _ => rfl
  have XM : XC K mg "TooMany" "word" CM f_iM := ⟨PySem.W.mg_of X G aM, ⟨⟨_, _, _, _, _, _, _, _, _, _, _, _, _, _, _, xM_, rfl⟩, saM, eM, tM, kpM⟩, inM, tIM, noM, ⟨iM, gaM, ggM, eM, klM, gt, tk, mrM⟩, hdM⟩
  have TR : RC K mg CR f_iR := ⟨⟨pgCR, hdCR, poCR, saCR⟩, ⟨mkCR, inCR, fnCR, kpCR⟩, PySem.W.mg_of X G aCR, nCR_length, nCR_cues, nCR__speakers, nCR__naming, klCR, gt, tk, mrCR⟩
  have TS : StC K mg CS f_iS := ⟨⟨pgCS, hdCS, poCS, saCS⟩, ⟨mkCS, inCS, fnCS, kpCS⟩, PySem.W.mg_of X G aCS, nCS_first, nCS_last, nCS_linked, nCS_many, nCS_grains, nCS_shows, nCS_sent, nCS_head, nCS_tail⟩
  have TPt : PtC K mg CT f_iPt := ⟨⟨pgCT, hdCT, poCT, saCT⟩, ⟨mkCT, inCT, fnCT, kpCT⟩, PySem.W.mg_of X G aCT, nCT_name, nCT_times, nCT_parts, nCT_body, nCT_whole⟩
  have TRo : RoC K mg CRo f_iRo := ⟨⟨pgCRo, hdCRo, poCRo, saCRo⟩, ⟨mkCRo, inCRo, fnCRo, kpCRo⟩, PySem.W.mg_of X G aCRo, nCRo_plan, nCRo_written, nCRo__parts, nCRo__whole⟩
  have hcRo := And.intro klCRo (And.intro gt (And.intro tk mrCRo))
  have hE : DfT K aE := ⟨oE, nE, lE, clE, dE⟩
  have TP : PlC K mg CP f_iP := ⟨⟨pgCP, hdCP, poCP, saCP⟩, ⟨mkCP, inCP, fnCP, kpCP⟩, PySem.W.mg_of X G aCP, nCP_reel, nCP_pieces, nCP__names, nCP_arrows, nCP_starts, nCP_ends, nCP__grain, nCP__pieces, nCP__sends, nCP__factors, nCP__shown, nCP__behind, nCP__strips, nCP__sends, ⟨.type "type", aW, .ref aW, ⟨rdCP, gaCP⟩, ⟨fWA, rfl⟩, fun H => .inr ⟨oWA, _, nWA, lWA, clWA, dWA, (by show 2 ≤ sizeLine; decide), .cons ⟨_, rfl⟩ (.cons ⟨_, rfl⟩ .nil)⟩⟩⟩
  have hcP := And.intro klCP (And.intro gt (And.intro tk mrCP))
  have F_iR1 : FunVE K "__init__" "Reel.__init__" s_Reel___init__ f_iR _ aE := ⟨⟨_, _, TD, _, _, _, _, _, _, _, oTD, nTD, rfl, l_iR, c_iR_, lTD, dTD⟩, hE⟩
  have F_iR := F_iR1.v
  have b_iR := reel_binds F_iR
  have b_iR1 := reel_binds1 F_iR1
  have F_iP := fun_mk (st := s_Plan___init__) l_iP c_iP_ k_iP
  have b_iP := F_iP.binds (ps := ["self", "reel", "pieces", "arrows", "starts", "ends"]) fun _ _ _ _ _ _ us hl => match us, hl with | [_, _, _, _, _, _], _ => rfl
  have F_iS := fun_mk (st := s_Stretch___init__) l_iS c_iS_ k_iS
  have b_iS := F_iS.binds (ps := ["self", "first", "last"]) fun _ _ _ _ _ _ us hl => match us, hl with | [_, _, _], _ => rfl
  have F_iPt := fun_mk (st := s_Part___init__) l_iPt c_iPt_ k_iPt
  have b_iPt := F_iPt.binds (ps := ["self", "name", "times", "parts", "body", "whole"]) fun _ _ _ _ _ _ us hl => match us, hl with | [_, _, _, _, _, _], _ => rfl
  have F_iRo := fun_mk (st := s_Roll___init__) l_iRo c_iRo_ k_iRo
  have b_iRo := F_iRo.binds (ps := ["self", "plan", "written"]) fun _ _ _ _ _ _ us hl => match us, hl with | [_, _, _], _ => rfl
  have F_eqR := fun_mk (st := s_Reel___eq__) l_eqR c_eqR_ k_eqR
  have b_eqR := F_eqR.binds (ps := ["self", "other"]) fun _ _ _ _ _ _ us hl => match us, hl with | [_, _], _ => rfl
  have F_eqP := fun_mk (st := s_Plan___eq__) l_eqP c_eqP_ k_eqP
  have b_eqP := F_eqP.binds (ps := ["self", "other"]) fun _ _ _ _ _ _ us hl => match us, hl with | [_, _], _ => rfl
  have F_eqRo := fun_mk (st := s_Roll___eq__) l_eqRo c_eqRo_ k_eqRo
  have b_eqRo := F_eqRo.binds (ps := ["self", "other"]) fun _ _ _ _ _ _ us hl => match us, hl with | [_, _], _ => rfl
  have F_shown_of := fun_mk (st := s_Plan_shown_of) l_shown_of c_shown_of_ k_shown_of
  have b_shown_of := F_shown_of.binds (ps := ["self", "name"]) fun _ _ _ _ _ _ us hl => match us, hl with | [_, _], _ => rfl
  have F_strip_of := fun_mk (st := s_Plan_strip_of) l_strip_of c_strip_of_ k_strip_of
  have b_strip_of := F_strip_of.binds (ps := ["self", "name"]) fun _ _ _ _ _ _ us hl => match us, hl with | [_, _], _ => rfl
  have F_followers := fun_mk (st := s_Plan_followers) l_followers c_followers_ k_followers
  have b_followers := F_followers.binds (ps := ["self", "name"]) fun _ _ _ _ _ _ us hl => match us, hl with | [_, _], _ => rfl
  have F_sends_of := fun_mk (st := s_Plan_sends_of) l_sends_of c_sends_of_ k_sends_of
  have b_sends_of := F_sends_of.binds (ps := ["self", "name"]) fun _ _ _ _ _ _ us hl => match us, hl with | [_, _], _ => rfl
  have F_has := fun_mk (st := s_Plan___contains__) l_has c_has_ k_has
  have b_has := F_has.binds (ps := ["self", "x"]) fun _ _ _ _ _ _ us hl => match us, hl with | [_, _], _ => rfl
  refine ⟨PySem.W.fnOf "law" "law" (defArgs s_law) (defBody s_law) (defScope s_law) .none kV_law dc_law pm_law an_law cd_law ct_law, fun s v => .of_eq rfl, fun base _ _ => ?_⟩
  have xLn : XI l.prog w K mg base "BadLength" "length" CLn := ⟨f_iLn, _, XLn, ok_iLn F_iLn, b_iLn⟩
  have xU : XI l.prog w K mg base "BadCue" "number" CU := ⟨f_iU, _, XU, ok_iU F_iU, b_iU⟩
  have xM : XI l.prog w K mg base "TooMany" "word" CM := ⟨f_iM, _, XM, ok_iM F_iM, b_iM⟩
  have c_is_integer : Cal l.prog w K mg base 1 "is_integer" spIsIntA := ⟨f_is_integer, _, _, ok_is_integerA F_is_integer m_isinstance m_int m_bool, PySem.W.mg_of X G a_is_integer, k_is_integer, b_is_integer⟩
  have c_is_within : Cal l.prog w K mg base 2 "is_within" spWithinA := ⟨f_is_within, _, _, ok_is_withinA F_is_within c_is_integer, PySem.W.mg_of X G a_is_within, k_is_within, b_is_within⟩
  have c_items_of : Cal l.prog w K mg base 1 "items_of" (spItemsA K) := ⟨f_items_of, _, _, ok_items_ofA F_items_of m_isinstance m_tuple m_list, PySem.W.mg_of X G a_items_of, k_items_of, b_items_of⟩
  have c_parts_of : Cal l.prog w K mg base 2 "parts_of" spPartsA := ⟨f_parts_of, _, _, ok_parts_ofA F_parts_of m_len c_items_of, PySem.W.mg_of X G a_parts_of, k_parts_of, b_parts_of⟩
  have c_is_name : Cal l.prog w K mg base 1 "is_name" spNameA := ⟨f_is_name, _, _, ok_is_nameA F_is_name m_isinstance m_str m_len m_all g_LETTERS, PySem.W.mg_of X G a_is_name, k_is_name, b_is_name⟩
  have c_has_percent : Cal l.prog w K mg base 1 "has_percent" spPercent := ⟨f_has_percent, _, _, ok_has_percent F_has_percent g_PERCENT m_ord, PySem.W.mg_of X G a_has_percent, k_has_percent, b_has_percent⟩
  have c_is_text : Cal l.prog w K mg base 2 "is_text" spIsText := ⟨f_is_text, _, _, ok_is_text F_is_text m_isinstance m_str m_len m_all c_has_percent, PySem.W.mg_of X G a_is_text, k_is_text, b_is_text⟩
  have c_cue_of : Cal l.prog w K mg base 3 "cue_of" spCueA := ⟨f_cue_of, _, _, ok_cue_ofA F_cue_of c_parts_of c_is_integer c_is_name c_is_text, PySem.W.mg_of X G a_cue_of, k_cue_of, b_cue_of⟩
  have c_judged_cues : CalX l.prog w K mg base 4 "judged_cues" (spJudgedA K CU CM) := ⟨f_judged_cues, _, _, ok_judged_cuesA F_judged_cues m_enumerate m_len m_tuple g_MOST_CUES xU xM c_items_of c_cue_of, PySem.W.mg_of X G a_judged_cues, k_judged_cues, b_judged_cues⟩
  have c_piece_of_form : Cal l.prog w K mg base 3 "piece_of_form" (spForm CR) := ⟨f_piece_of_form, _, _, ok_piece_form F_piece_of_form m_isinstance m_str g_gcd g_MOST_RATE TR TP c_parts_of c_is_name c_is_integer c_is_within, PySem.W.mg_of X G a_piece_of_form, k_piece_of_form, b_piece_of_form⟩
  have c_judged_pieces : Cal l.prog w K mg base 4 "judged_pieces" (spPieces CR) := ⟨f_judged_pieces, _, _, ok_pieces F_judged_pieces m_enumerate m_len m_tuple g_MOST_PIECES c_items_of c_piece_of_form, PySem.W.mg_of X G a_judged_pieces, k_judged_pieces, b_judged_pieces⟩
  have c_judged_arrows : Cal l.prog w K mg base 3 "judged_arrows" spArrowsJ := ⟨f_judged_arrows, _, _, ok_arrowsJ F_judged_arrows m_enumerate m_tuple c_items_of c_parts_of, PySem.W.mg_of X G a_judged_arrows, k_judged_arrows, b_judged_arrows⟩
  have c_wrong_name : Cal l.prog w K mg base 2 "wrong_name" spWrong := ⟨f_wrong_name, _, _, ok_wrong F_wrong_name m_enumerate c_items_of, PySem.W.mg_of X G a_wrong_name, k_wrong_name, b_wrong_name⟩
  have c_judged_starts : Cal l.prog w K mg base 3 "judged_starts" spChosen := ⟨f_judged_starts, _, _, ok_startsJ F_judged_starts c_items_of c_wrong_name, PySem.W.mg_of X G a_judged_starts, k_judged_starts, b_judged_starts⟩
  have c_judged_ends : Cal l.prog w K mg base 3 "judged_ends" spChosen := ⟨f_judged_ends, _, _, ok_endsJ F_judged_ends c_items_of c_wrong_name, PySem.W.mg_of X G a_judged_ends, k_judged_ends, b_judged_ends⟩
  have c_led_to : Cal l.prog w K mg base 1 "led_to" spLed := ⟨f_led_to, _, _, ok_led_to F_led_to m_list m_len, PySem.W.mg_of X G a_led_to, k_led_to, b_led_to⟩
  have c_first_unreached : Cal l.prog w K mg base 2 "first_unreached" spUnreach := ⟨f_first_unreached, _, _, ok_unreach F_first_unreached c_led_to, PySem.W.mg_of X G a_first_unreached, k_first_unreached, b_first_unreached⟩
  have c_strip_of_piece : Cal l.prog w K mg base 1 "strip_of_piece" (spStrip CR) := ⟨f_strip_of_piece, _, _, ok_strip F_strip_of_piece TR m_enumerate m_max m_min m_tuple g_ON, PySem.W.mg_of X G a_strip_of_piece, k_strip_of_piece, b_strip_of_piece⟩
  have c_sends_of_piece : Cal l.prog w K mg base 1 "sends_of_piece" (spSends CR) := ⟨f_sends_of_piece, _, _, ok_sends F_sends_of_piece TR m_tuple g_ON, PySem.W.mg_of X G a_sends_of_piece, k_sends_of_piece, b_sends_of_piece⟩
  have D_iR := ok_reelA (P := l.prog) (w := w) (base := base) F_iR m_enumerate m_tuple m_sorted m_set g_MOST_TICKS TR xLn c_is_within c_judged_cues
  have D_iP := ok_plan (P := l.prog) (w := w) (base := base) F_iP TP m_tuple m_sorted g_lcm c_judged_pieces c_judged_arrows c_judged_starts c_judged_ends c_first_unreached c_strip_of_piece c_sends_of_piece
  have oC : OwnC l.prog w K mg base CP CR := ⟨f_has, _, ok_has F_has TP m_isinstance m_str, a_has, i_has, b_has⟩
  have M_shown_of : MCal l.prog w K mg base 2 CP "shown_of" (spShown CP CR) := ⟨f_shown_of, _, _, ok_shown F_shown_of TP oC, ⟨a_shown_of, i_shown_of, k_shown_of⟩, b_shown_of⟩
  have M_strip_of : MCal l.prog w K mg base 2 CP "strip_of" (spStripOf CP CR) := ⟨f_strip_of, _, _, ok_strip_of F_strip_of TP oC, ⟨a_strip_of, i_strip_of, k_strip_of⟩, b_strip_of⟩
  have M_followers : MCal l.prog w K mg base 2 CP "followers" (spFollow CP CR) := ⟨f_followers, _, _, ok_follow F_followers TP oC, ⟨a_followers, i_followers, k_followers⟩, b_followers⟩
  have M_sends_of : MCal l.prog w K mg base 2 CP "sends_of" (spSendsOf CP CR) := ⟨f_sends_of, _, _, ok_sends_of F_sends_of TP oC, ⟨a_sends_of, i_sends_of, k_sends_of⟩, b_sends_of⟩
  have D_iS := ok_stIni (P := l.prog) (w := w) (base := base) F_iS TS
  have D_iPt := ok_ptIni (P := l.prog) (w := w) (base := base) F_iPt TPt
  have c_joins : Cal l.prog w K mg base 1 "joins" spJoins := ⟨f_joins, _, _, ok_joins F_joins, PySem.W.mg_of X G a_joins, k_joins, b_joins⟩
  have c_piece_stretch : Cal l.prog w K mg base 3 "piece_stretch" (spPieceS CP CR CS) := ⟨f_piece_stretch, _, _, ok_pieceS F_piece_stretch TS D_iS b_iS TP m_len M_strip_of M_shown_of M_sends_of, PySem.W.mg_of X G a_piece_stretch, k_piece_stretch, b_piece_stretch⟩
  have c_behind_one_another : Cal l.prog w K mg base 3 "behind_one_another" (spBoth CP CR CS) := ⟨f_behind_one_another, _, _, ok_both F_behind_one_another TS D_iS b_iS TP M_followers c_joins, PySem.W.mg_of X G a_behind_one_another, k_behind_one_another, b_behind_one_another⟩
  have c_repeated : Cal l.prog w K mg base 3 "repeated" (spRep CP CR CS) := ⟨f_repeated, _, _, ok_rep F_repeated TS D_iS b_iS TP M_followers c_joins, PySem.W.mg_of X G a_repeated, k_repeated, b_repeated⟩
  have c_all_of : Cal l.prog w K mg base 4 "all_of" (spAll CP CR CS CT) := ⟨f_all_of, _, _, ok_all F_all_of TPt TP c_behind_one_another, PySem.W.mg_of X G a_all_of, k_all_of, b_all_of⟩
  have c_part_of : Cal l.prog w K mg base 10 "part_of" (spPart CP CR CS CT 5) := ⟨f_part_of, _, _, ok_part F_part_of TPt D_iPt b_iPt (PySem.W.mg_of X G a_part_of) k_part_of b_part_of m_isinstance m_str c_piece_stretch c_all_of c_repeated 5, PySem.W.mg_of X G a_part_of, k_part_of, b_part_of⟩
  have c_repeat_of : Cal l.prog w K mg base 3 "repeat_of" spRepOf := ⟨f_repeat_of, _, _, ok_repOf F_repeat_of c_parts_of c_items_of c_is_integer, PySem.W.mg_of X G a_repeat_of, k_repeat_of, b_repeat_of⟩
  have c_judged_items : Cal l.prog w K mg base 9 "judged_items" (spJudge CP CR 5) := ⟨f_judged_items, _, _, ok_judge F_judged_items TP oC m_tuple g_MOST_DEEP (PySem.W.mg_of X G a_judged_items) k_judged_items b_judged_items c_repeat_of 5, PySem.W.mg_of X G a_judged_items, k_judged_items, b_judged_items⟩
  have c_judged_roll : Cal l.prog w K mg base 10 "judged_roll" (spJRoll CP CR) := ⟨f_judged_roll, _, _, ok_jroll F_judged_roll g_MOST_ITEMS c_items_of c_judged_items, PySem.W.mg_of X G a_judged_roll, k_judged_roll, b_judged_roll⟩
  have D_iRo := ok_rollI (P := l.prog) (w := w) (base := base) F_iRo TRo nRS nRT c_judged_roll c_part_of c_all_of
  have WR := ok_wr (P := l.prog) (w := w) (base := base) F_write_item F_write_roll m_isinstance m_str (PySem.W.mg_of X G a_write_item) k_write_item b_write_item (PySem.W.mg_of X G a_write_roll) k_write_roll b_write_roll 5
  have c_write_roll : Cal l.prog w K mg base 12 "write_roll" (spWrL 5) := ⟨f_write_roll, _, _, WR.2, PySem.W.mg_of X G a_write_roll, k_write_roll, b_write_roll⟩
  have c_run_end : Cal l.prog w K mg base 1 "run_end" spRun := ⟨f_run_end, _, _, ok_run F_run_end m_len, PySem.W.mg_of X G a_run_end, k_run_end, b_run_end⟩
  have c_stands : Cal l.prog w K mg base 1 "stands" spStands := ⟨f_stands, _, _, ok_stands F_stands m_len, PySem.W.mg_of X G a_stands, k_stands, b_stands⟩
  have c_is_times : Cal l.prog w K mg base 1 "is_times" spTimes := ⟨f_is_times, _, _, ok_times F_is_times m_len g_MOST_DIGITS, PySem.W.mg_of X G a_is_times, k_is_times, b_is_times⟩
  have RD := ok_rd (P := l.prog) (w := w) (base := base) F_read_item F_read_items TP oC m_int m_tuple g_LETTERS g_DIGITS g_MOST_DEEP c_run_end c_is_times c_stands (PySem.W.mg_of X G a_read_item) k_read_item b_read_item (PySem.W.mg_of X G a_read_items) k_read_items b_read_items 5
  have c_read_items : Cal l.prog w K mg base 13 "read_items" (spRdL CP CR 5) := ⟨f_read_items, _, _, RD.2, PySem.W.mg_of X G a_read_items, k_read_items, b_read_items⟩
  have c_read_roll : Cal l.prog w K mg base 14 "read_roll" (spReadRoll CR CP CS CT CRo) := ⟨f_read_roll, _, _, ok_readRoll F_read_roll m_isinstance m_str m_len TRo D_iRo b_iRo c_read_items, PySem.W.mg_of X G a_read_roll, k_read_roll, b_read_roll⟩
  have ER : EqOk l.prog w K mg base CR 1 (spReelEq CR) := ⟨f_eqR, _, _, ok_reel_eqA F_eqR TR m_isinstance, a_eqR, i_eqR, b_eqR⟩
  have EP5 : EqOk l.prog w K mg base CP 2 (spPlanEq CR CP) := ⟨f_eqP, _, _, ok_plan_eq F_eqP TP m_isinstance hcP ER, a_eqP, i_eqP, b_eqP⟩
  have ER5 : EqOk l.prog w K mg base CRo 3 (spRollEq CR CP CS CT CRo) := ⟨f_eqRo, _, _, ok_roll_eq F_eqRo TRo m_isinstance hcRo EP5, a_eqRo, i_eqRo, b_eqRo⟩
  have c__law_tape : Cal l.prog w K mg base 1 "_law_tape" (spTape K) := ⟨f__law_tape, _, _, ok_tape F__law_tape m_abs m_int, PySem.W.mg_of X G a__law_tape, k__law_tape, b__law_tape⟩
  have c__law_pick : Cal l.prog w K mg base 1 "_law_pick" spPick := ⟨f__law_pick, _, _, ok_pick F__law_pick m_len m_int, PySem.W.mg_of X G a__law_pick, k__law_pick, b__law_pick⟩
  have c__law_some : Cal l.prog w K mg base 2 "_law_some" spSome := ⟨f__law_some, _, _, ok_some F__law_some c__law_pick, PySem.W.mg_of X G a__law_some, k__law_some, b__law_some⟩
  have c__law_rarely : Cal l.prog w K mg base 2 "_law_rarely" spRarely := ⟨f__law_rarely, _, _, ok_rarely F__law_rarely c__law_pick, PySem.W.mg_of X G a__law_rarely, k__law_rarely, b__law_rarely⟩
  have c__law_names : Cal l.prog w K mg base 2 "_law_names" spNamesF := ⟨f__law_names, _, _, ok_namesF F__law_names m_range m_len c__law_pick, PySem.W.mg_of X G a__law_names, k__law_names, b__law_names⟩
  have c__law_same : Cal l.prog w K mg base 12 "_law_same" (spSame 11) := ⟨f__law_same, _, _, ok_same4 F__law_same m_isinstance m_tuple m_bool m_str m_int m_len m_all m_range (PySem.W.mg_of X G a__law_same) k__law_same b__law_same, PySem.W.mg_of X G a__law_same, k__law_same, b__law_same⟩
  have c__law_lists : Cal l.prog w K mg base 12 "_law_lists" (spListsL (60 :: msI 5)) := ⟨f__law_lists, _, _, ok_lists5 F__law_lists m_isinstance m_list m_tuple (PySem.W.mg_of X G a__law_lists) k__law_lists b__law_lists (60 :: msI 5) (by decide), PySem.W.mg_of X G a__law_lists, k__law_lists, b__law_lists⟩
  have c__law_some_names : Cal l.prog w K mg base 3 "_law_some_names" spSomeNamesD := ⟨f__law_some_names, _, _, ok_some_namesD F__law_some_names m_range c__law_pick c__law_some c__law_names, PySem.W.mg_of X G a__law_some_names, k__law_some_names, b__law_some_names⟩
  have c__law_plan : Cal l.prog w K mg base 7 "_law_plan" (spPlan5 CR CP) := ⟨f__law_plan, _, _, ok_plan5 F__law_plan m_range m_len TR D_iR b_iR1 hE TP D_iP b_iP, PySem.W.mg_of X G a__law_plan, k__law_plan, b__law_plan⟩
  have c__law_times : Cal l.prog w K mg base 3 "_law_times" spTimesN := ⟨f__law_times, _, _, ok_timesN F__law_times m_range m_max c__law_pick c__law_some c__law_rarely, PySem.W.mg_of X G a__law_times, k__law_times, b__law_times⟩
  have c__law_many : Cal l.prog w K mg base 6 "_law_many" (spMany 5) := ⟨f__law_many, _, _, ok_many F__law_many m_isinstance m_tuple (PySem.W.mg_of X G a__law_many) k__law_many b__law_many 5, PySem.W.mg_of X G a__law_many, k__law_many, b__law_many⟩
  have manyD : ∀ e, Cal l.prog w K mg base (1 + e) "_law_many" (spMany e) := fun e => ⟨f__law_many, _, _, ok_many F__law_many m_isinstance m_tuple (PySem.W.mg_of X G a__law_many) k__law_many b__law_many e, PySem.W.mg_of X G a__law_many, k__law_many, b__law_many⟩
  have c__law_items : Cal l.prog w K mg base 13 "_law_items" (spItems 5) := ⟨f__law_items, _, _, ok_items F__law_items m_range m_tuple m_len c__law_pick c__law_some c__law_times manyD (PySem.W.mg_of X G a__law_items) k__law_items b__law_items 5, PySem.W.mg_of X G a__law_items, k__law_items, b__law_items⟩
  have c__law_written : Cal l.prog w K mg base 6 "_law_written" (spWritten 5) := ⟨f__law_written, _, _, ok_written F__law_written m_isinstance m_tuple m_str (PySem.W.mg_of X G a__law_written) k__law_written b__law_written 5, PySem.W.mg_of X G a__law_written, k__law_written, b__law_written⟩
  have c__law_roll : Cal l.prog w K mg base 14 "_law_roll" spRoll5 := ⟨f__law_roll, _, _, ok_roll5 F__law_roll m_range m_tuple m_len c__law_pick c__law_rarely c__law_items c__law_many c__law_written, PySem.W.mg_of X G a__law_roll, k__law_roll, b__law_roll⟩
  have c__law_read_back : Cal l.prog w K mg base 15 "_law_read_back" (spReadBack CR CP) := ⟨f__law_read_back, _, _, ok_readBack F__law_read_back m_isinstance TRo D_iRo b_iRo hcRo EP5 ER5 c_read_roll c__law_same c__law_lists c_write_roll, PySem.W.mg_of X G a__law_read_back, k__law_read_back, b__law_read_back⟩
  exact ok_law5 F_law ER5 c__law_tape c__law_some c__law_some_names c__law_plan c__law_roll c__law_written c__law_lists c__law_same c_write_roll c_read_roll c__law_read_back
end Sea
section
local macro_rules | `(tactic| kernel_rfl) => `(tactic| (rename_i w; refine Eq.trans ?_ (Eq.trans (Sea.rAll w) ?_) <;> kernel_rfl!))
open PySem PySem.W PyProof.Rows
set_option maxRecDepth 100000 in
set_option maxHeartbeats 0 in
theorem PySem.Challenge.cw_seamfast_k05_roll_texts_holds : PySem.Challenge.rw_seamfast_k05_roll_texts.Holds := by
  w_on; o_law; k_headL; (case hw => w_witness2)
  k_fill
  refine L2.walk_of (l := PySem.Challenge.rw_seamfast_k05_roll_texts) (n := 63) (k := 16) (x := "_law_script") (CX := fun _ => L2.CX0) (sp := fun w => Sea.spLaw5 _) rfl (by decide) rfl ⟨rfl, by decide, by decide⟩ (fun w h Y => PySem.W.kIn_of Y) ?F (fun _ _ a ns hl _ hS => ⟨a, ns, rfl, hS, hl, fun _ => rfl⟩) (fun _ _ _ _ _ h => h)
  case F =>
    intro w mg fa h KX G hmg
    refine' Sea.all_mk KX G hmg ?a_is_integer ?l_is_integer ?c_is_integer_ ?k_is_integer ?a_is_within ?l_is_within ?c_is_within_ ?k_is_within ?a_items_of ?l_items_of ?c_items_of_ ?k_items_of ?a_parts_of ?l_parts_of ?c_parts_of_ ?k_parts_of ?a_is_name ?l_is_name ?c_is_name_ ?k_is_name ?a_has_percent ?l_has_percent ?c_has_percent_ ?k_has_percent ?a_is_text ?l_is_text ?c_is_text_ ?k_is_text ?a_cue_of ?l_cue_of ?c_cue_of_ ?k_cue_of ?a_judged_cues ?l_judged_cues ?c_judged_cues_ ?k_judged_cues ?a_piece_of_form ?l_piece_of_form ?c_piece_of_form_ ?k_piece_of_form ?a_judged_pieces ?l_judged_pieces ?c_judged_pieces_ ?k_judged_pieces ?a_judged_arrows ?l_judged_arrows ?c_judged_arrows_ ?k_judged_arrows ?a_wrong_name ?l_wrong_name ?c_wrong_name_ ?k_wrong_name ?a_judged_starts ?l_judged_starts ?c_judged_starts_ ?k_judged_starts ?a_judged_ends ?l_judged_ends ?c_judged_ends_ ?k_judged_ends ?a_led_to ?l_led_to ?c_led_to_ ?k_led_to ?a_first_unreached ?l_first_unreached ?c_first_unreached_ ?k_first_unreached ?a_strip_of_piece ?l_strip_of_piece ?c_strip_of_piece_ ?k_strip_of_piece ?a_sends_of_piece ?l_sends_of_piece ?c_sends_of_piece_ ?k_sends_of_piece ?a_joins ?l_joins ?c_joins_ ?k_joins ?a_piece_stretch ?l_piece_stretch ?c_piece_stretch_ ?k_piece_stretch ?a_behind_one_another ?l_behind_one_another ?c_behind_one_another_ ?k_behind_one_another ?a_repeated ?l_repeated ?c_repeated_ ?k_repeated ?a_all_of ?l_all_of ?c_all_of_ ?k_all_of ?a_part_of ?l_part_of ?c_part_of_ ?k_part_of ?a_repeat_of ?l_repeat_of ?c_repeat_of_ ?k_repeat_of ?a_judged_items ?l_judged_items ?c_judged_items_ ?k_judged_items ?a_judged_roll ?l_judged_roll ?c_judged_roll_ ?k_judged_roll ?a_write_item ?l_write_item ?c_write_item_ ?k_write_item ?a_write_roll ?l_write_roll ?c_write_roll_ ?k_write_roll ?a_run_end ?l_run_end ?c_run_end_ ?k_run_end ?a_stands ?l_stands ?c_stands_ ?k_stands ?a_is_times ?l_is_times ?c_is_times_ ?k_is_times ?a_read_item ?l_read_item ?c_read_item_ ?k_read_item ?a_read_items ?l_read_items ?c_read_items_ ?k_read_items ?a_read_roll ?l_read_roll ?c_read_roll_ ?k_read_roll ?a__law_tape ?l__law_tape ?c__law_tape_ ?k__law_tape ?a__law_pick ?l__law_pick ?c__law_pick_ ?k__law_pick ?a__law_some ?l__law_some ?c__law_some_ ?k__law_some ?a__law_rarely ?l__law_rarely ?c__law_rarely_ ?k__law_rarely ?a__law_names ?l__law_names ?c__law_names_ ?k__law_names ?a__law_same ?l__law_same ?c__law_same_ ?k__law_same ?a__law_lists ?l__law_lists ?c__law_lists_ ?k__law_lists ?a__law_some_names ?l__law_some_names ?c__law_some_names_ ?k__law_some_names ?a__law_plan ?l__law_plan ?c__law_plan_ ?k__law_plan ?a__law_times ?l__law_times ?c__law_times_ ?k__law_times ?a__law_many ?l__law_many ?c__law_many_ ?k__law_many ?a__law_items ?l__law_items ?c__law_items_ ?k__law_items ?a__law_written ?l__law_written ?c__law_written_ ?k__law_written ?a__law_roll ?l__law_roll ?c__law_roll_ ?k__law_roll ?a__law_read_back ?l__law_read_back ?c__law_read_back_ ?k__law_read_back ?a_law ?l_law ?c_law_ ?k_law ?aCE ?aLn ?xLn_ ?saLn ?eLn ?tLn ?kpLn ?inLn ?tILn ?noLn ?iLn ?gaLn ?ggLn ?klLn ?mrLn ?hdLn ?l_iLn ?c_iLn_ ?k_iLn ?aU ?xU_ ?saU ?eU ?tU ?kpU ?inU ?tIU ?noU ?iU ?gaU ?ggU ?klU ?mrU ?hdU ?l_iU ?c_iU_ ?k_iU ?aM ?xM_ ?saM ?eM ?tM ?kpM ?inM ?tIM ?noM ?iM ?gaM ?ggM ?klM ?mrM ?hdM ?l_iM ?c_iM_ ?k_iM ?gt ?tk ?aCR ?pgCR ?hdCR ?poCR ?saCR ?mkCR ?inCR ?fnCR ?kpCR ?nCR_length ?nCR_cues ?nCR__speakers ?nCR__naming ?l_iR ?c_iR_ ?k_iR ?aCP ?pgCP ?hdCP ?poCP ?saCP ?mkCP ?inCP ?fnCP ?kpCP ?nCP_reel ?nCP_pieces ?nCP__names ?nCP_arrows ?nCP_starts ?nCP_ends ?nCP__grain ?nCP__pieces ?nCP__sends ?nCP__factors ?nCP__shown ?nCP__behind ?nCP__strips ?l_iP ?c_iP_ ?k_iP ?aCS ?pgCS ?hdCS ?poCS ?saCS ?mkCS ?inCS ?fnCS ?kpCS ?nCS_first ?nCS_last ?nCS_linked ?nCS_many ?nCS_grains ?nCS_shows ?nCS_sent ?nCS_head ?nCS_tail ?l_iS ?c_iS_ ?k_iS ?aCT ?pgCT ?hdCT ?poCT ?saCT ?mkCT ?inCT ?fnCT ?kpCT ?nCT_name ?nCT_times ?nCT_parts ?nCT_body ?nCT_whole ?l_iPt ?c_iPt_ ?k_iPt ?aCRo ?pgCRo ?hdCRo ?poCRo ?saCRo ?mkCRo ?inCRo ?fnCRo ?kpCRo ?nCRo_plan ?nCRo_written ?nCRo__parts ?nCRo__whole ?l_iRo ?c_iRo_ ?k_iRo ?klCR ?mrCR ?klCP ?mrCP ?klCRo ?mrCRo ?nRS ?nRT ?lTD ?dTD ?lE ?clE ?dE ?rdCP ?gaCP ?fWA ?lWA ?clWA ?dWA ?a_eqR ?i_eqR ?l_eqR ?c_eqR_ ?k_eqR ?a_eqP ?i_eqP ?l_eqP ?c_eqP_ ?k_eqP ?a_eqRo ?i_eqRo ?l_eqRo ?c_eqRo_ ?k_eqRo ?a_shown_of ?i_shown_of ?l_shown_of ?c_shown_of_ ?k_shown_of ?a_strip_of ?i_strip_of ?l_strip_of ?c_strip_of_ ?k_strip_of ?a_followers ?i_followers ?l_followers ?c_followers_ ?k_followers ?a_sends_of ?i_sends_of ?l_sends_of ?c_sends_of_ ?k_sends_of ?a_has ?i_has ?l_has ?c_has_ ?k_has ?gP ?gT ?gQ ?gPi ?gRa ?gOn ?gLE ?gDI ?gMD ?gMI ?gMG ?gGc ?gLc ?z_isinstance ?z_int ?z_bool ?z_str ?z_len ?z_ord ?z_all ?z_enumerate ?z_max ?z_min ?z_abs ?z_range ?z_tuple ?z_list ?z_sorted ?z_set
    (case a_is_integer => k_is)
    (case l_is_integer => k_is)
    (case c_is_integer_ => k_is)
    (case k_is_integer => k_is)
    (case a_is_within => k_is)
    (case l_is_within => k_is)
    (case c_is_within_ => k_is)
    (case k_is_within => k_is)
    (case a_items_of => k_is)
    (case l_items_of => k_is)
    (case c_items_of_ => k_is)
    (case k_items_of => k_is)
    (case a_parts_of => k_is)
    (case l_parts_of => k_is)
    (case c_parts_of_ => k_is)
    (case k_parts_of => k_is)
    (case a_is_name => k_is)
    (case l_is_name => k_is)
    (case c_is_name_ => k_is)
    (case k_is_name => k_is)
    (case a_has_percent => k_is)
    (case l_has_percent => k_is)
    (case c_has_percent_ => k_is)
    (case k_has_percent => k_is)
    (case a_is_text => k_is)
    (case l_is_text => k_is)
    (case c_is_text_ => k_is)
    (case k_is_text => k_is)
    (case a_cue_of => k_is)
    (case l_cue_of => k_is)
    (case c_cue_of_ => k_is)
    (case k_cue_of => k_is)
    (case a_judged_cues => k_is)
    (case l_judged_cues => k_is)
    (case c_judged_cues_ => k_is)
    (case k_judged_cues => k_is)
    (case a_piece_of_form => k_is)
    (case l_piece_of_form => k_is)
    (case c_piece_of_form_ => k_is)
    (case k_piece_of_form => k_is)
    (case a_judged_pieces => k_is)
    (case l_judged_pieces => k_is)
    (case c_judged_pieces_ => k_is)
    (case k_judged_pieces => k_is)
    (case a_judged_arrows => k_is)
    (case l_judged_arrows => k_is)
    (case c_judged_arrows_ => k_is)
    (case k_judged_arrows => k_is)
    (case a_wrong_name => k_is)
    (case l_wrong_name => k_is)
    (case c_wrong_name_ => k_is)
    (case k_wrong_name => k_is)
    (case a_judged_starts => k_is)
    (case l_judged_starts => k_is)
    (case c_judged_starts_ => k_is)
    (case k_judged_starts => k_is)
    (case a_judged_ends => k_is)
    (case l_judged_ends => k_is)
    (case c_judged_ends_ => k_is)
    (case k_judged_ends => k_is)
    (case a_led_to => k_is)
    (case l_led_to => k_is)
    (case c_led_to_ => k_is)
    (case k_led_to => k_is)
    (case a_first_unreached => k_is)
    (case l_first_unreached => k_is)
    (case c_first_unreached_ => k_is)
    (case k_first_unreached => k_is)
    (case a_strip_of_piece => k_is)
    (case l_strip_of_piece => k_is)
    (case c_strip_of_piece_ => k_is)
    (case k_strip_of_piece => k_is)
    (case a_sends_of_piece => k_is)
    (case l_sends_of_piece => k_is)
    (case c_sends_of_piece_ => k_is)
    (case k_sends_of_piece => k_is)
    (case a_joins => k_is)
    (case l_joins => k_is)
    (case c_joins_ => k_is)
    (case k_joins => k_is)
    (case a_piece_stretch => k_is)
    (case l_piece_stretch => k_is)
    (case c_piece_stretch_ => k_is)
    (case k_piece_stretch => k_is)
    (case a_behind_one_another => k_is)
    (case l_behind_one_another => k_is)
    (case c_behind_one_another_ => k_is)
    (case k_behind_one_another => k_is)
    (case a_repeated => k_is)
    (case l_repeated => k_is)
    (case c_repeated_ => k_is)
    (case k_repeated => k_is)
    (case a_all_of => k_is)
    (case l_all_of => k_is)
    (case c_all_of_ => k_is)
    (case k_all_of => k_is)
    (case a_part_of => k_is)
    (case l_part_of => k_is)
    (case c_part_of_ => k_is)
    (case k_part_of => k_is)
    (case a_repeat_of => k_is)
    (case l_repeat_of => k_is)
    (case c_repeat_of_ => k_is)
    (case k_repeat_of => k_is)
    (case a_judged_items => k_is)
    (case l_judged_items => k_is)
    (case c_judged_items_ => k_is)
    (case k_judged_items => k_is)
    (case a_judged_roll => k_is)
    (case l_judged_roll => k_is)
    (case c_judged_roll_ => k_is)
    (case k_judged_roll => k_is)
    (case a_write_item => k_is)
    (case l_write_item => k_is)
    (case c_write_item_ => k_is)
    (case k_write_item => k_is)
    (case a_write_roll => k_is)
    (case l_write_roll => k_is)
    (case c_write_roll_ => k_is)
    (case k_write_roll => k_is)
    (case a_run_end => k_is)
    (case l_run_end => k_is)
    (case c_run_end_ => k_is)
    (case k_run_end => k_is)
    (case a_stands => k_is)
    (case l_stands => k_is)
    (case c_stands_ => k_is)
    (case k_stands => k_is)
    (case a_is_times => k_is)
    (case l_is_times => k_is)
    (case c_is_times_ => k_is)
    (case k_is_times => k_is)
    (case a_read_item => k_is)
    (case l_read_item => k_is)
    (case c_read_item_ => k_is)
    (case k_read_item => k_is)
    (case a_read_items => k_is)
    (case l_read_items => k_is)
    (case c_read_items_ => k_is)
    (case k_read_items => k_is)
    (case a_read_roll => k_is)
    (case l_read_roll => k_is)
    (case c_read_roll_ => k_is)
    (case k_read_roll => k_is)
    (case a__law_tape => k_is)
    (case l__law_tape => k_is)
    (case c__law_tape_ => k_is)
    (case k__law_tape => k_is)
    (case a__law_pick => k_is)
    (case l__law_pick => k_is)
    (case c__law_pick_ => k_is)
    (case k__law_pick => k_is)
    (case a__law_some => k_is)
    (case l__law_some => k_is)
    (case c__law_some_ => k_is)
    (case k__law_some => k_is)
    (case a__law_rarely => k_is)
    (case l__law_rarely => k_is)
    (case c__law_rarely_ => k_is)
    (case k__law_rarely => k_is)
    (case a__law_names => k_is)
    (case l__law_names => k_is)
    (case c__law_names_ => k_is)
    (case k__law_names => k_is)
    (case a__law_same => k_is)
    (case l__law_same => k_is)
    (case c__law_same_ => k_is)
    (case k__law_same => k_is)
    (case a__law_lists => k_is)
    (case l__law_lists => k_is)
    (case c__law_lists_ => k_is)
    (case k__law_lists => k_is)
    (case a__law_some_names => k_is)
    (case l__law_some_names => k_is)
    (case c__law_some_names_ => k_is)
    (case k__law_some_names => k_is)
    (case a__law_plan => k_is)
    (case l__law_plan => k_is)
    (case c__law_plan_ => k_is)
    (case k__law_plan => k_is)
    (case a__law_times => k_is)
    (case l__law_times => k_is)
    (case c__law_times_ => k_is)
    (case k__law_times => k_is)
    (case a__law_many => k_is)
    (case l__law_many => k_is)
    (case c__law_many_ => k_is)
    (case k__law_many => k_is)
    (case a__law_items => k_is)
    (case l__law_items => k_is)
    (case c__law_items_ => k_is)
    (case k__law_items => k_is)
    (case a__law_written => k_is)
    (case l__law_written => k_is)
    (case c__law_written_ => k_is)
    (case k__law_written => k_is)
    (case a__law_roll => k_is)
    (case l__law_roll => k_is)
    (case c__law_roll_ => k_is)
    (case k__law_roll => k_is)
    (case a__law_read_back => k_is)
    (case l__law_read_back => k_is)
    (case c__law_read_back_ => k_is)
    (case k__law_read_back => k_is)
    (case a_law => k_is)
    (case l_law => k_is)
    (case c_law_ => k_is)
    (case k_law => k_is)
    (case aCE => k_is)
    (case aLn => k_is)
    (case xLn_ => k_is)
    (case saLn => k_is)
    (case eLn => k_is)
    (case tLn => k_is)
    (case kpLn => k_is)
    (case inLn => k_is)
    (case tILn => k_is)
    (case noLn => k_is)
    (case iLn => k_is)
    (case gaLn => k_is)
    (case ggLn => k_is)
    (case klLn => k_is)
    (case mrLn => k_is)
    (case hdLn => k_is)
    (case l_iLn => k_is)
    (case c_iLn_ => k_is)
    (case k_iLn => k_is)
    (case aU => k_is)
    (case xU_ => k_is)
    (case saU => k_is)
    (case eU => k_is)
    (case tU => k_is)
    (case kpU => k_is)
    (case inU => k_is)
    (case tIU => k_is)
    (case noU => k_is)
    (case iU => k_is)
    (case gaU => k_is)
    (case ggU => k_is)
    (case klU => k_is)
    (case mrU => k_is)
    (case hdU => k_is)
    (case l_iU => k_is)
    (case c_iU_ => k_is)
    (case k_iU => k_is)
    (case aM => k_is)
    (case xM_ => k_is)
    (case saM => k_is)
    (case eM => k_is)
    (case tM => k_is)
    (case kpM => k_is)
    (case inM => k_is)
    (case tIM => k_is)
    (case noM => k_is)
    (case iM => k_is)
    (case gaM => k_is)
    (case ggM => k_is)
    (case klM => k_is)
    (case mrM => k_is)
    (case hdM => k_is)
    (case l_iM => k_is)
    (case c_iM_ => k_is)
    (case k_iM => k_is)
    (case gt => k_is)
    (case tk => k_is)
    (case aCR => k_is)
    (case pgCR => k_is)
    (case hdCR => k_is)
    (case poCR => k_is)
    (case saCR => k_is)
    (case mkCR => k_is)
    (case inCR => k_is)
    (case fnCR => k_is)
    (case kpCR => k_is)
    (case nCR_length => k_is)
    (case nCR_cues => k_is)
    (case nCR__speakers => k_is)
    (case nCR__naming => k_is)
    (case l_iR => k_is)
    (case c_iR_ => k_is)
    (case k_iR => k_is)
    (case aCP => k_is)
    (case pgCP => k_is)
    (case hdCP => k_is)
    (case poCP => k_is)
    (case saCP => k_is)
    (case mkCP => k_is)
    (case inCP => k_is)
    (case fnCP => k_is)
    (case kpCP => k_is)
    (case nCP_reel => k_is)
    (case nCP_pieces => k_is)
    (case nCP__names => k_is)
    (case nCP_arrows => k_is)
    (case nCP_starts => k_is)
    (case nCP_ends => k_is)
    (case nCP__grain => k_is)
    (case nCP__pieces => k_is)
    (case nCP__sends => k_is)
    (case nCP__factors => k_is)
    (case nCP__shown => k_is)
    (case nCP__behind => k_is)
    (case nCP__strips => k_is)
    (case l_iP => k_is)
    (case c_iP_ => k_is)
    (case k_iP => k_is)
    (case aCS => k_is)
    (case pgCS => k_is)
    (case hdCS => k_is)
    (case poCS => k_is)
    (case saCS => k_is)
    (case mkCS => k_is)
    (case inCS => k_is)
    (case fnCS => k_is)
    (case kpCS => k_is)
    (case nCS_first => k_is)
    (case nCS_last => k_is)
    (case nCS_linked => k_is)
    (case nCS_many => k_is)
    (case nCS_grains => k_is)
    (case nCS_shows => k_is)
    (case nCS_sent => k_is)
    (case nCS_head => k_is)
    (case nCS_tail => k_is)
    (case l_iS => k_is)
    (case c_iS_ => k_is)
    (case k_iS => k_is)
    (case aCT => k_is)
    (case pgCT => k_is)
    (case hdCT => k_is)
    (case poCT => k_is)
    (case saCT => k_is)
    (case mkCT => k_is)
    (case inCT => k_is)
    (case fnCT => k_is)
    (case kpCT => k_is)
    (case nCT_name => k_is)
    (case nCT_times => k_is)
    (case nCT_parts => k_is)
    (case nCT_body => k_is)
    (case nCT_whole => k_is)
    (case l_iPt => k_is)
    (case c_iPt_ => k_is)
    (case k_iPt => k_is)
    (case aCRo => k_is)
    (case pgCRo => k_is)
    (case hdCRo => k_is)
    (case poCRo => k_is)
    (case saCRo => k_is)
    (case mkCRo => k_is)
    (case inCRo => k_is)
    (case fnCRo => k_is)
    (case kpCRo => k_is)
    (case nCRo_plan => k_is)
    (case nCRo_written => k_is)
    (case nCRo__parts => k_is)
    (case nCRo__whole => k_is)
    (case l_iRo => k_is)
    (case c_iRo_ => k_is)
    (case k_iRo => k_is)
    (case klCR => k_is)
    (case mrCR => k_is)
    (case klCP => k_is)
    (case mrCP => k_is)
    (case klCRo => k_is)
    (case mrCRo => k_is)
    (case nRS => decide)
    (case nRT => decide)
    (case lTD => k_is)
    (case dTD => rfl)
    (case lE => k_is)
    (case clE => rfl)
    (case dE => rfl)
    (case rdCP => k_is)
    (case gaCP => k_is)
    (case fWA => k_is)
    (case lWA => k_is)
    (case clWA => rfl)
    (case dWA => rfl)
    (case a_eqR => k_is)
    (case i_eqR => k_is)
    (case l_eqR => k_is)
    (case c_eqR_ => k_is)
    (case k_eqR => k_is)
    (case a_eqP => k_is)
    (case i_eqP => k_is)
    (case l_eqP => k_is)
    (case c_eqP_ => k_is)
    (case k_eqP => k_is)
    (case a_eqRo => k_is)
    (case i_eqRo => k_is)
    (case l_eqRo => k_is)
    (case c_eqRo_ => k_is)
    (case k_eqRo => k_is)
    (case a_shown_of => k_is)
    (case i_shown_of => k_is)
    (case l_shown_of => k_is)
    (case c_shown_of_ => k_is)
    (case k_shown_of => k_is)
    (case a_strip_of => k_is)
    (case i_strip_of => k_is)
    (case l_strip_of => k_is)
    (case c_strip_of_ => k_is)
    (case k_strip_of => k_is)
    (case a_followers => k_is)
    (case i_followers => k_is)
    (case l_followers => k_is)
    (case c_followers_ => k_is)
    (case k_followers => k_is)
    (case a_sends_of => k_is)
    (case i_sends_of => k_is)
    (case l_sends_of => k_is)
    (case c_sends_of_ => k_is)
    (case k_sends_of => k_is)
    (case a_has => k_is)
    (case i_has => k_is)
    (case l_has => k_is)
    (case c_has_ => k_is)
    (case k_has => k_is)
    (case gP => k_is)
    (case gT => k_is)
    (case gQ => k_is)
    (case gPi => k_is)
    (case gRa => k_is)
    (case gOn => k_is)
    (case gLE => k_is)
    (case gDI => k_is)
    (case gMD => k_is)
    (case gMI => k_is)
    (case gMG => k_is)
    (case gGc => k_is)
    (case gLc => k_is)
    (case z_isinstance => k_is)
    (case z_int => k_is)
    (case z_bool => k_is)
    (case z_str => k_is)
    (case z_len => k_is)
    (case z_ord => k_is)
    (case z_all => k_is)
    (case z_enumerate => k_is)
    (case z_max => k_is)
    (case z_min => k_is)
    (case z_abs => k_is)
    (case z_range => k_is)
    (case z_tuple => k_is)
    (case z_list => k_is)
    (case z_sorted => k_is)
    (case z_set => k_is)
end
