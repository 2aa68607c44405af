import PyProof.Rows.All
import Wide.All
import OpenK.AllK
import Wide.FinOn
import KE.KMinKey
import KE.KExcIs
import HandS.ForMost
import HandS.Walk
import HandS.SortKw
import HandS.Exc
import HandS.ExcInit
import HandS.ExcField
import HandS.TryMany
import HandS.IsInst
import HandS.WordsExc
import HandS.StrMore
import HandS.CallSlots
import HandS.Codes
import HandS.Set
import HandS.Strs
import HandS.SetFor
import PyProof.WalksS
import HandS.Zip0
import HandS.List
import PyProof.ReprRoads
import HandS.OwnEq
import HandS.IterVal
import HandS.FStr
import HandS.Defaults
import HandS.Property
import HandS.Flow
import HandS.Ends
import PySem.Challenge.RW_seamfast_k01_reels_judged
set_option Elab.async false
set_option linter.all false
set_option maxRecDepth 100000
set_option maxHeartbeats 4000000
/-! enumerate over a text, as something that a for or a comprehension walks. -/
namespace Sea
open PySem PySem.Spec PyProof.Rows L2
/-- the signs of x, each with its number, in a new pair -/
def Iens (x : Str) : It where
  go := fun i _ => i < x.cps.size
  yld := fun i H v H' => ∃ T c, v = .ref T ∧ H T = none ∧ x.cps[i]? = some c ∧ H' = upd H T (.tup [.int (i : Nat), .str ⟨#[c]⟩])
  stop := fun i _ => x.cps.size ≤ i
theorem drawsOf {prog : Program} {w : World} {A : Around} (hh : A.handled = none) (it : Addr) (x : Str) (t : Tok) :
    Draws prog w A it [it] x.cps.size (fun i v => ∃ c u, x.cps[i]? = some c ∧ v = .str ⟨#[c]⟩ u)
      (fun i h => h.IsStrIter it (strIterType x) x t i) := by
  unfold strIterType
  cases x.cps.all (· < 128)
  · exact Draws.strWide hh it x t
  · exact Draws.strAscii hh it x t
theorem turn_ens {P : Program} {w : World} {K : PySem.W.Frag} {elts : List Expr} {kk : Nat} {tpos : Pos}
    (x : Str) (t : Tok) (e it : Addr) (hne : e ≠ it) :
    Turn P w K (.Tuple elts kk tpos) (Iens x) [e, it] e
      (fun i h => (∃ old, IsEnum h e it ((i : Nat) : Int) old) ∧ h.IsStrIter it (strIterType x) x t i) where
  mem := List.mem_cons_self
  obj := fun i h st b hb => by
    obtain ⟨⟨old, he⟩, o, ho, hc, hd⟩ := st
    rcases List.mem_cons.mp hb with z | z
    · subst z
      exact ⟨_, he, fun v q => nomatch q⟩
    · rw [List.mem_singleton.mp z]
      exact ⟨o, ho, fun v q => by rw [hd] at q; cases q⟩
  keep := fun i h h' st k => by
    obtain ⟨⟨old, he⟩, o, ho, r⟩ := st
    exact ⟨⟨old, k e List.mem_cons_self _ he⟩, o, k it (List.mem_cons_of_mem _ List.mem_cons_self) o ho, r⟩
  item := by
    intro X hP hw hK hc i pins s σ H E I hf st hg
    subst hP
    subst hw
    subst hK
    obtain ⟨⟨old, he⟩, hit⟩ := st
    have hel : e < s.heap.objs.size := Heap.lt_size he
    have hil : it < s.heap.objs.size := by
      obtain ⟨_, q, _⟩ := hit
      exact Heap.lt_size q
    have D := drawsOf (prog := X.prog) (w := X.w) (A := X.A.in1) (I.ok.hd hc) it x t
    refine wpAny_pyNext_enum_itemD D he hit hg hne (fun q => hne (List.mem_singleton.mp q)) fun y h' tk hP ho hit' hT hsz hk => ?_
    obtain ⟨c, u, hcx, rfl⟩ := hP
    refine ⟨_, rfl, wpAny_letOwnedTupleGo_enum (s := ⟨h', s.gens, s.drawn, tk + 1, s.os⟩) ho fun h2 he2 sb => ?_⟩
    have hT2 : h2.get? s.heap.objs.size = some { cls := .type "tuple", data := .seq #[.int i tk, .str ⟨#[c]⟩ u] } :=
      (sb.2 _ (Nat.ne_of_gt hel)).trans hT
    have nw : ObjOk X.prog X.w (upd H s.heap.objs.size (.tup [.int (i : Nat), .str ⟨#[c]⟩])) h2 s.heap.objs.size (.tup [.int (i : Nat), .str ⟨#[c]⟩]) :=
      ⟨by show 2 ≤ sizeLine; decide, [.int i tk, .str ⟨#[c]⟩ u], .cons ⟨_, rfl⟩ (.cons ⟨_, rfl⟩ .nil), ⟨_, hT2, rfl, _, rfl⟩⟩
    have kk2 : ∀ b ob, b ∉ [e, it] → s.heap.get? b = some ob → h2.get? b = some ob := fun b ob hb q => by
      have b1 : b ≠ e := fun z => hb (z ▸ List.mem_cons_self)
      have b2 : b ≠ it := fun z => hb (z ▸ List.mem_cons_of_mem _ List.mem_cons_self)
      exact (sb.2 b b1).trans (hk b ob b1 b2 q)
    have J : Inv X pins σ (upd H s.heap.objs.size (.tup [.int (i : Nat), .str ⟨#[c]⟩])) ⟨h2, s.gens, s.drawn, tk + 1, s.os⟩ :=
      I.turnedNew (t' := tk + 1) kk2 hf (Nat.le_refl _) nw
    refine ⟨.ref s.heap.objs.size, _, J, rfl, ⟨_, c, rfl, I.hok.fresh (Nat.le_refl _), hcx, rfl⟩, ⟨⟨.str ⟨#[c]⟩ u, ?_⟩, ?_⟩, fun b hb => ?_⟩
    · have e1 : ((i + 1 : Nat) : Int) = (i : Int) + 1 := Int.natCast_succ i
      rw [e1]
      exact he2
    · obtain ⟨o, ho2, r⟩ := hit'
      exact ⟨o, (sb.2 it hne.symm).trans ho2, r⟩
    · have hlt : b < s.heap.objs.size := by
        rcases List.mem_cons.mp hb with z | z
        · exact z ▸ hel
        · exact (List.mem_singleton.mp z) ▸ hil
      rw [upd_ne (Nat.ne_of_lt hlt)]
      exact (hf b hb).1
  done := by
    intro X hP hw hK hc i pins s σ H E I hf st hg
    subst hP
    subst hw
    subst hK
    obtain ⟨⟨old, he⟩, hit⟩ := st
    obtain ⟨f0, f1, f2, f3, f4, f5⟩ := hf it (List.mem_cons_of_mem _ List.mem_cons_self)
    have hx : x.cps[i]? = none := Array.getElem?_eq_none hg
    have hT : s.TypeIs (.ref e) "enumerate" := ⟨_, he, rfl⟩
    unfold pyNext
    refine wpAny_bind (wpAny_attempt (wpAny_callSpecial?_slot (name := Str.ofString "__next__") hT F.slot_enumerate_next
      (wpAny_call_entry F.slot_enumerate_next hT F.entry_enumerate_next ?_ (F.args_enumerate_next_1 _))))
    show wpAny _ _ (field (.ref e) 2 >>= _) _ _ _
    refine wpAny_bind (wpAny_field he rfl (x := .ref it) rfl ?_)
    have fin : ∀ h' z, Heap.ExtBut it s.heap h' → (∃ o, h'.get? z = some o ∧ o.cls = .type "StopIteration") →
        Inv X pins σ H { s with heap := h' } := fun h' z eb _ => I.turned (t' := s.toks) (fun b o hb q => eb b o hb q) f0 f1 f3 f4 f5
    unfold strIterType at hit
    cases ha : x.cps.all (· < 128)
    · rw [ha] at hit
      refine wpAny_bind (wpAny_nextOf_wide_end (I.ok.hd hc) hit hx fun h' z eb hs => ?_)
      obtain ⟨o, ho, hcl⟩ := id hs
      refine wpAny_bind (wpAny_isInstance (T := "StopIteration") (b := true) ⟨o, ho, hcl⟩ isSubtype_stop ?_)
      exact wpAny_pure ⟨rfl, fin h' z eb hs⟩
    · rw [ha] at hit
      refine wpAny_bind (wpAny_nextOf_ascii_end (I.ok.hd hc) hit hx fun h' z eb hs => ?_)
      obtain ⟨o, ho, hcl⟩ := id hs
      refine wpAny_bind (wpAny_isInstance (T := "StopIteration") (b := true) ⟨o, ho, hcl⟩ isSubtype_stop ?_)
      exact wpAny_pure ⟨rfl, fin h' z eb hs⟩
  self := fun A i s Q E st h => by
    obtain ⟨⟨_, he⟩, _⟩ := st
    exact wpAny_pyIter_enum he h
def iEnS (ta : TA) : TI := fun σ H R => ta σ H fun vs H1 => ∃ x, vs = [.str x] ∧ R (Iens x) H1
theorem pi_ens {X : Cx} {e : Expr} {ta : TA} {p pos tpos : Pos} {elts : List Expr} {kk : Nat} (hg : Gl X "enumerate") (hm : X.mg "enumerate" = none)
    (ha : PA X [e] ta) (hs : starEach [e] X.env = [(false, eval e X.env)] := by rfl) :
    PI X (.Tuple elts kk tpos) (.Call (.Name "enumerate" p) [e] [] pos) (iEnS ta) := by
  refine ⟨fun pins s σ H R I h => ?_⟩
  refine Call_ (ld_blt I hg hm boot_enumerate (PyProof.Rows.callWith_type1 (thn (ha.run pos pins s σ H _ I h)
    fun us s1 ⟨vs, H1, I1, r1, x, ex, q⟩ => ?_) hs rfl))
  subst ex
  cases r1 with
  | cons r rr =>
    cases rr
    obtain ⟨t, rfl⟩ := r
    refine call_enumerate_str fun h' he hit hsz hk => wpAny_pyIter_enum he ?_
    have I2 : Inv X pins σ H1 { s1 with heap := h' } := I1.kept (t' := s1.toks) hk
    have ne : s1.heap.objs.size + 1 ≠ s1.heap.objs.size := Nat.succ_ne_self _
    refine ⟨s1.heap.objs.size + 1, [s1.heap.objs.size + 1, s1.heap.objs.size], _, _, H1, rfl, I2, turn_ens x t _ _ ne, ⟨⟨.none, he⟩, hit⟩, fun b hb => ?_, q⟩
    have hle : s1.heap.objs.size ≤ b := by
      rcases List.mem_cons.mp hb with z | z
      · exact z ▸ Nat.le_succ _
      · exact (List.mem_singleton.mp z) ▸ Nat.le_refl _
    exact I1.fpOk hle (I1.hok.fresh hle)
/-- the turns of it, for for_it and lc_it -/
theorem walk_ens {x : Str} : Walk (Iens x) x.cps.size (fun _ => True)
    (fun i H v H' => ∃ T c, v = .ref T ∧ H T = none ∧ x.cps[i]? = some c ∧ H' = upd H T (.tup [.int (i : Nat), .str ⟨#[c]⟩])) :=
  ⟨fun _ _ hi _ => hi, fun _ _ => Nat.le_refl _, fun _ _ _ _ _ _ y => y⟩
end Sea
/-! min(list, key = an own def of one parameter that changes nothing and gives an int): the first item of the least key. -/
namespace Sea
open PySem PySem.Spec PyProof.Rows L2
/-- kf at i is the least, and stands first -/
def LeastAt (kf : Nat → Int) (n i : Nat) : Prop := i < n ∧ ∀ j, j < n → kf i ≤ kf j ∧ (j < i → kf i < kf j)
section
variable {X : Cx} {pins : List (Addr × Obj)} {σ : L2.St} {H : Hp} {Q : VK} {k : Nat} {f a : Addr} {fd : FuncData} {p : Str} {sp : Sp} {ys : List V} {kf : Nat → Int}
theorem FpOk.nostk {s : Shared} {b : Addr} (I : Inv X pins σ H s) (h : FpOk X pins H b) : b ∉ frs X.stack := fun z => by
  rcases List.mem_cons.mp (I.stkSub b z) with e | e
  · exact h.2.1 e
  · exact h.2.2.1 e
/-- the key of one item is asked -/
theorem key_turn (F : FnOk X.prog X.w X.K X.mg X.base CX0 k f fd [p] sp) (hr : Room (k + 1) X.A) (hb : Binds X.K fd [p] [])
    {s : Shared} {y : V} {v : Value} {n : Int} (I : Inv X pins σ H s) (ry : RelV y v) (hsp : sp [y] H (fun u H' => u = .int n ∧ H' = H) E0) {E : Value → Shared → Prop} :
    wpAny (model X.prog X.w) X.A.in1 (call (.ref f) [v]) (fun u s' => (∃ t, u = .int n t) ∧ Inv X pins σ H s' ∧
      ∀ b o, FpOk X pins H b → s.heap.get? b = some o → s'.heap.get? b = some o) E s := by
  refine wpAny_call (codeAny_mono (F.run X.A.in1 X.stack s H ⟨[v], []⟩ ([v] ++ []) [y] _ E0 hr.in1 I.env0.in1 (hb s [v] I.kIn rfl) (.cons ry .nil) hsp) fun r s' hq => ?_)
  cases r with
  | error e => exact False.elim hq
  | ok fl =>
    cases fl with
    | ret u =>
      obtain ⟨y', H', os, bare, un, hok, r', q1, q2⟩ := hq
      subst q1
      subst q2
      refine ⟨r', I.call' (ch := []) os un hok bare (fun b z => nomatch z), fun b o fp e => ?_⟩
      exact un.keep b o e fp.1 (FpOk.nostk (s := s) I fp) (fun z => nomatch z)
    | next => exact False.elim hq
    | brk => exact False.elim hq
    | cont => exact False.elim hq
theorem under_min (A : Around) (z : Args) : A.under (.builtin "min.loop" z) = A.in1 := Around.under_plainId PySem.F.plain_min_loop _
theorem minkey_loop (hc : X.calm = true) (F : FnOk X.prog X.w X.K X.mg X.base CX0 k f fd [p] sp) (hr : Room (k + 1) X.A) (hb : Binds X.K fd [p] [])
    (hq : SqL X.K H a ys) (hk : ∀ i y, ys[i]? = some y → sp [y] H (fun u H' => u = .int (kf i) ∧ H' = H) E0)
    (hQ : ∀ i y, ys[i]? = some y → LeastAt kf ys.length i → Q y H) {I S : Addr} (fI : FpOk X pins H I) (fS : FpOk X pins H S) (hIS : I ≠ S) :
    ∀ (r j i : Nat) (s : Shared) (y : V) (vb : Value) (tb : Tok) (c : Nat), ys.length - (j + 1) = r → j + 1 ≤ ys.length → Inv X pins σ H s →
      s.heap.IsListIter I a (j + 1) → s.heap.get? S = some (seqObj "list" #[vb, .int (kf i) tb] c) → ys[i]? = some y → RelV y vb → i ≤ j →
      (∀ j', j' ≤ j → kf i ≤ kf j' ∧ (j' < i → kf i < kf j')) →
      codeAny (model X.prog X.w) X.A (.builtin "min.loop" ⟨[.ref I, .ref f, .ref S], []⟩)
        (fun r s' => match r with | .ok (.ret v) => EP X pins σ Q v s' | .ok _ => False | .error e => X.xe e s') s := by
  have hname : (toString "min" ++ toString ".loop" : String) = "min.loop" := by decide
  intro r
  induction r with
  | zero =>
    intro j i s y vb tb c er hj J hit hS hy ry hij hbest
    have ej : j + 1 = ys.length := by omega
    obtain ⟨its, rv, pl, hz⟩ := J.list hq
    have hlen := rv.length
    refine codeAny_builtin PySem.F.entry_min_loop ?_
    rw [under_min]
    show wpAny _ X.A.in1 (seqItems? (.ref S) >>= _) _ _ _
    refine wpAny_bind (wpAny_seqItems hS rfl ?_)
    show wpAny _ X.A.in1 (tryCatch (pyNext (.ref I)) _ >>= _) _ _ _
    refine wpAny_bind (wpAny_tryCatch (wpAny_pyNext_list_end (J.ok.hd hc) hit pl.isList (by simp; omega) fun h' eb => ?_))
    have J1 : Inv X pins σ H { s with heap := h' } := J.turned (t' := s.toks) (fun b o hb e => eb b o hb e) fI.1 fI.2.1 fI.2.2.2.1 fI.2.2.2.2.1 fI.2.2.2.2.2
    have hS1 : h'.get? S = some (seqObj "list" #[vb, .int (kf i) tb] c) := eb S _ hIS.symm hS
    show wpAny _ X.A.in1 (updateSeq S (fun _ => #[]) >>= _) _ _ _
    refine wpAny_bind (wpAny_updateSeq hS1 rfl (wpAny_bind (wpAny_letGo (wpAny_pure ?_))))
    have sb := Heap.SameBut.update h' S (Obj.mapSeq fun _ => (#[] : Array Value))
    refine ⟨y, H, J1.turned (t' := s.toks) (fun b o hb e => (sb.2 b hb).trans e) fS.1 fS.2.1 fS.2.2.2.1 fS.2.2.2.2.1 fS.2.2.2.2.2, ry, hQ i y hy ⟨by omega, fun j' hj' => hbest j' (by omega)⟩⟩
  | succ r ih =>
    intro j i s y vb tb c er hj J hit hS hy ry hij hbest
    have hlt : j + 1 < ys.length := by omega
    obtain ⟨its, rv, pl, hz⟩ := J.list hq
    obtain ⟨u, hu, ru⟩ := rv.get (show ys[j + 1]? = some ys[j + 1] from List.getElem?_eq_getElem hlt)
    refine codeAny_builtin PySem.F.entry_min_loop ?_
    rw [under_min]
    show wpAny _ X.A.in1 (seqItems? (.ref S) >>= _) _ _ _
    refine wpAny_bind (wpAny_seqItems hS rfl ?_)
    show wpAny _ X.A.in1 (tryCatch (pyNext (.ref I)) _ >>= _) _ _ _
    refine wpAny_bind (wpAny_tryCatch (wpAny_pyNext_list_item hit pl.isList (x := u) (by simpa using hu) fun h' hit' sb => ?_))
    have J1 : Inv X pins σ H { s with heap := h' } := J.turned (t' := s.toks) (fun b o hb e => (sb.2 b hb).trans e) fI.1 fI.2.1 fI.2.2.2.1 fI.2.2.2.2.1 fI.2.2.2.2.2
    have hS1 : h'.get? S = some (seqObj "list" #[vb, .int (kf i) tb] c) := (sb.2 S hIS.symm).trans hS
    show wpAny _ X.A.in1 (tryCatch (holding [u] (call (.ref f) [u])) _ >>= _) _ _ _
    refine wpAny_bind (wpAny_tryCatch (wpAny_holding (wpAny_mono (key_turn F hr hb J1 ru (hk (j + 1) _ (List.getElem?_eq_getElem hlt)) (E := fun _ _ => False)) (fun w2 s2 he => ?_) fun _ _ hF => hF.elim)))
    obtain ⟨⟨t2, rfl⟩, J2, kp⟩ := he
    obtain ⟨oI, hoI, hcI, hdI⟩ := hit'
    have hI2 : s2.heap.IsListIter I a (j + 1 + 1) := ⟨oI, kp I oI fI hoI, hcI, hdI⟩
    have hS2 := kp S _ fS hS1
    show wpAny _ X.A.in1 (tryCatch (holding [u, .int (kf (j + 1)) t2] (richCompare .Lt (.int (kf (j + 1)) t2) (.int (kf i) tb) >>= _)) _ >>= _) _ _ _
    refine wpAny_bind (wpAny_tryCatch (wpAny_holding (wpAny_bind (CmpOf.ints_lt (prog := X.prog) (w := X.w) (A := X.A.in1) (P := fun i v => ∃ t, v = .int (kf i) t) kf (fun i v h => h) (j + 1) i _ _ _ _ _ ⟨t2, rfl⟩ ⟨tb, rfl⟩ ?_))))
    refine wpAny_bind (wpAny_holding (wpAny_truthy_bool ?_))
    refine wpAny_bind (wpAny_letGo (wpAny_pure ?_))
    by_cases less : kf (j + 1) < kf i
    · simp only [less, decide_true, if_true]
      have s1 := Heap.SameBut.update s2.heap S (Obj.mapSeq fun _ => #[u, .int (kf (j + 1)) t2])
      obtain ⟨c2, hc2⟩ : ∃ c2, (s2.heap.update S (Obj.mapSeq fun _ => #[u, .int (kf (j + 1)) t2])).get? S = some (seqObj "list" #[u, .int (kf (j + 1)) t2] c2) := ⟨_, get?_update_seq hS2 fun _ => #[u, .int (kf (j + 1)) t2]⟩
      refine wpAny_bind ?_
      refine wpAny_updateSeq hS2 rfl (wpAny_bind (wpAny_letGo ?_))
      rw [hname]
      refine wpAny_pure ⟨plainId_quiet PySem.F.plain_min_loop _, ih (j + 1) (j + 1) _ _ u t2 c2 (by omega) hlt
        (J2.turned (t' := s2.toks) (fun b o hb e => (s1.2 b hb).trans e) fS.1 fS.2.1 fS.2.2.2.1 fS.2.2.2.2.1 fS.2.2.2.2.2) ?_ hc2 (List.getElem?_eq_getElem hlt) ru (Nat.le_refl _) fun j' hj' => ?_⟩
      · obtain ⟨o, h1, h2, h3⟩ := hI2
        exact ⟨o, (s1.2 I hIS).trans h1, h2, h3⟩
      · by_cases e : j' = j + 1
        · subst e
          exact ⟨Int.le_refl _, fun z => absurd z (Nat.lt_irrefl _)⟩
        · have b1 := (hbest j' (by omega)).1
          exact ⟨by omega, fun _ => by omega⟩
    · simp only [less, decide_false, Bool.false_eq_true, if_false]
      refine wpAny_bind (wpAny_letGo ?_)
      rw [hname]
      refine wpAny_pure ⟨plainId_quiet PySem.F.plain_min_loop _, ih (j + 1) i _ y vb tb c (by omega) hlt J2 hI2 hS2 hy ry (by omega) fun j' hj' => ?_⟩
      by_cases e : j' = j + 1
      · subst e
        exact ⟨by omega, fun z => absurd z (by omega)⟩
      · exact hbest j' (by omega)
/-- what is asked of min(xs, key = f) -/
def rMinKey (K : PySem.W.Frag) (f : Addr) (sp : Sp) : List V → List V → Hp → VK → Prop := fun xs zs H Q => ∃ (a : Addr) (ys : List V) (kf : Nat → Int),
  xs = [.ref a] ∧ zs = [.ref f] ∧ SqL K H a ys ∧ 0 < ys.length ∧ (∀ i y, ys[i]? = some y → sp [y] H (fun u H' => u = .int (kf i) ∧ H' = H) E0) ∧
  ∀ i y, ys[i]? = some y → LeastAt kf ys.length i → Q y H
theorem minkey_tree {pr : Program} {w : World} {A : Around} {E : Value → Shared → Prop} {s : Shared} {args : List Value} {kw : List (Str × Value)} {Q : Value → Shared → Prop}
    (ha : argsOk "min" ⟨args, kw⟩)
    (h : wpAny (model pr w) A.in1 (Builtin.«min» ⟨args, kw⟩) (fun fin s' => match fin with
      | .done g => (match (Except.ok g : Result) with | .ok (.ret v) => Q v s' | .ok _ => False | .error e => E e s')
      | .again c' => c'.quiet = true ∧ codeAny (model pr w) A c' (fun r s' => match r with | .ok (.ret v) => Q v s' | .ok _ => False | .error e => E e s') s') E s) :
    wpAny (model pr w) A (call (.builtin "min") args kw) Q E s :=
  kmk_tree PySem.F.kind_min PySem.F.plain_min PySem.F.entry_min ha h
theorem cr_minKey (hc : X.calm = true) (F : FnOk X.prog X.w X.K X.mg X.base CX0 k f fd [p] sp) (hr : Room (k + 1) X.A) (hb : Binds X.K fd [p] []) :
    CallRK X (.builtin "min") [Str.ofString "key"] (rMinKey X.K f sp) := by
  intro pins s σ H xs zs us ws Q J r1 r2 h
  obtain ⟨a, ys, kf, rfl, rfl, hq, hne, hk, hQ⟩ := h
  cases r1 with
  | cons ra rr =>
  cases rr
  cases r2 with
  | cons rf rr =>
  cases rr
  cases ra
  cases rf
  have hname : (toString "min" ++ toString ".loop" : String) = "min.loop" := by decide
  obtain ⟨its, rv, pl, hz⟩ := J.list hq
  refine minkey_tree (kmk_min_key _ _) ?_
  show wpAny _ X.A.in1 (Builtin.Builtins.bindParams "min" ["key", "default"] 0 ⟨[], [(Str.ofString "key", .ref f)]⟩ >>= _) _ _ s
  refine wpAny_bind (wpAny_of_eq (show Builtin.Builtins.bindParams "min" ["key", "default"] 0 ⟨[], [(Str.ofString "key", .ref f)]⟩ = pure [some (.ref f), none] from rfl) ?_)
  refine wpAny_bind (wpAny_pure ?_)
  refine wpAny_bind (wpAny_pyIter_list pl.isList ?_)
  refine wpAny_bind (wpAny_newList ?_ (Nat.zero_le _))
  rw [hname]
  refine wpAny_pure ⟨plainId_quiet PySem.F.plain_min_loop _, ?_⟩
  generalize eO : ({ cls := .type "list_iterator", data := .fields #[.ref a, .int 0 0] } : Obj) = oIt
  have hz1 : (s.heap.push oIt).objs.size = s.heap.objs.size + 1 := Heap.size_push ..
  have gI : ((s.heap.push oIt).push (seqObj "list" #[] 0)).get? s.heap.objs.size = some oIt := Heap.get?_push_of_some _ (Heap.get?_push_size _ (by rw [← eO]; rfl))
  have gS : ((s.heap.push oIt).push (seqObj "list" #[] 0)).get? (s.heap.push oIt).objs.size = some (seqObj "list" #[] 0) := Heap.get?_push_size _ rfl
  have kp : ∀ b o, s.heap.get? b = some o → ((s.heap.push oIt).push (seqObj "list" #[] 0)).get? b = some o := fun b o e => Heap.get?_push_of_some _ (Heap.get?_push_of_some _ e)
  have J0 : Inv X pins σ H { s with heap := (s.heap.push oIt).push (seqObj "list" #[] 0) } := J.kept (t' := s.toks) kp
  rw [hz1] at gS
  show codeAny _ _ (.builtin "min.loop" ⟨[.ref s.heap.objs.size, .ref f, .ref (s.heap.push oIt).objs.size], []⟩) _ _
  rw [hz1]
  have fI : FpOk X pins H s.heap.objs.size := J.fpOk (Nat.le_refl _) (J.hok.fresh (Nat.le_refl _))
  have fS : FpOk X pins H (s.heap.objs.size + 1) := J.fpOk (Nat.le_succ _) (J.hok.fresh (Nat.le_succ _))
  have hIS : s.heap.objs.size ≠ s.heap.objs.size + 1 := Nat.ne_of_lt (Nat.lt_succ_self _)
  have hit0 : ((s.heap.push oIt).push (seqObj "list" #[] 0)).IsListIter s.heap.objs.size a 0 := ⟨oIt, gI, by rw [← eO], by rw [← eO]; rfl⟩
  generalize ((s.heap.push oIt).push (seqObj "list" #[] 0)) = h0 at J0 gS hit0
  obtain ⟨its, rv, pl, hz⟩ := J0.list hq
  obtain ⟨u, hu, ru⟩ := rv.get (show ys[0]? = some ys[0] from List.getElem?_eq_getElem hne)
  refine codeAny_builtin PySem.F.entry_min_loop ?_
  rw [under_min]
  show wpAny _ X.A.in1 (seqItems? (.ref _) >>= _) _ _ _
  refine wpAny_bind (wpAny_seqItems gS rfl ?_)
  show wpAny _ X.A.in1 (tryCatch (pyNext (.ref s.heap.objs.size)) _ >>= _) _ _ _
  refine wpAny_bind (wpAny_tryCatch (wpAny_pyNext_list_item hit0 pl.isList (x := u) (by simpa using hu) fun h' hit' sb => ?_))
  have J1 : Inv X pins σ H { s with heap := h' } := J0.turned (t' := s.toks) (fun b o hb e => (sb.2 b hb).trans e) fI.1 fI.2.1 fI.2.2.2.1 fI.2.2.2.2.1 fI.2.2.2.2.2
  have hS1 : h'.get? (s.heap.objs.size + 1) = some (seqObj "list" #[] 0) := (sb.2 _ hIS.symm).trans gS
  show wpAny _ X.A.in1 (tryCatch (holding [u] (call (.ref f) [u])) _ >>= _) _ _ _
  refine wpAny_bind (wpAny_tryCatch (wpAny_holding (wpAny_mono (key_turn F hr hb J1 ru (hk 0 _ (List.getElem?_eq_getElem hne)) (E := fun _ _ => False)) (fun w2 s2 he => ?_) fun _ _ hF => hF.elim)))
  obtain ⟨⟨t2, rfl⟩, J2, kp2⟩ := he
  obtain ⟨oI, hoI, hcI, hdI⟩ := hit'
  have hI2 : s2.heap.IsListIter s.heap.objs.size a (0 + 1) := ⟨oI, kp2 _ oI fI hoI, hcI, hdI⟩
  have hS2 := kp2 _ _ fS hS1
  have s1 := Heap.SameBut.update s2.heap (s.heap.objs.size + 1) (Obj.mapSeq fun _ => #[u, .int (kf 0) t2])
  obtain ⟨c2, hc2⟩ : ∃ c2, (s2.heap.update (s.heap.objs.size + 1) (Obj.mapSeq fun _ => #[u, .int (kf 0) t2])).get? (s.heap.objs.size + 1) = some (seqObj "list" #[u, .int (kf 0) t2] c2) := ⟨_, get?_update_seq hS2 fun _ => #[u, .int (kf 0) t2]⟩
  show wpAny _ X.A.in1 (updateSeq (s.heap.objs.size + 1) (fun _ => #[u, .int (kf 0) t2]) >>= _) _ _ _
  refine wpAny_bind ?_
  refine wpAny_updateSeq hS2 rfl ?_
  rw [hname]
  refine wpAny_pure ⟨plainId_quiet PySem.F.plain_min_loop _, minkey_loop hc F hr hb hq hk hQ fI fS hIS _ 0 0 _ _ u t2 c2 rfl hne
    (J2.turned (t' := s2.toks) (fun b o hb e => (s1.2 b hb).trans e) fS.1 fS.2.1 fS.2.2.2.1 fS.2.2.2.2.1 fS.2.2.2.2.2) ?_ hc2 (List.getElem?_eq_getElem hne) ru (Nat.le_refl _) fun j' hj' => ?_⟩
  · obtain ⟨o, h1, h2, h3⟩ := hI2
    exact ⟨o, (s1.2 _ hIS).trans h1, h2, h3⟩
  · have e : j' = 0 := Nat.le_zero.mp hj'
    subst e
    exact ⟨Int.le_refl _, fun z => absurd z (Nat.lt_irrefl _)⟩
end
end Sea
/-! isinstance of the error that a suite holds, of an own class with fields, against a class or a written tuple of classes; powers of great numbers. -/
namespace Sea
open PySem PySem.Spec PyProof.Rows L2
/-- the class at D may be asked about -/
structure AskC (K : PySem.W.Frag) (D : Addr) : Prop where
  cl : (PySem.W.clsIn K D).isSome = true
  ga : PySem.W.findIn K (.ref D) "__getattribute__" = some (some (.builtin "BaseException.__getattribute__"))
  gg : PySem.W.findIn K (.ref D) "__getattr__" = some none
  sb : PySem.W.subIn K (.ref D) (.type "BaseException") = some true
  kl : PySem.W.findIn K (.ref D) "__class__" = some (some (.builtin "object.__class__"))
  gt : PySem.W.specialIn K (.builtin "object.__class__") "__get__" = some (some (.builtin "getset_descriptor.__get__"))
  tk : PySem.W.takesIn K (.builtin "object.__class__") = some true
  mr : PySem.W.mroIn K D (.type "object") = some true
/-- isinstance(e, c) and isinstance(e, (c1, ..)), e the error at a -/
def rAsk (K : PySem.W.Frag) (a : Addr) (cls : Value) (d : Option Addr) : List V → Hp → VK → Prop := fun xs H Q => ∃ (D dd : Addr) (fs : List (Str × V)) (c : V) (b : Bool),
  cls = .ref D ∧ d = some dd ∧ AskC K D ∧ H dd = some (.xd fs) ∧ xs = [.ref a, c] ∧
  ((∃ cv, ClsV c cv ∧ PySem.W.kitOne K (.ref D) cv = some b) ∨ ∃ (tp : Addr) (cs : List V) (us : List Value), c = .ref tp ∧ H tp = some (.tup cs) ∧ Paired ClsV cs us ∧ PySem.W.kitAny K (.ref D) us = some b) ∧ Q (.bl b) H
theorem call_ask {X : Cx} {a : Addr} {cls : Value} {d : Option Addr} {oe : Obj} {pn : List (Addr × Obj)} (hz : Zc cls d oe) (hf : ∃ vs, oe.data = .fields vs) :
    CallR (X.suite a ((a, oe) :: pn)) (.builtin "isinstance") (rAsk X.K a cls d) := by
  intro pins s σ H xs us Q I r h
  obtain ⟨D, dd, fs, c, b, rfl, rfl, C, hd, rfl, ways, q⟩ := h
  obtain ⟨u1, u2, rfl, r1, r2⟩ := vals2 r
  cases (show u1 = Value.ref a from r1)
  obtain ⟨hget, _⟩ := I.pin (a, oe) (List.mem_append.mpr (.inl List.mem_cons_self))
  obtain ⟨vs, hv⟩ := hf
  have hx : ObjOk X.prog X.w H s.heap dd (.xd fs) := I.hok dd _ hd
  obtain ⟨mA, hns, hr⟩ := hx
  obtain ⟨od, ho, hl⟩ := lookIn_ns hns
  have J : PySem.W.InstAt s.heap a oe D (some od) := ⟨hget, hz.1, by unfold PySem.W.notCls; rw [hv] <;> rfl, by rw [hz.2]; exact ho⟩
  have Z := PySem.W.kitx_exc (K := X.K) (x := a) (ox := oe) (od := some od) C.cl C.ga C.gg C.sb C.kl C.gt C.tk C.mr
  rcases ways with ⟨cv, k, e⟩ | ⟨tp, cs, ws, rfl, ht, k, e⟩
  · have e2 := k.eq r2
    subst e2
    exact PySem.W.kia_one Z I.kIn J e (fun z => nomatch z) fun tk => ⟨.bl b, H, I.tok tk, rfl, q⟩
  · cases (show u2 = Value.ref tp from r2)
    obtain ⟨_, its, rv, o, h1, h2, n, h3⟩ := (show ObjOk X.prog X.w H s.heap tp (.tup cs) from I.hok tp _ ht)
    have e3 := ClsV.all k rv
    subst e3
    obtain ⟨oc, odd, dt, sl⟩ := o
    simp only at h2 h3
    subst h2 h3
    exact PySem.W.kia_tup Z I.kIn J h1 e (fun z => nomatch z) fun tk => ⟨.bl b, H, I.tok tk, rfl, q⟩
/-- a ** b, by the bits of a -/
def CPowB (i j : Int) : Prop := 0 ≤ j ∧ (Builtin.Int.intBits i : Int) * j ≤ 2 ^ 27
theorem op_powB {X : Cx} : OpR X (binaryOp .Pow) (rI CPowB fun i j => .int (i ^ j.toNat)) := opI fun _ _ _ _ _ _ _ hc q => pow_int hc.1 hc.2 q
end Sea
/-! try with several clauses, each with a name for the error or without one. -/
namespace Sea
open PySem PySem.Spec PyProof.Rows L2
abbrev Su := Addr → Value → Option Addr → TS
/-- behind a suite the error's name is gone -/
def gone (i : Nat) (D : Ends) : Ends :=
  { nx := fun σ H => D.nx (σ.set i none) H, rt := D.rt, bk := fun σ H => D.bk (σ.set i none) H, ct := fun σ H => D.ct (σ.set i none) H }
/-- what the clauses, from the first on, wish of the error -/
def wCl (K : PySem.W.Frag) (Wo : WX) (D : Ends) : List (Value × Option Nat × Su) → WX
  | [] => Wo
  | (c, none, ts) :: r => fun cls d σ H => ∃ b, PySem.W.exmOne K cls c = some b ∧ (b = true → ∀ a, H a = none → ts a cls d D σ H) ∧ (b = false → wCl K Wo D r cls d σ H)
  | (c, some i, ts) :: r => fun cls d σ H => ∃ b, PySem.W.exmOne K cls c = some b ∧
      (b = true → ∀ a, H a = none → ts a cls d (gone i D) (σ.set i (some (.ref a))) H) ∧ (b = false → wCl K Wo D r cls d σ H)
def SuOk (X : Cx) (st : List Stmt) (ts : Su) : Prop := ∀ (a : Addr) (oe : Obj) (cls : Value) (d : Option Addr) (pn : List (Addr × Obj)),
  Zc cls d oe → (∃ vs, oe.data = .fields vs) → PSs (X.suite a ((a, oe) :: pn)) st (ts a cls d)
inductive Clauses (X : Cx) : List ExceptHandler → List (Value × Option Nat × Su) → Prop
  | nil : Clauses X [] []
  | bare {x : Str} {c : Value} {ts : Su} {b₀ : Stmt} {su : List Stmt} {np ps : Pos} {hds : List ExceptHandler} {l : List (Value × Option Nat × Su)}
      (hc : Names X x c) (hs : SuOk X (b₀ :: su) ts) (r : Clauses X hds l) : Clauses X (.ExceptHandler (some (.Name x np)) none (b₀ :: su) ps :: hds) ((c, none, ts) :: l)
  | named {x n : Str} {c : Value} {i : Nat} {ts : Su} {b₀ : Stmt} {su : List Stmt} {np ps : Pos} {hds : List ExceptHandler} {l : List (Value × Option Nat × Su)}
      (hc : Names X x c) (hi : X.N[i]? = some n) (hl : X.env.kindOf n = some .local) (hs : SuOk X (b₀ :: su) ts) (r : Clauses X hds l) :
      Clauses X (.ExceptHandler (some (.Name x np)) (some n) (b₀ :: su) ps :: hds) ((c, some i, ts) :: l)
section
variable {X : Cx} {body : List Stmt} {h₀ : ExceptHandler} {hds : List ExceptHandler} {l : List (Value × Option Nat × Su)} {pos : Pos} {tb : WX → TS} {Wo : WX}
theorem names_ld {a : Addr} {oe : Obj} {pn : List (Addr × Obj)} {x : Str} {c : Value} {np : Pos} {σ : L2.St} {H : Hp} {s : Shared} {Q E : Value → Shared → Prop}
    (hc : Names X x c) (S : Inv (X.suite a ((a, oe) :: pn)) [] σ H s) (q : Q c s) :
    wpAny (model X.prog X.w) (X.A.mark (some (.ref a))) (eval (.Name x np) X.env) Q E s := by
  obtain ⟨hg, hdbg, hm | ⟨hm, hv, hnn⟩⟩ := hc
  · exact ld_glob (X := X.suite a ((a, oe) :: pn)) S hg hm q hdbg
  · exact ld_blt (X := X.suite a ((a, oe) :: pn)) S hg hm hv q hnn hdbg
theorem ps_try_cl (hs : X.stack = X.env :: X.outer) (hf : X.env.frame = some X.env.locals) (hN : X.N.Nodup) (tk : Takes X Wo)
    (hb : ∀ (W : WX) (pn : List (Addr × Obj)) (xe : Value → Shared → Prop), Takes (X.tr pn xe) W → PassesOwn (model X.prog X.w) X.A X.env xe → PSs (X.tr pn xe) body (tb W))
    (hh : Clauses X (h₀ :: hds) l) : PS X (.Try body (h₀ :: hds) [] [] pos) (fun D σ H => tb (wCl X.K Wo D l) D σ H) := by
  refine ⟨fun pins s σ H D I h => ?_⟩
  have ok := I.ok
  have hfr : X.A.frames = some (X.env :: X.outer) := ok.frames.trans (congrArg some hs)
  refine wpAny_Try_except ?_
  refine wpAny_mono ((hb (wCl X.K Wo D l) (X.pn ++ pins) (fun e s1 => wpAny (model X.prog X.w) X.A (noteFrame e X.env)
    (fun _ s2 => wpAny (model X.prog X.w) X.A (setFlight e none)
      (fun _ s3 => wpAny (model X.prog X.w) X.A (handleBy e X.env (h₀ :: hds)) (SP X pins D) X.xe s3) X.xe s2) X.xe s1)
    (fun u s' xx => ?cat) PassesOwn.looking).run [] s σ H D (I.toTry _) h) (fun f s1 hsp => ?thru) (fun e s1 he => he)
  case thru =>
    cases f with
    | next => obtain ⟨σ', H', J', q⟩ := hsp; exact wpAny_execs_nil ⟨σ', H', J'.ofTry ok, q⟩
    | brk => obtain ⟨σ', H', J', q⟩ := hsp; exact ⟨σ', H', J'.ofTry ok, q⟩
    | cont => obtain ⟨σ', H', J', q⟩ := hsp; exact ⟨σ', H', J'.ofTry ok, q⟩
    | ret u => obtain ⟨v, σ', H', J', r, q⟩ := hsp; exact ⟨v, σ', H', J'.ofTry ok, r, q⟩
  case cat =>
    obtain ⟨a, B, sI, pins', σ', H', cls, d, rfl, J', nb, up, sky, na, os, ag, w⟩ := xx
    have J : Inv X pins σ' H' sI := J'.ofTry ok
    have sk : Sky B (X.env :: X.outer) a (Zc cls d) X.env.locals s'.heap := hs ▸ sky
    show wpAny (model X.prog X.w) X.A (noteFrame (.ref a) X.env) _ _ _
    refine Sky.land Zc.steady hfr hf sk fun h3 fl3 up3 => ?_
    have J3 : Inv X pins σ' H' { s' with heap := h3 } := J.landed nb fl3.1 (up.trans up3) os ag
    obtain ⟨oe3, vs3, he3, hz3, hd3⟩ := fl3.there
    have nfr : a ∉ frs (X.env :: X.outer) := fun hm => by
      obtain ⟨_, o', e', hnf⟩ := fl3.2.2.1.mem hm
      rw [he3] at e'
      cases e'
      exact hnf _ hd3
    have nL : a ≠ X.env.locals := fun z => nfr (List.mem_filterMap.mpr ⟨X.env, List.mem_cons_self, hf.trans (congrArg some z.symm)⟩)
    have nF : a ∉ X.fs := fun hm => by
      obtain ⟨e, he, q⟩ := List.mem_filterMap.mp hm
      exact nfr (List.mem_filterMap.mpr ⟨e, List.mem_cons_of_mem _ he, q⟩)
    have S3 := J3.suite he3 hd3 na nL nF
    have LT : PySem.W.Looks (model X.prog X.w) h3 (typeOf (.ref a)) cls :=
      fun A Q E s k q => wpAny_typeOf_ref (k _ _ he3) (by rw [hz3.1]; exact q)
    have go : ∀ {hs' : List ExceptHandler} {l' : List (Value × Option Nat × Su)}, Clauses X hs' l' → wCl X.K Wo D l' cls d σ' H' →
        wpAny (model X.prog X.w) X.A (handleBy (.ref a) X.env hs') (SP X pins D) X.xe { s' with heap := h3 } := by
      intro hs' l' hk
      induction hk with
      | nil =>
        intro w
        refine wpAny_handleBy_nil ?_
        obtain ⟨_, _, _, oe, vs, T, oT, ts', he, hz, hd, h1, hr⟩ := id fl3
        unfold PySem.passOn
        refine wpAny_bind (wpAny_field he hd h1 ?_)
        rw [if_neg (show ¬ ((Value.ref T == Value.none) = true) from by simp)]
        have out : wpAny (model X.prog X.w) X.A (setFlight (.ref a) X.env.frame)
            (fun _ s4 => wpAny (model X.prog X.w) X.A (throw (.ref a) : Sem Flow) (SP X pins D) X.xe s4) X.xe { s' with heap := h3 } := by
          rw [hf]
          refine HandSPX.setFlight_upZ fl3 fun h4 hh4 up4 => wpAny_throw (tk _ _ ?_)
          refine ⟨a, B, sI, pins, σ', H', cls, d, rfl, J, nb, (up.trans up3).trans up4, .inr (.inr ?_), na, os, ag, w⟩
          rw [hs]
          exact hh4
        first
          | exact wpAny_bind (wpAny_pure (wpAny_bind out))
          | exact wpAny_bind out
      | @bare x c ts b₀ su np ps hds2 l2 hc hsu r ih =>
        intro w
        obtain ⟨b, hb1, hyes, hno⟩ := w
        refine wpAny_handleBy_cons (codeAny_handlers_test ?_) (by intro q; cases q)
        have LM := PySem.W.exm_one (M := model X.prog X.w) J3.kIn LT hb1
        refine names_ld hc S3 (LM.here ?_)
        cases b with
        | false => exact ih (hno rfl)
        | true =>
          refine codeAny_handlers_suite ?_
          refine HandSPX.lands_againZ fl3 fun h4 fl4 up4 => ?_
          have J4 : Inv X pins σ' H' { s' with heap := h4 } := J.landed nb fl4.1 ((up.trans up3).trans up4) os ag
          obtain ⟨oe4, vs4, he4, hz4, hd4⟩ := fl4.there
          have S4 := J4.suite he4 hd4 na nL nF
          refine wpAny_mono ((hsu a oe4 cls d (X.pn ++ pins) hz4 ⟨_, hd4⟩).run [] _ _ H' _ S4 (hyes rfl a na)) (fun f s6 hsp => ?_) (fun _ _ z => False.elim z)
          cases f with
          | next => obtain ⟨σ6, H6, S6, q6⟩ := hsp; exact ⟨_, _, S6.unsuite ok, q6⟩
          | brk => obtain ⟨σ6, H6, S6, q6⟩ := hsp; exact ⟨_, _, S6.unsuite ok, q6⟩
          | cont => obtain ⟨σ6, H6, S6, q6⟩ := hsp; exact ⟨_, _, S6.unsuite ok, q6⟩
          | ret u => obtain ⟨v6, σ6, H6, S6, r6, q6⟩ := hsp; exact ⟨_, _, _, S6.unsuite ok, r6, q6⟩
      | @named x n c i ts b₀ su np ps hds2 l2 hc hi hln hsu r ih =>
        intro w
        obtain ⟨b, hb1, hyes, hno⟩ := w
        refine wpAny_handleBy_cons (codeAny_handlers_test ?_) (by intro q; cases q)
        have LM := PySem.W.exm_one (M := model X.prog X.w) J3.kIn LT hb1
        refine names_ld hc S3 (LM.here ?_)
        cases b with
        | false => exact ih (hno rfl)
        | true =>
          refine codeAny_handlers_suite_as ?_
          refine HandSPX.lands_againZ fl3 fun h4 fl4 up4 => ?_
          have J4 : Inv X pins σ' H' { s' with heap := h4 } := J.landed nb fl4.1 ((up.trans up3).trans up4) os ag
          obtain ⟨oe4, vs4, he4, hz4, hd4⟩ := fl4.there
          have S4 := J4.suite he4 hd4 na nL nF
          refine store_ok (X := X.suite a ((a, oe4) :: (X.pn ++ pins))) (v := .ref a) S4 hN hi (.inl hln) rfl (fun s5 S5 => ?_) (.inr hln)
          refine wpAny_mono ((hsu a oe4 cls d (X.pn ++ pins) hz4 ⟨_, hd4⟩).run [] s5 _ H' _ S5 (hyes rfl a na)) (fun f s6 hsp => ?_) (fun _ _ z => False.elim z)
          have fin : ∀ {σ6 : L2.St} {H6 : Hp} {Q : Shared → Prop}, Inv (X.suite a ((a, oe4) :: (X.pn ++ pins))) [] σ6 H6 s6 → (∀ s7, Inv X pins (σ6.set i none) H6 s7 → Q s7) →
              wpAny (model X.prog X.w) X.A (do bindName X.env n .none; unbindBehindTheSuite X.env n ps) (fun _ s7 => Q s7) X.xe s6 :=
            fun {σ6 H6 Q} S6 hq => gone_ok (S6.unsuite ok) hN hi hln hq
          cases f with
          | next => obtain ⟨σ6, H6, S6, q6⟩ := hsp; exact fin S6 fun s7 J7 => ⟨_, _, J7, q6⟩
          | brk => obtain ⟨σ6, H6, S6, q6⟩ := hsp; exact fin S6 fun s7 J7 => ⟨_, _, J7, q6⟩
          | cont => obtain ⟨σ6, H6, S6, q6⟩ := hsp; exact fin S6 fun s7 J7 => ⟨_, _, J7, q6⟩
          | ret u => obtain ⟨v6, σ6, H6, S6, r6, q6⟩ := hsp; exact fin S6 fun s7 J7 => ⟨_, _, _, J7, r6, q6⟩
    exact go hh w
end
end Sea
/-! defs by their names; an own error of one field: made, raised, read. -/
namespace Sea
open PySem PySem.Spec PyProof.Rows L2
/-- the def that the module calls x keeps sp, and raises nothing -/
def Cal (P : Program) (w : World) (K : PySem.W.Frag) (mg : Str → Option Value) (base : Heap) (k : Nat) (x : Str) (sp : Sp) : Prop :=
  ∃ (f : Addr) (fd : FuncData) (ps : List Str), FnOk P w K mg base CX0 k f fd ps sp ∧ mg x = some (.ref f) ∧ PySem.W.keepIn K (.ref f) = true ∧ Binds K fd ps []
/-- .. and it may raise -/
def CalX (P : Program) (w : World) (K : PySem.W.Frag) (mg : Str → Option Value) (base : Heap) (k : Nat) (x : Str) (sp : Sp) : Prop :=
  ∃ (f : Addr) (fd : FuncData) (ps : List Str), FnOk P w K mg base (L2.CX P w) k f fd ps sp ∧ mg x = some (.ref f) ∧ PySem.W.keepIn K (.ref f) = true ∧ Binds K fd ps []
section
variable {X : Cx} {x : Str} {sp : Sp} {k j : Nat} {e : Expr} {es : List Expr} {t : TA} {p pos : Pos}
theorem pe_c (c : Cal X.prog X.w X.K X.mg X.base k x sp) (hr : Room j X.A) (hk : k ≤ j) (hg : Gl X x) (ha : PA X (e :: es) t)
    (hdb : (x == ("__debug__" : Str)) = false := by decide) (he : starEach (e :: es) X.env = (false, eval e X.env) :: starEach es X.env := by rfl)
    (hpl : (backTo pos (starEach es X.env)).any (·.1) = false := by rfl) : PE X (.Call (.Name x p) (e :: es) [] pos) (tCall sp [] E0 t) := by
  obtain ⟨f, fd, ps, F, hm, kp, b⟩ := c
  exact pe_call F (hr.mono hk) hg hm kp b .nil pass0 ha hdb he hpl
theorem pe_cX (c : CalX X.prog X.w X.K X.mg X.base k x sp) (hr : Room j X.A) (hk : k ≤ j) (hg : Gl X x) {E : L2.St → XK} (hx : ∀ σ, PassesAt (L2.CX X.prog X.w) X σ (E σ)) (ha : PA X (e :: es) t)
    (hdb : (x == ("__debug__" : Str)) = false := by decide) (he : starEach (e :: es) X.env = (false, eval e X.env) :: starEach es X.env := by rfl)
    (hpl : (backTo pos (starEach es X.env)).any (·.1) = false := by rfl) : PE X (.Call (.Name x p) (e :: es) [] pos) (tCallSD sp [] E t) := by
  obtain ⟨f, fd, ps, F, hm, kp, b⟩ := c
  exact pe_callSD F (hr.mono hk) hg hm kp b .nil hx ha hdb he hpl
end
/-- what the written part says of the error class nm at C, of one field fld, with its __init__ at fI -/
structure XC (K : PySem.W.Frag) (mg : Str → Option Value) (nm fld : Str) (C fI : Addr) : Prop where
  gC : mg nm = some (.ref C)
  ox : OexC K C
  iC : PySem.W.findIn K (.ref C) "__init__" = some (some (.ref fI))
  tI : PySem.W.typeIn K (.ref fI) = some (.type "function")
  no : PySem.W.findIn K (.ref C) fld = some none
  ask : AskC K C
  hd : PySem.W.hasDictIn K C = true
theorem XC.xf {K : PySem.W.Frag} {mg : Str → Option Value} {nm fld : Str} {C fI : Addr} (x : XC K mg nm fld C fI) : XfC K C := ⟨x.ask.ga, x.ask.gg, x.ask.sb, x.hd⟩
/-- its __init__ -/
def spIni (K : PySem.W.Frag) (C : Addr) (fld : Str) : Sp := fun vs H Q _ => ∃ (a : Addr) (v : V), vs = [.ref a, v] ∧ OexC K C ∧ PySem.W.findIn K (.ref C) fld = some none ∧ H a = some (exo a C none) ∧
  ∀ dx, H dx = none → dx ≠ a → Q .non (upd (upd H dx (exd dx [(fld, v)])) a (exo a C (some dx)))
theorem made_heap {H : Hp} {a d C : Addr} {o1 o2 o3 o4 : HO} (ha : H a = none) (hd : H d = none) (hne : d ≠ a) :
    upd (del (upd (upd (upd H a o1) d o2) a o3) a) d o4 = upd H d o4 := by
  funext b
  by_cases h1 : b = d
  · subst h1
    rw [upd_same, upd_same]
  · rw [upd_ne h1, upd_ne h1]
    by_cases h2 : b = a
    · subst h2
      rw [del_same, ha]
    · rw [del_ne h2, upd_ne h2, upd_ne h1, upd_ne h2]
/-- C(e) with such an __init__, its argument v told: an error with the field, all else as it was -/
theorem mk_fin {K : PySem.W.Frag} {C : Addr} {fld : Str} {v : V} {H1 : Hp} {Q : XK} (ox : OexC K C) (no : PySem.W.findIn K (.ref C) fld = some none)
    (q : ∀ d, H1 d = none → Q (.ref C) (some d) (upd H1 d (.xd [(fld, v)]))) :
    ([v] : List V).length ≤ 1000 ∧ ∀ a, H1 a = none → spIni K C fld (.ref a :: ([v] ++ [])) (upd H1 a (exo a C none))
      (fun u H2 => u = .non ∧ ∃ (d : Addr) (fs : List (Str × V)), H2 a = some (exo a C (some d)) ∧ H2 d = some (exd d fs) ∧ H1 d = none ∧ Q (.ref C) (some d) (upd (del H2 a) d (.xd fs))) (fun _ _ _ => False) := by
  refine ⟨by simp, fun a ha => ⟨a, v, rfl, ox, no, upd_same, fun dx hdx hne => ?_⟩⟩
  have hd : H1 dx = none := by
    rw [upd_ne hne] at hdx
    exact hdx
  refine ⟨rfl, dx, [(fld, v)], upd_same, ?_, hd, ?_⟩
  · rw [upd_ne hne, upd_same]
  · rw [made_heap (C := C) ha hd hne]
    exact q dx hd
/-! heaps that only grow -/
theorem same_new {H : Hp} {p : Addr} {o : HO} (h : H p = none) : Same H (upd H p o) := fun b x e => by
  rw [upd_ne (ne_of_none e h)]
  exact e
theorem same_over {H H' : Hp} {D : Addr} {o : HO} (s : Same H H') (h : H D = none) : Same H (upd H' D o) := fun b x e => by
  rw [upd_ne (ne_of_none e h)]
  exact s b x e
theorem sub_take {α : Type} {l : List α} {i : Nat} {x : α} (h : l[i]? = some x) : l.take (i + 1) = l.take i ++ [x] := by
  rw [List.take_add_one, h]
  rfl
theorem small_line {n : Nat} (h : n ≤ 100000) : n < sizeLine := by
  rw [sizeLine_eq]
  omega
end Sea
namespace Sea
open PySem PySem.Spec PyProof.Rows L2
def top (i : Nat) : Stmt := PySem.Challenge.pw_seamfast_k01_reels_judged.main.body.getD i (.Pass ⟨0, 0, 0, 0⟩)
abbrev s_is_integer : Stmt := top 7
abbrev N_is_integer : List Str := ["thing"]
theorem sc_is_integer : FnScope N_is_integer ["thing"] (defScope s_is_integer) := ⟨rfl, rfl, rfl, by decide +kernel, rfl, by decide +kernel, by decide +kernel⟩
abbrev s_is_within : Stmt := top 8
abbrev N_is_within : List Str := ["thing", "low", "high"]
theorem sc_is_within : FnScope N_is_within ["thing", "low", "high"] (defScope s_is_within) := ⟨rfl, rfl, rfl, by decide +kernel, rfl, by decide +kernel, by decide +kernel⟩
abbrev s_items_of : Stmt := top 9
abbrev N_items_of : List Str := ["thing"]
theorem sc_items_of : FnScope N_items_of ["thing"] (defScope s_items_of) := ⟨rfl, rfl, rfl, by decide +kernel, rfl, by decide +kernel, by decide +kernel⟩
abbrev s_parts_of : Stmt := top 10
abbrev N_parts_of : List Str := ["thing", "many", "items"]
theorem sc_parts_of : FnScope N_parts_of ["thing", "many"] (defScope s_parts_of) := ⟨rfl, rfl, rfl, by decide +kernel, rfl, by decide +kernel, by decide +kernel⟩
abbrev s_is_name : Stmt := top 15
abbrev N_is_name : List Str := ["thing", "sign"]
theorem sc_is_name : FnScope N_is_name ["thing"] (defScope s_is_name) := ⟨rfl, rfl, rfl, by decide +kernel, rfl, by decide +kernel, by decide +kernel⟩
abbrev s_has_percent : Stmt := top 16
abbrev N_has_percent : List Str := ["word", "sign"]
theorem sc_has_percent : FnScope N_has_percent ["word"] (defScope s_has_percent) := ⟨rfl, rfl, rfl, by decide +kernel, rfl, by decide +kernel, by decide +kernel⟩
abbrev s_is_text : Stmt := top 17
abbrev N_is_text : List Str := ["thing", "sign"]
theorem sc_is_text : FnScope N_is_text ["thing"] (defScope s_is_text) := ⟨rfl, rfl, rfl, by decide +kernel, rfl, by decide +kernel, by decide +kernel⟩
abbrev s_cue_of : Stmt := top 18
abbrev N_cue_of : List Str := ["thing", "earliest", "length", "parts", "start", "end", "speaker", "text"]
theorem sc_cue_of : FnScope N_cue_of ["thing", "earliest", "length"] (defScope s_cue_of) := ⟨rfl, rfl, rfl, by decide +kernel, rfl, by decide +kernel, by decide +kernel⟩
abbrev s_judged_cues : Stmt := top 19
abbrev N_judged_cues : List Str := ["length", "cues", "items", "judged", "earliest", "number", "thing", "cue"]
theorem sc_judged_cues : FnScope N_judged_cues ["length", "cues"] (defScope s_judged_cues) := ⟨rfl, rfl, rfl, by decide +kernel, rfl, by decide +kernel, by decide +kernel⟩
abbrev s__law_tape : Stmt := top 22
abbrev N__law_tape : List Str := ["_law_script", "_law_cells", "_law_cell"]
theorem sc__law_tape : FnScope N__law_tape ["_law_script"] (defScope s__law_tape) := ⟨rfl, rfl, rfl, by decide +kernel, rfl, by decide +kernel, by decide +kernel⟩
abbrev s__law_pick : Stmt := top 23
abbrev N__law_pick : List Str := ["_law_tape_here", "_law_many", "_law_digit", "_law_mixed"]
theorem sc__law_pick : FnScope N__law_pick ["_law_tape_here", "_law_many"] (defScope s__law_pick) := ⟨rfl, rfl, rfl, by decide +kernel, rfl, by decide +kernel, by decide +kernel⟩
abbrev s__law_some : Stmt := top 24
abbrev N__law_some : List Str := ["_law_tape_here", "_law_low", "_law_high"]
theorem sc__law_some : FnScope N__law_some ["_law_tape_here", "_law_low", "_law_high"] (defScope s__law_some) := ⟨rfl, rfl, rfl, by decide +kernel, rfl, by decide +kernel, by decide +kernel⟩
abbrev s__law_rarely : Stmt := top 25
abbrev N__law_rarely : List Str := ["_law_tape_here", "_law_many"]
theorem sc__law_rarely : FnScope N__law_rarely ["_law_tape_here", "_law_many"] (defScope s__law_rarely) := ⟨rfl, rfl, rfl, by decide +kernel, rfl, by decide +kernel, by decide +kernel⟩
abbrev s__law_names : Stmt := top 26
abbrev N__law_names : List Str := ["_law_tape_here", "_law_many", "_law_pool", "_law_names_here", "_law_k"]
theorem sc__law_names : FnScope N__law_names ["_law_tape_here", "_law_many"] (defScope s__law_names) := ⟨rfl, rfl, rfl, by decide +kernel, rfl, by decide +kernel, by decide +kernel⟩
abbrev s__law_text : Stmt := top 27
abbrev N__law_text : List Str := ["_law_tape_here", "_law_most", "_law_signs", "_law_words_here", "_law_k", "_law_at"]
theorem sc__law_text : FnScope N__law_text ["_law_tape_here", "_law_most"] (defScope s__law_text) := ⟨rfl, rfl, rfl, by decide +kernel, rfl, by decide +kernel, by decide +kernel⟩
abbrev s__law_few_text : Stmt := top 28
abbrev N__law_few_text : List Str := ["_law_tape_here", "_law_menu"]
theorem sc__law_few_text : FnScope N__law_few_text ["_law_tape_here"] (defScope s__law_few_text) := ⟨rfl, rfl, rfl, by decide +kernel, rfl, by decide +kernel, by decide +kernel⟩
abbrev s__law_same : Stmt := top 29
abbrev N__law_same : List Str := ["_law_told", "_law_due_here", "_law_k"]
theorem sc__law_same : FnScope N__law_same ["_law_told", "_law_due_here"] (defScope s__law_same) := ⟨rfl, rfl, rfl, by decide +kernel, rfl, by decide +kernel, by decide +kernel⟩
abbrev s__law_lists : Stmt := top 30
abbrev N__law_lists : List Str := ["_law_thing", "_law_part"]
theorem sc__law_lists : FnScope N__law_lists ["_law_thing"] (defScope s__law_lists) := ⟨rfl, rfl, rfl, by decide +kernel, rfl, by decide +kernel, by decide +kernel⟩
abbrev s__law_tuples : Stmt := top 31
abbrev N__law_tuples : List Str := ["_law_thing", "_law_part"]
theorem sc__law_tuples : FnScope N__law_tuples ["_law_thing"] (defScope s__law_tuples) := ⟨rfl, rfl, rfl, by decide +kernel, rfl, by decide +kernel, by decide +kernel⟩
abbrev s__law_is_number : Stmt := top 32
abbrev N__law_is_number : List Str := ["_law_thing", "_law_low", "_law_high"]
theorem sc__law_is_number : FnScope N__law_is_number ["_law_thing", "_law_low", "_law_high"] (defScope s__law_is_number) := ⟨rfl, rfl, rfl, by decide +kernel, rfl, by decide +kernel, by decide +kernel⟩
abbrev s__law_name_good : Stmt := top 33
abbrev N__law_name_good : List Str := ["_law_thing", "_law_sign"]
theorem sc__law_name_good : FnScope N__law_name_good ["_law_thing"] (defScope s__law_name_good) := ⟨rfl, rfl, rfl, by decide +kernel, rfl, by decide +kernel, by decide +kernel⟩
abbrev s__law_text_good : Stmt := top 34
abbrev N__law_text_good : List Str := ["_law_thing"]
theorem sc__law_text_good : FnScope N__law_text_good ["_law_thing"] (defScope s__law_text_good) := ⟨rfl, rfl, rfl, by decide +kernel, rfl, by decide +kernel, by decide +kernel⟩
abbrev s__law_cue_good : Stmt := top 35
abbrev N__law_cue_good : List Str := ["_law_cue", "_law_low", "_law_length"]
theorem sc__law_cue_good : FnScope N__law_cue_good ["_law_cue", "_law_low", "_law_length"] (defScope s__law_cue_good) := ⟨rfl, rfl, rfl, by decide +kernel, rfl, by decide +kernel, by decide +kernel⟩
abbrev s__law_due : Stmt := top 36
abbrev N__law_due : List Str := ["_law_length", "_law_cues", "_law_low", "_law_k"]
theorem sc__law_due : FnScope N__law_due ["_law_length", "_law_cues"] (defScope s__law_due) := ⟨rfl, rfl, rfl, by decide +kernel, rfl, by decide +kernel, by decide +kernel⟩
abbrev s__law_refusal : Stmt := top 37
abbrev N__law_refusal : List Str := ["_law_length", "_law_cues", "raised"]
theorem sc__law_refusal : FnScope N__law_refusal ["_law_length", "_law_cues"] (defScope s__law_refusal) := ⟨rfl, rfl, rfl, by decide +kernel, rfl, by decide +kernel, by decide +kernel⟩
abbrev s__law_under_base : Stmt := top 38
abbrev N__law_under_base : List Str := ["_law_length", "_law_cues", "raised"]
theorem sc__law_under_base : FnScope N__law_under_base ["_law_length", "_law_cues"] (defScope s__law_under_base) := ⟨rfl, rfl, rfl, by decide +kernel, rfl, by decide +kernel, by decide +kernel⟩
abbrev s__law_no_cue : Stmt := top 39
abbrev N__law_no_cue : List Str := ["_law_reel", "_law_number", "_law_told", "raised"]
theorem sc__law_no_cue : FnScope N__law_no_cue ["_law_reel", "_law_number"] (defScope s__law_no_cue) := ⟨rfl, rfl, rfl, by decide +kernel, rfl, by decide +kernel, by decide +kernel⟩
abbrev s__law_words : Stmt := top 40
abbrev N__law_words : List Str := ["_law_tape_here", "_law_speaker", "_law_names_here", "_law_kind"]
theorem sc__law_words : FnScope N__law_words ["_law_tape_here", "_law_speaker", "_law_names_here"] (defScope s__law_words) := ⟨rfl, rfl, rfl, by decide +kernel, rfl, by decide +kernel, by decide +kernel⟩
abbrev s__law_made : Stmt := top 41
abbrev N__law_made : List Str := ["_law_tape_here", "_law_length", "_law_many", "_law_names_here", "_law_cues", "_law_at", "_law_k", "_law_begun", "_law_gone", "_law_speaker", "_law_text_here"]
theorem sc__law_made : FnScope N__law_made ["_law_tape_here"] (defScope s__law_made) := ⟨rfl, rfl, rfl, by decide +kernel, rfl, by decide +kernel, by decide +kernel⟩
abbrev s__law_odd_part : Stmt := top 42
abbrev N__law_odd_part : List Str := ["_law_tape_here", "_law_way", "_law_length", "_law_cue", "_law_ahead", "_law_menu"]
theorem sc__law_odd_part : FnScope N__law_odd_part ["_law_tape_here", "_law_way", "_law_length", "_law_cue", "_law_ahead"] (defScope s__law_odd_part) := ⟨rfl, rfl, rfl, by decide +kernel, rfl, by decide +kernel, by decide +kernel⟩
abbrev s__law_bend : Stmt := top 43
abbrev N__law_bend : List Str := ["_law_tape_here", "_law_length", "_law_cues", "_law_now", "_law_way", "_law_k", "_law_ahead", "_law_parts"]
theorem sc__law_bend : FnScope N__law_bend ["_law_tape_here", "_law_length", "_law_cues", "_law_now"] (defScope s__law_bend) := ⟨rfl, rfl, rfl, by decide +kernel, rfl, by decide +kernel, by decide +kernel⟩
abbrev s__law_things : Stmt := top 44
abbrev N__law_things : List Str := ["_law_tape_here", "_law_things_here", "_law_letters", "_law_k", "_law_size", "_law_at", "_law_word", "_law_signs", "_law_turn"]
theorem sc__law_things : FnScope N__law_things ["_law_tape_here"] (defScope s__law_things) := ⟨rfl, rfl, rfl, by decide +kernel, rfl, by decide +kernel, by decide +kernel⟩
abbrev s__law_things_right : Stmt := top 45
abbrev N__law_things_right : List Str := ["_law_things_here", "_law_thing"]
theorem sc__law_things_right : FnScope N__law_things_right ["_law_things_here"] (defScope s__law_things_right) := ⟨rfl, rfl, rfl, by decide +kernel, rfl, by decide +kernel, by decide +kernel⟩
abbrev s__law_reel_right : Stmt := top 46
abbrev N__law_reel_right : List Str := ["_law_reel", "_law_length", "_law_cues", "_law_speakers", "_law_cue", "_law_k", "_law_naming", "_law_number"]
theorem sc__law_reel_right : FnScope N__law_reel_right ["_law_reel", "_law_length", "_law_cues"] (defScope s__law_reel_right) := ⟨rfl, rfl, rfl, by decide +kernel, rfl, by decide +kernel, by decide +kernel⟩
abbrev s__law_alike : Stmt := top 47
abbrev N__law_alike : List Str := ["_law_reel", "_law_length", "_law_cues", "_law_twin"]
theorem sc__law_alike : FnScope N__law_alike ["_law_reel", "_law_length", "_law_cues"] (defScope s__law_alike) := ⟨rfl, rfl, rfl, by decide +kernel, rfl, by decide +kernel, by decide +kernel⟩
abbrev s_law : Stmt := top 48
abbrev N_law : List Str := ["_law_script", "_law_tape_here", "_law_made_here", "_law_now", "_law_turn", "_law_handed", "_law_kept", "_law_due_here", "_law_good", "_law_cues", "_law_reel"]
theorem sc_law : FnScope N_law ["_law_script"] (defScope s_law) := ⟨rfl, rfl, rfl, by decide +kernel, rfl, by decide +kernel, by decide +kernel⟩
abbrev s_BadLength___init__ : Stmt := inClass (top 2) 0
abbrev N_BadLength___init__ : List Str := ["self", "length"]
theorem sc_BadLength___init__ : FnScope N_BadLength___init__ ["self", "length"] (defScope s_BadLength___init__) := ⟨rfl, rfl, rfl, by decide +kernel, rfl, by decide +kernel, by decide +kernel⟩
abbrev s_BadCue___init__ : Stmt := inClass (top 3) 0
abbrev N_BadCue___init__ : List Str := ["self", "number"]
theorem sc_BadCue___init__ : FnScope N_BadCue___init__ ["self", "number"] (defScope s_BadCue___init__) := ⟨rfl, rfl, rfl, by decide +kernel, rfl, by decide +kernel, by decide +kernel⟩
abbrev s_TooMany___init__ : Stmt := inClass (top 4) 0
abbrev N_TooMany___init__ : List Str := ["self", "word"]
theorem sc_TooMany___init__ : FnScope N_TooMany___init__ ["self", "word"] (defScope s_TooMany___init__) := ⟨rfl, rfl, rfl, by decide +kernel, rfl, by decide +kernel, by decide +kernel⟩
abbrev s_Reel___init__ : Stmt := inClass (top 20) 0
abbrev N_Reel___init__ : List Str := ["self", "length", "cues", "cue", "number"]
theorem sc_Reel___init__ : FnScope N_Reel___init__ ["self", "length", "cues"] (defScope s_Reel___init__) := ⟨rfl, rfl, rfl, by decide +kernel, rfl, by decide +kernel, by decide +kernel⟩
abbrev s_Reel_speakers : Stmt := inClass (top 20) 1
abbrev N_Reel_speakers : List Str := ["self"]
theorem sc_Reel_speakers : FnScope N_Reel_speakers ["self"] (defScope s_Reel_speakers) := ⟨rfl, rfl, rfl, by decide +kernel, rfl, by decide +kernel, by decide +kernel⟩
abbrev s_Reel_naming : Stmt := inClass (top 20) 2
abbrev N_Reel_naming : List Str := ["self"]
theorem sc_Reel_naming : FnScope N_Reel_naming ["self"] (defScope s_Reel_naming) := ⟨rfl, rfl, rfl, by decide +kernel, rfl, by decide +kernel, by decide +kernel⟩
abbrev s_Reel___len__ : Stmt := inClass (top 20) 3
abbrev N_Reel___len__ : List Str := ["self"]
theorem sc_Reel___len__ : FnScope N_Reel___len__ ["self"] (defScope s_Reel___len__) := ⟨rfl, rfl, rfl, by decide +kernel, rfl, by decide +kernel, by decide +kernel⟩
abbrev s_Reel___getitem__ : Stmt := inClass (top 20) 4
abbrev N_Reel___getitem__ : List Str := ["self", "at"]
theorem sc_Reel___getitem__ : FnScope N_Reel___getitem__ ["self", "at"] (defScope s_Reel___getitem__) := ⟨rfl, rfl, rfl, by decide +kernel, rfl, by decide +kernel, by decide +kernel⟩
abbrev s_Reel___iter__ : Stmt := inClass (top 20) 5
abbrev N_Reel___iter__ : List Str := ["self"]
theorem sc_Reel___iter__ : FnScope N_Reel___iter__ ["self"] (defScope s_Reel___iter__) := ⟨rfl, rfl, rfl, by decide +kernel, rfl, by decide +kernel, by decide +kernel⟩
abbrev s_Reel___eq__ : Stmt := inClass (top 20) 6
abbrev N_Reel___eq__ : List Str := ["self", "other"]
theorem sc_Reel___eq__ : FnScope N_Reel___eq__ ["self", "other"] (defScope s_Reel___eq__) := ⟨rfl, rfl, rfl, by decide +kernel, rfl, by decide +kernel, by decide +kernel⟩
end Sea
namespace Sea
open PySem PySem.Spec PyProof.Rows L2
/-! the small defs of the program -/
/-- None, an int, a truth value or a text -/
def Plain : V → Prop
  | .non => True
  | .bl _ => True
  | .int _ => True
  | .str _ => True
  | _ => False
def isInt : V → Bool
  | .int _ => true
  | _ => false
def inside (x : V) (lo hi : Int) : Bool :=
  match x with
  | .int i => decide (lo ≤ i) && decide (i ≤ hi)
  | _ => false
def spIsInt : Sp := fun vs H Q _ => ∃ x, vs = [x] ∧ Plain x ∧ Q (.bl (isInt x)) H
def spWithin : Sp := fun vs H Q _ => ∃ x lo hi, vs = [x, .int lo, .int hi] ∧ Plain x ∧ Q (.bl (inside x lo hi)) H
section
variable {P : Program} {w : World} {K : PySem.W.Frag} {mg : Str → Option Value} {base : Heap}
theorem ok_is_integer {f : Addr} {fd : FuncData} (F : Fun K "is_integer" "is_integer" s_is_integer f fd)
    (m_isinstance : mg "isinstance" = none) (m_int : mg "int" = none) (m_bool : mg "bool" = none) :
    FnOk P w K mg base CX0 1 f fd ["thing"] spIsInt := by
  refine F.ok sc_is_integer (fun vs H Q E h => ?_) (fun cdv A outer s H vs Q E hr h => ?_)
  · obtain ⟨x, rfl, _⟩ := h
    rfl
  · obtain ⟨x, rfl, hp, q⟩ := h
    refine ⟨_, (pss_one (ps_ret (pe_and (pe_callB call_isi (by rfl) m_isinstance (by decide +kernel) (pa_cons (pv 0) (pa_cons (pe_bltn (v := .ty "int") (by rfl) m_int (by decide +kernel) rfl) pa_nil))) (pe_one (pe_not (pe_callB call_isi (by rfl) m_isinstance (by decide +kernel) (pa_cons (pv 0) (pa_cons (pe_bltn (v := .ty "bool") (by rfl) m_bool (by decide +kernel) rfl) pa_nil)))))))), ?_⟩
    cases x with
    | int i => exact ⟨_, rfl, _, _, _, _, true, rfl, .ty _, .base (.int i), kit_ty (by decide +kernel), true, rfl, iteT ⟨_, rfl, _, _, _, _, false, rfl, .ty _, .base (.int i), kit_ty (by decide +kernel), false, rfl, q⟩⟩
    | bl b => exact ⟨_, rfl, _, _, _, _, true, rfl, .ty _, .base (.bl b), kit_ty (by decide +kernel), true, rfl, iteT ⟨_, rfl, _, _, _, _, true, rfl, .ty _, .base (.bl b), kit_ty (by decide +kernel), true, rfl, q⟩⟩
    | non => exact ⟨_, rfl, _, _, _, _, false, rfl, .ty _, .base .non, kit_ty (by decide +kernel), false, rfl, iteF q⟩
    | str z => exact ⟨_, rfl, _, _, _, _, false, rfl, .ty _, .base (.str z), kit_ty (by decide +kernel), false, rfl, iteF q⟩
    | ref a => exact hp.elim
    | byt z => exact hp.elim
    | flt z => exact hp.elim
    | ty z => exact hp.elim
theorem ok_is_within {f : Addr} {fd : FuncData} (F : Fun K "is_within" "is_within" s_is_within f fd)
    (c_is_integer : Cal P w K mg base 1 "is_integer" spIsInt) : FnOk P w K mg base CX0 2 f fd ["thing", "low", "high"] spWithin := by
  refine F.ok sc_is_within (fun vs H Q E h => ?_) (fun cdv A outer s H vs Q E hr h => ?_)
  · obtain ⟨x, lo, hi, rfl, _⟩ := h
    rfl
  · obtain ⟨x, lo, hi, rfl, hp, q⟩ := h
    refine ⟨_, (pss_one (ps_ret (pe_and (pe_c c_is_integer hr (by decide) rfl (pa_cons (pv 0) pa_nil)) (pe_one (pe_chain op_le op_le (pv 1) (pv 0) (pv 2)))))), ?_⟩
    refine ⟨_, rfl, x, rfl, hp, ?_⟩
    cases x with
    | int i =>
      refine ⟨true, rfl, iteT ⟨_, rfl, _, rfl, _, _, rfl, rfl, _, rfl, ?_⟩⟩
      refine ite2 (fun e => ?_) (fun e => ?_)
      · refine ⟨_, rfl, _, _, rfl, rfl, ?_⟩
        have q' : Q (.bl (decide (lo ≤ i) && decide (i ≤ hi))) H := q
        rw [e, Bool.true_and] at q'
        exact q'
      · have q' : Q (.bl (decide (lo ≤ i) && decide (i ≤ hi))) H := q
        rw [Bool.eq_false_iff.mpr e, Bool.false_and] at q'
        exact q'
    | bl b => exact ⟨false, rfl, iteF q⟩
    | non => exact ⟨false, rfl, iteF q⟩
    | str z => exact ⟨false, rfl, iteF q⟩
    | ref a => exact hp.elim
    | byt z => exact hp.elim
    | flt z => exact hp.elim
    | ty z => exact hp.elim
end
end Sea
namespace Sea
open PySem PySem.Spec PyProof.Rows L2
/-! texts as lists of codes -/
abbrev cp (z : Str) : List Nat := z.cps.toList
theorem cp_len (z : Str) : (cp z).length = z.length := Array.length_toList
theorem cp_mk (l : List Nat) : cp ⟨l.toArray⟩ = l := rfl
theorem cp_inj {a b : Str} (h : cp a = cp b) : a = b := by
  obtain ⟨⟨a⟩⟩ := a
  obtain ⟨⟨b⟩⟩ := b
  have e : a = b := h
  rw [e]
/-- two blanks together -/
def twin : List Nat → Bool
  | a :: b :: r => (a == 32 && b == 32) || twin (b :: r)
  | _ => false
/-- the codes of a text -/
structure Good (l : List Nat) : Prop where
  some : 1 ≤ l.length
  most : l.length ≤ 60
  sign : ∀ c ∈ l, 32 ≤ c ∧ c ≤ 126 ∧ c ≠ 37
  head : l[0]? ≠ Option.some 32
  last : l[l.length - 1]? ≠ Option.some 32
  twin : twin l = false
theorem lt_one (a b : Nat) : decide (([a] : List Nat) < [b]) = decide (a < b) := by
  by_cases h : a < b
  · rw [decide_eq_true h]
    exact decide_eq_true (List.Lex.rel h)
  · rw [decide_eq_false h]
    refine decide_eq_false fun q => ?_
    cases q with
    | rel q => exact h q
    | cons q => cases q
theorem blank_cp : cp (Str.ofString " ") = [32] := by decide +kernel
theorem tilde_cp : cp (Str.ofString "~") = [126] := by decide +kernel
theorem two_cp : cp (Str.ofString "  ") = [32, 32] := by decide +kernel
theorem blank_is (c : Nat) : decide (V.str ⟨#[c]⟩ = V.str (Str.ofString " ")) = decide (c = 32) := by
  by_cases h : c = 32
  · subst h
    rw [decide_eq_true rfl]
    refine decide_eq_true (congrArg V.str (cp_inj ?_))
    rw [blank_cp]
  · rw [decide_eq_false h]
    refine decide_eq_false fun q => h ?_
    have e := congrArg cp (V.str.inj q)
    rw [blank_cp] at e
    exact (List.cons.inj e).1
theorem twin_iff : ∀ l : List Nat, twin l = true ↔ ∃ i, l[i]? = Option.some 32 ∧ l[i + 1]? = Option.some 32
  | [] => by simp [twin]
  | [a] => by simp [twin]
  | a :: b :: r => by
    have ih := twin_iff (b :: r)
    constructor
    · intro h
      have h' : ((a == 32 && b == 32) || twin (b :: r)) = true := h
      rcases Bool.or_eq_true_iff.mp h' with q | q
      · obtain ⟨q1, q2⟩ := Bool.and_eq_true_iff.mp q
        exact ⟨0, congrArg Option.some (beq_iff_eq.mp q1), congrArg Option.some (beq_iff_eq.mp q2)⟩
      · obtain ⟨i, h1, h2⟩ := ih.mp q
        exact ⟨i + 1, h1, h2⟩
    · rintro ⟨i, h1, h2⟩
      show ((a == 32 && b == 32) || twin (b :: r)) = true
      cases i with
      | zero =>
        have e1 : a = 32 := Option.some.inj h1
        have e2 : b = 32 := Option.some.inj h2
        rw [e1, e2]
        rfl
      | succ i =>
        rw [ih.mpr ⟨i, h1, h2⟩, Bool.or_true]
theorem two_in (z : Str) : (!(Builtin.Str.occurrences z (Str.ofString "  ") 0 z.length 1).isEmpty) = twin (cp z) := by
  have h := PySem.StrLaws.found_iff z (Str.ofString "  ")
  have hl : (Str.ofString "  ").length = 2 := by decide +kernel
  have key : (!(Builtin.Str.occurrences z (Str.ofString "  ") 0 z.length 1).isEmpty) = true ↔ twin (cp z) = true := by
    rw [h, twin_iff]
    constructor
    · rintro ⟨i, h1, h2⟩
      rw [PySem.StrLaws.subAt_eq, hl] at h2
      have e := eq_of_beq h2
      have e' : ((cp z).drop i).take 2 = [32, 32] := e.trans two_cp
      have g0 := congrArg (fun l => l[0]?) e'
      have g1 := congrArg (fun l => l[1]?) e'
      simp only [List.getElem?_take, List.getElem?_drop] at g0 g1
      exact ⟨i, by simpa using g0, by simpa using g1⟩
    · rintro ⟨i, h1, h2⟩
      have hi : i + 1 < (cp z).length := (List.getElem?_eq_some_iff.mp h2).1
      refine ⟨i, by rw [hl, ← cp_len]; omega, ?_⟩
      rw [PySem.StrLaws.subAt_eq, hl]
      refine beq_iff_eq.mpr (Eq.trans ?_ two_cp.symm)
      refine List.ext_getElem? fun k => ?_
      rw [List.getElem?_take, List.getElem?_drop]
      match k with
      | 0 => simpa using h1
      | 1 => simpa using h2
      | k + 2 => simp; omega
  cases hb : twin (cp z) with
  | true => exact key.mpr hb
  | false =>
    rw [Bool.eq_false_iff]
    exact fun q => by rw [key.mp q] at hb; cases hb
/-- a value of the kinds that are handed to is_text -/
def AnyV (H : Hp) (x : V) : Prop := Plain x ∨ ∃ a xs, x = .ref a ∧ (H a = some (.lst xs) ∨ H a = some (.tup xs))
open Classical in
noncomputable def textV : V → Bool
  | .str z => decide (Good (cp z))
  | _ => false
def spPercent : Sp := fun vs H Q _ => ∃ z : Str, vs = [.str z] ∧ z.length ≤ 1000 ∧ ∀ H', Same H H' → Q (.bl (decide (37 ∈ cp z))) H'
noncomputable def spIsText : Sp := fun vs H Q _ => ∃ x, vs = [x] ∧ AnyV H x ∧ (∀ z, x = .str z → z.length ≤ 2000) ∧ ∀ H', Same H H' → Q (.bl (textV x)) H'
theorem inV_ints (k : Nat) : ∀ l : List Nat, inV (.int (k : Nat)) (l.map fun c => V.int (c : Nat)) = decide (k ∈ l)
  | [] => rfl
  | c :: r => by
    show (eqV (.int (c : Nat)) (.int (k : Nat)) || inV (.int (k : Nat)) (r.map fun c => V.int (c : Nat))) = _
    rw [inV_ints k r]
    show (((c : Nat) : Int) == ((k : Nat) : Int) || decide (k ∈ r)) = decide (k ∈ c :: r)
    by_cases h : k = c
    · subst h
      simp
    · have h' : ((c : Nat) : Int) ≠ ((k : Nat) : Int) := fun e => h (Int.ofNat.inj e).symm
      have h2 : (((c : Nat) : Int) == ((k : Nat) : Int)) = false := beq_eq_false_iff_ne.mpr h'
      rw [h2, Bool.false_or]
      simp [h]
theorem flat_ints : ∀ l : List Nat, (l.map fun c => V.int (c : Nat)).all flatV = true
  | [] => rfl
  | _ :: r => flat_ints r
section
variable {P : Program} {w : World} {K : PySem.W.Frag} {mg : Str → Option Value} {base : Heap}
theorem ok_has_percent {f : Addr} {fd : FuncData} (F : Fun K "has_percent" "has_percent" s_has_percent f fd) {t : Tok} (g_PERCENT : mg "PERCENT" = some (.int 37 t)) (m_ord : mg "ord" = none) :
    FnOk P w K mg base CX0 1 f fd ["word"] spPercent := by
  refine F.ok sc_has_percent (fun vs H Q E h => ?_) (fun cdv A outer s H vs Q E hr h => ?_)
  · obtain ⟨z, rfl, _⟩ := h
    rfl
  · obtain ⟨z, rfl, hz, q⟩ := h
    refine ⟨_, (pss_one (ps_ret (pe_cmpR op_in_seq (pe_glob (v := .int 37) rfl g_PERCENT ⟨_, rfl⟩) (pe_lc (own := [("sign", 1)]) rfl sc_has_percent.nd (pi_str (pv 0)) (blkOk_by (N := N_has_percent) (sc := defScope s_has_percent) (by decide +kernel)) (fun _ _ _ _ _ => (pg_name (i := 1) sc_has_percent.nd rfl (Or.inl rfl))) (fun _ _ _ _ _ => pts_nil) (fun _ _ _ _ _ => (pe_callB call_ord (by rfl) m_ord (by decide +kernel) (pa_cons (pv 1) pa_nil)))) rfl))), ?_⟩
    refine ⟨_, rfl, z, rfl, fun D hD => ?_⟩
    refine lc_it walk_str (fun i H' => Same H H' ∧ H' D = some (.lst (((cp z).take i).map fun c => V.int (c : Nat)))) ⟨same_new hD, upd_same⟩ (fun _ _ _ _ => trivial) ?_ ?_
    · rintro i x Ha Hb hi ⟨hs, hd⟩ ⟨rfl, c, hc, rfl⟩
      have hc' : (cp z)[i]? = some c := by rw [Array.getElem?_toList]; exact hc
      refine ⟨rfl, _, rfl, _, rfl, rfl, _, hd, ?_, same_over hs hD, ?_⟩
      · rw [List.length_map, List.length_take, cp_len]
        exact small_line (by omega)
      · rw [upd_same, sub_take hc', List.map_append]
        rfl
    · rintro H' ⟨hs, hd⟩
      have ht : (cp z).take z.cps.size = cp z := List.take_of_length_le (Nat.le_of_eq (cp_len z))
      rw [ht] at hd
      refine ⟨D, _, rfl, .inl (SqL.of hd), rfl, flat_ints _, ?_⟩
      have e := inV_ints 37 (cp z)
      have q' := q H' hs
      rw [← e] at q'
      exact q'
end
end Sea
namespace Sea
open PySem PySem.Spec PyProof.Rows L2
open Classical in
theorem textV_no {x : V} (h : ∀ z, x = .str z → ¬ Good (cp z)) : textV x = false := by
  cases x with
  | str z => exact decide_eq_false (h z rfl)
  | _ => rfl
open Classical in
theorem textV_yes {z : Str} (h : Good (cp z)) : textV (.str z) = true := decide_eq_true h
theorem ltL (a b : Nat) : decide ((cp ⟨#[a]⟩) < ([b] : List Nat)) = decide (a < b) := lt_one a b
theorem ltR (a b : Nat) : decide (([a] : List Nat) < cp ⟨#[b]⟩) = decide (a < b) := lt_one a b
theorem all_signs (l : List Nat) : ((l.map fun c => decide (32 ≤ c ∧ c ≤ 126)).all id) = decide (∀ c ∈ l, 32 ≤ c ∧ c ≤ 126) := by
  induction l with
  | nil => simp
  | cons a r ih =>
    rw [List.map_cons, List.all_cons, ih]
    by_cases h : 32 ≤ a ∧ a ≤ 126
    · simp [h]
    · have h2 : ¬ (∀ c ∈ a :: r, 32 ≤ c ∧ c ≤ 126) := fun q => h (q a List.mem_cons_self)
      rw [decide_eq_false h2]
      simp only [id]
      rw [decide_eq_false h, Bool.false_and]
section
variable {P : Program} {w : World} {K : PySem.W.Frag} {mg : Str → Option Value} {base : Heap}
theorem ok_is_text {f : Addr} {fd : FuncData} (F : Fun K "is_text" "is_text" s_is_text f fd)
    (m_isinstance : mg "isinstance" = none) (m_str : mg "str" = none) (m_len : mg "len" = none) (m_all : mg "all" = none)
    (c_has_percent : Cal P w K mg base 1 "has_percent" spPercent) : FnOk P w K mg base CX0 2 f fd ["thing"] spIsText := by
  refine F.ok sc_is_text (fun vs H Q E h => ?_) (fun cdv A outer s H vs Q E hr h => ?_)
  · obtain ⟨x, rfl, _⟩ := h
    rfl
  · obtain ⟨x, rfl, hany, hsz, q⟩ := h
    refine ⟨_, (pss_cons (ps_if (PW.pt (pw_or (pt_not (pt_val (pe_callB call_isi (by rfl) m_isinstance (by decide +kernel) (pa_cons (pv 0) (pa_cons (pe_bltn (v := .ty "str") (by rfl) m_str (by decide +kernel) rfl) pa_nil))))) (pw_or1 (pt_not (pt_chain op_le op_le (pe_int) (pe_callB call_len (by rfl) m_len (by decide +kernel) (pa_cons (pv 0) pa_nil)) (pe_int))))))
    (pss_one (ps_ret (pe_bl)))
    pss_nil)
    (pss_cons (ps_if (PW.pt (pw_or (pt_val (pe_c c_has_percent hr (by decide) rfl (pa_cons (pv 0) pa_nil))) (pw_or1 (pt_not (pt_val (pe_callB (cr_all rfl) (by rfl) m_all (by decide +kernel) (pa_cons (pe_lc (own := [("sign", 1)]) rfl sc_is_text.nd (pi_str (pv 0)) (blkOk_by (N := N_is_text) (sc := defScope s_is_text) (by decide +kernel)) (fun _ _ _ _ _ => (pg_name (i := 1) sc_is_text.nd rfl (Or.inl rfl))) (fun _ _ _ _ _ => pts_nil) (fun _ _ _ _ _ => (pe_chain op_le_str op_le_str (pe_str) (pv 1) (pe_str)))) pa_nil)))))))
    (pss_one (ps_ret (pe_bl)))
    pss_nil)
    (pss_one (ps_ret (pe_and (pe_cmpR op_ne (pe_ix ix_str (pv 0) (pe_int) (fun _ _ => rfl)) (pe_str) (nomark _)) (pe_and (pe_cmpR op_ne (pe_ix ix_str (pv 0) (pe_un un_neg (pe_int)) (fun _ _ => rfl)) (pe_str) (nomark _)) (pe_one (pe_cmpR op_notin_str (pe_str) (pv 0) rfl)))))))), ?_⟩
    -- what is no text
    have other : ∀ t, TyX K H x t → PySem.W.kitOne K t (.type "str") = some false → textV x = false →
        (∃ v, (start N_is_text [x])[0]? = some (some v) ∧ ∃ (x' c : V) (t u : Value) (b : Bool), [v, V.ty "str"] = [x', c] ∧ ClsV c u ∧ TyX K H x' t ∧ PySem.W.kitOne K t u = some b ∧ (∃ c, V.bl b = .bl c ∧ (if (!c) = true then (if true = true then Q (.bl false) H else False) else False))) :=
      fun t ty k e => ⟨x, rfl, x, _, t, _, false, rfl, .ty _, ty, k, false, rfl, by
        have q' := q H (Same.refl H)
        rw [e] at q'
        exact q'⟩
    cases x with
    | int i => obtain ⟨v, h1, x', c, t, u, b, h2, h3, h4, h5, c', h6, h7⟩ := other _ (.base (.int i)) (kit_ty (by decide +kernel)) rfl
               exact ⟨_, rfl, _, _, _, _, false, rfl, .ty _, .base (.int i), kit_ty (by decide +kernel), false, rfl, q H (Same.refl H)⟩
    | bl b => exact ⟨_, rfl, _, _, _, _, false, rfl, .ty _, .base (.bl b), kit_ty (by decide +kernel), false, rfl, q H (Same.refl H)⟩
    | non => exact ⟨_, rfl, _, _, _, _, false, rfl, .ty _, .base .non, kit_ty (by decide +kernel), false, rfl, q H (Same.refl H)⟩
    | ref a =>
      rcases hany with hp | ⟨a', xs, ea, hl | hl⟩
      · exact hp.elim
      · cases ea
        exact ⟨_, rfl, _, _, _, _, false, rfl, .ty _, .base (.lst hl), kit_ty (by decide +kernel), false, rfl, q H (Same.refl H)⟩
      · cases ea
        exact ⟨_, rfl, _, _, _, _, false, rfl, .ty _, .base (.tup hl), kit_ty (by decide +kernel), false, rfl, q H (Same.refl H)⟩
    | byt z => rcases hany with hp | ⟨a', xs, ea, _⟩ <;> first | exact hp.elim | cases ea
    | flt z => rcases hany with hp | ⟨a', xs, ea, _⟩ <;> first | exact hp.elim | cases ea
    | ty z => rcases hany with hp | ⟨a', xs, ea, _⟩ <;> first | exact hp.elim | cases ea
    | str z =>
      have hz2 : z.length ≤ 2000 := hsz z rfl
      have hzl : z.length ≤ sizeLine := by rw [sizeLine_eq]; omega
      have no : ∀ H', Same H H' → ¬ Good (cp z) → Q (.bl false) H' := fun H' hs hg => by
        have q' := q H' hs
        rw [textV_no (fun z' e => by cases e; exact hg)] at q'
        exact q'
      refine ⟨_, rfl, _, _, _, _, true, rfl, .ty _, .base (.str z), kit_ty (by decide +kernel), true, rfl, ?_⟩
      refine ⟨_, rfl, _, z.length, rfl, ⟨hzl, rfl⟩, _, _, rfl, rfl, _, rfl, ite2 (fun h1 => ⟨_, _, rfl, rfl, _, rfl, ?_⟩) (fun h1 => ⟨_, rfl, ?_⟩)⟩
      · have g1 : (1 : Int) ≤ (z.length : Nat) := of_decide_eq_true h1
        by_cases h2 : ((z.length : Nat) : Int) ≤ 60
        · rw [decide_eq_true h2]
          -- has_percent
          refine ⟨_, rfl, z, rfl, (by omega), fun H1 s1 => ⟨_, rfl, ?_⟩⟩
          refine ite2 (fun hp => ?_) (fun hp => ?_)
          · refine no H1 s1 fun g => ?_
            exact (g.sign 37 (of_decide_eq_true hp)).2.2 rfl
          · have hp' : 37 ∉ cp z := fun m => hp (decide_eq_true m)
            refine ⟨_, rfl, z, rfl, fun D hD => ?_⟩
            refine lc_it walk_str (fun i H' => Same H1 H' ∧ H' D = some (.lst ((((cp z).take i).map fun c => decide (32 ≤ c ∧ c ≤ 126)).map V.bl))) ⟨same_new hD, upd_same⟩ (fun _ _ _ _ => trivial) ?_ ?_
            · rintro i x Ha Hb hi ⟨hs, hd⟩ ⟨rfl, c, hc, rfl⟩
              have hc' : (cp z)[i]? = some c := by rw [Array.getElem?_toList]; exact hc
              have sz : ((((cp z).take i).map fun c => decide (32 ≤ c ∧ c ≤ 126)).map V.bl).length < sizeLine := by
                rw [List.length_map, List.length_map, List.length_take, cp_len]
                exact small_line (by omega)
              have fin : ∀ b, b = decide (32 ≤ c ∧ c ≤ 126) → Same H1 (upd Hb D (.lst (((((cp z).take i).map fun c => decide (32 ≤ c ∧ c ≤ 126)).map V.bl) ++ [V.bl b]))) ∧
                  (upd Hb D (.lst (((((cp z).take i).map fun c => decide (32 ≤ c ∧ c ≤ 126)).map V.bl) ++ [V.bl b]))) D = some (.lst ((((cp z).take (i + 1)).map fun c => decide (32 ≤ c ∧ c ≤ 126)).map V.bl)) := by
                intro b e
                subst e
                refine ⟨same_over hs hD, ?_⟩
                rw [upd_same, sub_take hc', List.map_append, List.map_append]
                rfl
              have e1 : (!decide ((cp ⟨#[c]⟩) < cp (Str.ofString " "))) = decide (32 ≤ c) := by
                rw [blank_cp, ltL]
                by_cases h : c < 32
                · rw [decide_eq_true h, decide_eq_false (by omega)]; rfl
                · rw [decide_eq_false h, decide_eq_true (by omega)]; rfl
              have e2 : (!decide (cp (Str.ofString "~") < (cp ⟨#[c]⟩))) = decide (c ≤ 126) := by
                rw [tilde_cp, ltR]
                by_cases h : 126 < c
                · rw [decide_eq_true h, decide_eq_false (by omega)]; rfl
                · rw [decide_eq_false h, decide_eq_true (by omega)]; rfl
              refine ⟨rfl, _, rfl, _, _, rfl, rfl, _, rfl, ite2 (fun h => ⟨_, _, rfl, rfl, _, hd, sz, ?_⟩) (fun h => ⟨_, hd, sz, ?_⟩)⟩
              · refine fin _ ?_
                have h' : 32 ≤ c := of_decide_eq_true (e1.symm.trans h)
                rw [e2]
                by_cases k : c ≤ 126
                · rw [decide_eq_true k, decide_eq_true ⟨h', k⟩]
                · rw [decide_eq_false k, decide_eq_false (fun q => k q.2)]
              · refine fin _ ?_
                have h' : ¬ 32 ≤ c := fun q => h (e1.trans (decide_eq_true q))
                rw [decide_eq_false (fun q => h' q.1)]
            · rintro H' ⟨hs, hd⟩
              have ht : (cp z).take z.cps.size = cp z := List.take_of_length_le (Nat.le_of_eq (cp_len z))
              rw [ht] at hd
              refine ⟨D, _, rfl, SqL.of hd, _, rfl, ?_⟩
              rw [all_signs]
              have s2 := s1.trans hs
              by_cases ha : ∀ c ∈ cp z, 32 ≤ c ∧ c ≤ 126
              · rw [decide_eq_true ha]
                have n0 : 0 < (cp z).length := by rw [cp_len]; omega
                have z0 : (cp z)[0]? = some (cp z)[0] := List.getElem?_eq_getElem n0
                have z1 : (cp z)[(cp z).length - 1]? = some ((cp z)[(cp z).length - 1]'(by omega)) := List.getElem?_eq_getElem (by omega)
                have zl : atI (cp z) (-1) = some ((cp z)[(cp z).length - 1]'(by omega)) := by
                  unfold atI ixN
                  rw [if_neg (by decide), if_pos (by omega)]
                  show (cp z)[((-1 : Int) + ((cp z).length : Nat)).toNat]? = _
                  rw [show ((-1 : Int) + ((cp z).length : Nat)).toNat = (cp z).length - 1 by omega]
                  exact z1
                refine ⟨_, rfl, z, 0, _, rfl, rfl, hzl, atI_nat (j := 0) z0, rfl, _, rfl, ?_⟩
                rw [blank_is]
                by_cases b0 : (cp z)[0] = 32
                · rw [decide_eq_true b0]
                  exact no H' s2 fun g => g.head (z0.trans (congrArg some b0))
                · rw [decide_eq_false b0]
                  refine ⟨_, rfl, 1, rfl, z, -1, _, rfl, rfl, hzl, zl, rfl, _, rfl, ?_⟩
                  rw [blank_is]
                  by_cases b1 : (cp z)[(cp z).length - 1]'(by omega) = 32
                  · rw [decide_eq_true b1]
                    exact no H' s2 fun g => g.last (z1.trans (congrArg some b1))
                  · rw [decide_eq_false b1]
                    refine ⟨_, rfl, _, _, rfl, rfl, ?_⟩
                    have q' := q H' s2
                    have e : textV (.str z) = !twin (cp z) := by
                      cases ht2 : twin (cp z) with
                      | true => exact textV_no fun z' e' g => by cases e'; rw [g.twin] at ht2; cases ht2
                      | false =>
                        refine textV_yes ⟨by omega, by rw [cp_len]; omega, fun c hc => ⟨(ha c hc).1, (ha c hc).2, fun e => hp' (e ▸ hc)⟩, fun e => b0 (Option.some.inj (z0.symm.trans e)), fun e => b1 (Option.some.inj (z1.symm.trans e)), ht2⟩
                    rw [e, ← two_in] at q'
                    exact q'
              · rw [decide_eq_false ha]
                exact no H' s2 fun g => ha fun c hc => ⟨(g.sign c hc).1, (g.sign c hc).2.1⟩
        · rw [decide_eq_false h2]
          exact no H (Same.refl H) fun g => h2 (by have := g.most; rw [cp_len] at this; omega)
      · refine no H (Same.refl H) fun g => h1 (decide_eq_true ?_)
        have := g.some
        rw [cp_len] at this
        omega
end
end Sea
namespace Sea
open PySem PySem.Spec PyProof.Rows L2
/-! the tape that a law draws from -/
/-- all but what stands at t is as it was -/
def KB (t : Addr) (H H' : Hp) : Prop := ∀ b o, b ≠ t → H b = some o → H' b = some o
theorem KB.refl (t : Addr) (H : Hp) : KB t H H := fun _ _ _ h => h
theorem KB.trans {t : Addr} {H H1 H2 : Hp} (a : KB t H H1) (b : KB t H1 H2) : KB t H H2 := fun c o n h => b c o n (a c o n h)
theorem KB.of_same {t : Addr} {H H' : Hp} (s : Same H H') : KB t H H' := fun b o _ h => s b o h
theorem KB.over {t : Addr} {H H' : Hp} {D : Addr} {o : HO} (k : KB t H H') (h : H D = none) : KB t H (upd H' D o) := fun b x n e => by
  rw [upd_ne (ne_of_none e h)]
  exact k b x n e
structure Tape (H : Hp) (tp cl : Addr) (ns : List Int) : Prop where
  ex : ∃ i r z c : Int, H tp = some (.lst [.ref cl, .int i, .int r, .int z, .int c]) ∧ 0 ≤ i ∧ 0 ≤ r ∧ (0 ≤ z ∧ z < 2147483647) ∧ 0 ≤ c
  cells : H cl = some (.lst (ns.map V.int))
  ne : cl ≠ tp
  nn : ∀ n ∈ ns, 0 ≤ n
theorem Tape.set {H H' : Hp} {tp cl : Addr} {ns : List Int} (T : Tape H tp cl ns) (k : KB tp H H') {i r z c : Int} (h1 : 0 ≤ i) (h2 : 0 ≤ r) (h3 : 0 ≤ z ∧ z < 2147483647) (h4 : 0 ≤ c) :
    Tape (upd H' tp (.lst [.ref cl, .int i, .int r, .int z, .int c])) tp cl ns :=
  ⟨⟨i, r, z, c, upd_same, h1, h2, h3, h4⟩, by rw [upd_ne T.ne]; exact k _ _ T.ne T.cells, T.ne, T.nn⟩
theorem KB.set {t : Addr} {H H' : Hp} {o : HO} (k : KB t H H') : KB t H (upd H' t o) := fun b x n e => by
  rw [upd_ne n]
  exact k b x n e
theorem Tape.there {H : Hp} {tp cl : Addr} {ns : List Int} (T : Tape H tp cl ns) : ∃ o, H tp = some o := let ⟨_, _, _, _, h, _⟩ := T.ex; ⟨_, h⟩
/-- something new, or something else that stands, is written -/
theorem Tape.other {H : Hp} {tp cl : Addr} {ns : List Int} (T : Tape H tp cl ns) {D : Addr} {o : HO} (h1 : tp ≠ D) (h2 : cl ≠ D) : Tape (upd H D o) tp cl ns := by
  obtain ⟨i, r, z, c, h, k1, k2, k3, k4⟩ := T.ex
  exact ⟨⟨i, r, z, c, by rw [upd_ne h1]; exact h, k1, k2, k3, k4⟩, by rw [upd_ne h2]; exact T.cells, T.ne, T.nn⟩
theorem Tape.fresh {H : Hp} {tp cl : Addr} {ns : List Int} (T : Tape H tp cl ns) {D : Addr} (h : H D = none) : tp ≠ D ∧ cl ≠ D := by
  obtain ⟨o, ho⟩ := T.there
  exact ⟨ne_of_none ho h, ne_of_none T.cells h⟩
theorem Tape.new {H : Hp} {tp cl : Addr} {ns : List Int} (T : Tape H tp cl ns) {D : Addr} {o : HO} (h : H D = none) : Tape (upd H D o) tp cl ns :=
  T.other (T.fresh h).1 (T.fresh h).2
theorem Tape.same {H H' : Hp} {tp cl : Addr} {ns : List Int} (T : Tape H tp cl ns) (s : Same H H') : Tape H' tp cl ns := by
  obtain ⟨i, r, z, c, h, k⟩ := T.ex
  exact ⟨⟨i, r, z, c, s _ _ h, k⟩, s _ _ T.cells, T.ne, T.nn⟩
def spPick : Sp := fun vs H Q _ => ∃ (tp cl : Addr) (ns : List Int) (m : Int), vs = [.ref tp, .int m] ∧ Tape H tp cl ns ∧ m < 1073741824 ∧
  ∀ H' d, KB tp H H' → Tape H' tp cl ns → 0 ≤ d → (d < m ∨ d = 0) → Q (.int d) H'
def spSome : Sp := fun vs H Q _ => ∃ (tp cl : Addr) (ns : List Int) (lo hi : Int), vs = [.ref tp, .int lo, .int hi] ∧ Tape H tp cl ns ∧ lo ≤ hi ∧ hi - lo < 1000000000 ∧
  ∀ H' d, KB tp H H' → Tape H' tp cl ns → lo ≤ d → d ≤ hi → Q (.int d) H'
theorem at_int {ns : List Int} {i : Int} (h0 : 0 ≤ i) (h1 : i < ((ns.map V.int).length : Nat)) : ∃ n, n ∈ ns ∧ atI (ns.map V.int) i = some (.int n) := by
  obtain ⟨k, rfl⟩ : ∃ k : Nat, i = (k : Int) := ⟨i.toNat, by omega⟩
  have h2 : k < ns.length := by rw [List.length_map] at h1; omega
  refine ⟨ns[k], List.getElem_mem h2, atI_nat ?_⟩
  rw [List.getElem?_map, List.getElem?_eq_getElem h2]
  rfl
theorem nz {k : Int} (h : k ≠ 0) : (fun _ j : Int => j ≠ 0) 0 k := h
section
variable {P : Program} {w : World} {K : PySem.W.Frag} {mg : Str → Option Value} {base : Heap}
theorem ok_pick {f : Addr} {fd : FuncData} (F : Fun K "_law_pick" "_law_pick" s__law_pick f fd) (m_len : mg "len" = none) (m_int : mg "int" = none) :
    FnOk P w K mg base CX0 1 f fd ["_law_tape_here", "_law_many"] spPick := by
  refine F.ok sc__law_pick (fun vs H Q E h => ?_) (fun cdv A outer s H vs Q E hr h => ?_)
  · obtain ⟨tp, cl, ns, m, rfl, _⟩ := h
    rfl
  · obtain ⟨tp, cl, ns, m, rfl, T, hm, q⟩ := h
    refine ⟨_, (pss_cons (ps_if (PW.pt (pw_or (pt_not (pt_truth (pe_ix ix_list (pv 0) (pe_int) (fun _ _ => rfl)) (by intro _; rfl))) (pw_or1 (pt_cmpR op_lt (pv 1) (pe_int) (nomark _)))))
    (pss_one (ps_ret (pe_int)))
    pss_nil)
    (C8.pss_cut (ps_if (PW.pt (pw_and (pt_cmpR op_eq (pe_ix ix_list (pv 0) (pe_int) (fun _ _ => rfl)) (pe_int) (nomark _)) (pw_and1 (pt_cmpR op_lt (pe_ix ix_list (pv 0) (pe_int) (fun _ _ => rfl)) (pe_callB call_len (by rfl) m_len (by decide +kernel) (pa_cons (pe_ix ix_list (pv 0) (pe_int) (fun _ _ => rfl)) pa_nil)) (nomark _)))))
    (pss_cons (ps_asg (pe_ix ix_list (pe_ix ix_list (pv 0) (pe_int) (fun _ _ => rfl)) (pe_ix ix_list (pv 0) (pe_int) (fun _ _ => rfl)) (fun _ _ => rfl)) (pg_sub (pv 0) (pe_int) set_list))
    (pss_cons (ps_asg (pe_op op_add (pe_ix ix_list (pv 0) (pe_int) (fun _ _ => rfl)) (pe_int)) (pg_sub (pv 0) (pe_int) set_list))
    (pss_one (ps_if (pt_cmpR op_lt (pe_ix ix_list (pv 0) (pe_int) (fun _ _ => rfl)) (pe_op op_pow (pe_int) (pe_int)) (nomark _))
    (pss_cons (ps_asg (pe_op op_modN (pe_callTy call_int1 (by rfl) m_int (by decide +kernel) (pa_cons (pe_op op_add (pe_op op_add (pe_op op_mul (pe_ix ix_list (pv 0) (pe_int) (fun _ _ => rfl)) (pe_int)) (pe_op op_mul (pe_ix ix_list (pv 0) (pe_int) (fun _ _ => rfl)) (pe_int))) (pe_int)) pa_nil)) (pe_int)) (pg_sub (pv 0) (pe_int) set_list))
    (pss_one (ps_asg (pe_int) (pg_sub (pv 0) (pe_int) set_list))))
    pss_nil))))
    pss_nil)
    (pss_cons (ps_if (pt_cmpR op_gt (pe_ix ix_list (pv 0) (pe_int) (fun _ _ => rfl)) (pe_int) (nomark _))
    (pss_cons (ps_set (i := 2) sc__law_pick.nd rfl (Or.inl rfl) (pe_op op_modN (pe_callTy call_int1 (by rfl) m_int (by decide +kernel) (pa_cons (pe_ix ix_list (pv 0) (pe_int) (fun _ _ => rfl)) pa_nil)) (pv 1)))
    (pss_cons (ps_asg (pe_op op_fdivN (pe_ix ix_list (pv 0) (pe_int) (fun _ _ => rfl)) (pv 1)) (pg_sub (pv 0) (pe_int) set_list))
    (pss_one (ps_ret (pv 2)))))
    pss_nil)
    (pss_cons (ps_asg (pe_op op_add (pe_ix ix_list (pv 0) (pe_int) (fun _ _ => rfl)) (pe_int)) (pg_sub (pv 0) (pe_int) set_list))
    (pss_cons (ps_asg (pe_op op_modN (pe_callTy call_int1 (by rfl) m_int (by decide +kernel) (pa_cons (pe_op op_add (pe_op op_add (pe_op op_mul (pe_ix ix_list (pv 0) (pe_int) (fun _ _ => rfl)) (pe_int)) (pe_op op_mul (pe_ix ix_list (pv 0) (pe_int) (fun _ _ => rfl)) (pe_int))) (pe_int)) pa_nil)) (pe_int)) (pg_sub (pv 0) (pe_int) set_list))
    (pss_cons (ps_set (i := 3) sc__law_pick.nd rfl (Or.inl rfl) (pe_op op_modN (pe_callTy call_int1 (by rfl) m_int (by decide +kernel) (pa_cons (pe_op op_add (pe_op op_mul (pe_ix ix_list (pv 0) (pe_int) (fun _ _ => rfl)) (pe_ix ix_list (pv 0) (pe_int) (fun _ _ => rfl))) (pe_op op_mul (pe_ix ix_list (pv 0) (pe_int) (fun _ _ => rfl)) (pe_int))) pa_nil)) (pe_int)))
    (pss_cons (ps_set (i := 3) sc__law_pick.nd rfl (Or.inl rfl) (pe_op op_modN (pe_callTy call_int1 (by rfl) m_int (by decide +kernel) (pa_cons (pe_op op_add (pe_op op_mul (pv 3) (pe_int)) (pe_ix ix_list (pv 0) (pe_int) (fun _ _ => rfl))) pa_nil)) (pe_int)))
    (pss_one (ps_ret (pe_op op_modN (pe_callTy call_int1 (by rfl) m_int (by decide +kernel) (pa_cons (pe_op op_fdivN (pv 3) (pe_int)) pa_nil)) (pv 1))))))))))), ?_⟩
    obtain ⟨i, r, z, c, hT, i0, r0, z0, c0⟩ := T.ex
    have hC := T.cells
    have modz : ∀ x : Int, 0 ≤ x.fmod 2147483647 ∧ x.fmod 2147483647 < 2147483647 := fun x => ⟨Int.fmod_nonneg_of_pos x (by decide), Int.fmod_lt_of_pos x (by decide)⟩
    -- if not tape[0] or many < 2
    refine ⟨_, rfl, tp, _, 0, _, rfl, rfl, SqL.of hT, atI_nat (j := 0) rfl, _, .inl ⟨_, SqL.of hC, rfl⟩, ?_⟩
    cases ns with
    | nil => exact q H 0 (KB.refl _ _) T (Int.le_refl _) (.inr rfl)
    | cons n0 nr =>
      refine ⟨_, rfl, _, _, rfl, rfl, _, rfl, ite2 (fun e => q H 0 (KB.refl _ _) T (Int.le_refl _) (.inr rfl)) (fun e => ?_)⟩
      have m2 : 2 ≤ m := by
        have : ¬ m < 2 := fun z => e (decide_eq_true z)
        omega
      have modm : ∀ x : Int, 0 ≤ x.fmod m ∧ x.fmod m < m := fun x => ⟨Int.fmod_nonneg_of_pos x (by omega), Int.fmod_lt_of_pos x (by omega)⟩
      refine ⟨fun σ' H' => σ' = [some (.ref tp), some (.int m), none, none] ∧ KB tp H H' ∧ Tape H' tp cl (n0 :: nr), ?_, ?_⟩
      · -- a new cell
        refine ⟨_, rfl, tp, _, 2, _, rfl, rfl, SqL.of hT, atI_nat (j := 2) rfl, rfl, _, rfl, ite2 (fun e1 => ?_) (fun e1 => ⟨rfl, KB.refl _ _, T⟩)⟩
        refine ⟨_, rfl, tp, _, 1, _, rfl, rfl, SqL.of hT, atI_nat (j := 1) rfl, _, rfl, tp, _, 0, _, rfl, rfl, SqL.of hT, atI_nat (j := 0) rfl, _, _, rfl, .inl ⟨_, SqL.of hC, rfl⟩, _, _, rfl, rfl, _, rfl, ite2 (fun e2 => ?_) (fun e2 => ⟨rfl, KB.refl _ _, T⟩)⟩
        obtain ⟨n, hn, ha⟩ := at_int (ns := n0 :: nr) i0 (of_decide_eq_true e2)
        have n0' := T.nn n hn
        refine ⟨_, rfl, tp, _, 0, _, rfl, rfl, SqL.of hT, atI_nat (j := 0) rfl, _, rfl, tp, _, 1, _, rfl, rfl, SqL.of hT, atI_nat (j := 1) rfl, cl, _, i, _, rfl, rfl, SqL.of hC, ha, _, rfl, tp, _, 2, 2, rfl, rfl, hT, rfl, ?_⟩
        refine ⟨_, rfl, tp, _, 1, _, rfl, rfl, SqL.of upd_same, atI_nat (j := 1) rfl, _, _, rfl, rfl, _, rfl, tp, _, 1, 1, rfl, rfl, upd_same, rfl, ?_⟩
        refine ⟨_, rfl, tp, _, 2, _, rfl, rfl, SqL.of upd_same, atI_nat (j := 2) rfl, _, _, rfl, rfl, ⟨by decide, by decide, by decide⟩, _, _, rfl, rfl, _, rfl, ite2 (fun e3 => ?_) (fun e3 => ?_)⟩
        · refine ⟨_, rfl, tp, _, 3, _, rfl, rfl, SqL.of upd_same, atI_nat (j := 3) rfl, _, _, rfl, rfl, .inr ⟨by decide, by decide⟩, _, rfl, tp, _, 2, _, rfl, rfl, SqL.of upd_same, atI_nat (j := 2) rfl, _, _, rfl, rfl, .inr ⟨by decide, by decide⟩, _, _, rfl, rfl, _, _, rfl, rfl, .inl ⟨_, rfl, _, _, rfl, rfl, (show (2147483647 : Int) ≠ 0 by decide), _, rfl, tp, _, 3, 3, rfl, rfl, upd_same, rfl, ?_⟩⟩
          refine ⟨_, rfl, tp, _, 2, 2, rfl, rfl, upd_same, rfl, rfl, ?_, ?_⟩
          · exact (((KB.refl _ _).set).set).set.set
          · exact T.set (((KB.refl _ _).set).set).set (by omega) (Int.le_refl _) (modz _) c0
        · exact ⟨rfl, ((KB.refl _ _).set).set, T.set (KB.refl _ _).set (by omega) n0' z0 c0⟩
      · rintro σ' H1 ⟨rfl, k1, T1⟩
        obtain ⟨i', r', z', c', hT', i0', r0', z0', c0'⟩ := T1.ex
        refine ⟨_, rfl, tp, _, 2, _, rfl, rfl, SqL.of hT', atI_nat (j := 2) rfl, _, _, rfl, rfl, _, rfl, ite2 (fun e1 => ?_) (fun e1 => ?_)⟩
        · refine ⟨_, rfl, tp, _, 2, _, rfl, rfl, SqL.of hT', atI_nat (j := 2) rfl, .inl ⟨_, rfl, _, rfl, _, _, rfl, rfl, by show m ≠ 0; omega, ?_⟩⟩
          refine ⟨_, rfl, tp, _, 2, _, rfl, rfl, SqL.of hT', atI_nat (j := 2) rfl, _, rfl, _, _, rfl, rfl, ⟨by omega, by omega⟩, _, rfl, tp, _, 2, 2, rfl, rfl, hT', rfl, ?_⟩
          refine ⟨_, rfl, q _ _ k1.set (T1.set (KB.refl _ _) i0' (Int.fdiv_nonneg r0' (by omega)) z0' c0') (modm _).1 (.inl (modm _).2)⟩
        · refine ⟨_, rfl, tp, _, 4, _, rfl, rfl, SqL.of hT', atI_nat (j := 4) rfl, _, _, rfl, rfl, _, rfl, tp, _, 4, 4, rfl, rfl, hT', rfl, ?_⟩
          refine ⟨_, rfl, tp, _, 3, _, rfl, rfl, SqL.of upd_same, atI_nat (j := 3) rfl, _, _, rfl, rfl, .inr ⟨by decide, by decide⟩, _, rfl, tp, _, 4, _, rfl, rfl, SqL.of upd_same, atI_nat (j := 4) rfl, _, _, rfl, rfl, .inr ⟨by decide, by decide⟩, _, _, rfl, rfl, _, _, rfl, rfl, .inl ⟨_, rfl, _, _, rfl, rfl, (show (2147483647 : Int) ≠ 0 by decide), _, rfl, tp, _, 3, 3, rfl, rfl, upd_same, rfl, ?_⟩⟩
          have mz := modz (z' * 48271 + (c' + 1) * 40692 + 5)
          refine ⟨_, rfl, tp, _, 3, _, rfl, rfl, SqL.of upd_same, atI_nat (j := 3) rfl, _, rfl, tp, _, 3, _, rfl, rfl, SqL.of upd_same, atI_nat (j := 3) rfl, _, _, rfl, rfl, .inl ⟨?_, ?_⟩, _, rfl, tp, _, 4, _, rfl, rfl, SqL.of upd_same, atI_nat (j := 4) rfl, _, _, rfl, rfl, .inr ⟨by decide, by decide⟩, _, _, rfl, rfl, .inl ⟨_, rfl, _, _, rfl, rfl, (show (2147483629 : Int) ≠ 0 by decide), ?_⟩⟩
          · exact Int.lt_of_lt_of_le (by decide) mz.1
          · exact Int.lt_trans mz.2 (by decide)
          refine ⟨_, rfl, _, _, rfl, rfl, .inr ⟨by decide, by decide⟩, _, rfl, tp, _, 3, _, rfl, rfl, SqL.of upd_same, atI_nat (j := 3) rfl, _, _, rfl, rfl, .inl ⟨_, rfl, _, _, rfl, rfl, (show (2147483587 : Int) ≠ 0 by decide), ?_⟩⟩
          refine ⟨_, rfl, _, _, rfl, rfl, ⟨by decide, by decide⟩, .inl ⟨_, rfl, _, rfl, _, _, rfl, rfl, by show m ≠ 0; omega, ?_⟩⟩
          exact q _ _ k1.set.set (T1.set (KB.refl _ _).set i0' r0' mz (by omega)) (modm _).1 (.inl (modm _).2)
theorem ok_some {f : Addr} {fd : FuncData} (F : Fun K "_law_some" "_law_some" s__law_some f fd) (c__law_pick : Cal P w K mg base 1 "_law_pick" spPick) :
    FnOk P w K mg base CX0 2 f fd ["_law_tape_here", "_law_low", "_law_high"] spSome := by
  refine F.ok sc__law_some (fun vs H Q E h => ?_) (fun cdv A outer s H vs Q E hr h => ?_)
  · obtain ⟨tp, cl, ns, lo, hi, rfl, _⟩ := h
    rfl
  · obtain ⟨tp, cl, ns, lo, hi, rfl, T, h1, h2, q⟩ := h
    refine ⟨_, (pss_one (ps_ret (pe_op op_add (pv 1) (pe_c c__law_pick hr (by decide) rfl (pa_cons (pv 0) (pa_cons (pe_op op_add (pe_op op_sub (pv 2) (pv 1)) (pe_int)) pa_nil)))))), ?_⟩
    refine ⟨_, rfl, _, rfl, _, rfl, _, rfl, _, _, rfl, rfl, _, _, rfl, rfl, tp, cl, ns, _, rfl, T, by omega, fun H' d k T' d0 d1 => ⟨_, _, rfl, rfl, q H' _ k T' ?_ ?_⟩⟩
    · omega
    · omega
end
end Sea
namespace Sea
open PySem PySem.Spec PyProof.Rows L2
/-! texts that a law draws -/
def Sgn (c : Nat) : Prop := 33 ≤ c ∧ c ≤ 126 ∧ c ≠ 37
def Wd (l : List Nat) : Prop := l ≠ [] ∧ ∀ c ∈ l, Sgn c
def flat (ws : List (List Nat)) : List Nat := ws.flatMap fun w => 32 :: w
theorem flat_nil : flat [] = [] := rfl
theorem flat_cons (w : List Nat) (r : List (List Nat)) : flat (w :: r) = 32 :: (w ++ flat r) := rfl
theorem flat_app (a b : List (List Nat)) : flat (a ++ b) = flat a ++ flat b := List.flatMap_append
theorem twin_word : ∀ (w r : List Nat), (∀ c ∈ w, c ≠ 32) → twin (w ++ r) = twin r
  | [], _, _ => rfl
  | a :: w, r, h => by
    have ha : a ≠ 32 := h a List.mem_cons_self
    have ih := twin_word w r fun c hc => h c (List.mem_cons_of_mem _ hc)
    have e : (a == 32) = false := beq_eq_false_iff_ne.mpr ha
    rw [← ih]
    show twin (a :: (w ++ r)) = twin (w ++ r)
    cases w ++ r with
    | nil => rfl
    | cons b r' =>
      show ((a == 32 && b == 32) || twin (b :: r')) = _
      rw [e]
      rfl
theorem Sgn.nb {c : Nat} (h : Sgn c) : c ≠ 32 := by have := h.1; omega
theorem twin_flat : ∀ ws : List (List Nat), (∀ w ∈ ws, Wd w) → twin (flat ws) = false
  | [], _ => rfl
  | w :: r, h => by
    have hw := h w List.mem_cons_self
    have ih := twin_flat r fun v hv => h v (List.mem_cons_of_mem _ hv)
    rw [flat_cons]
    obtain ⟨ne, hs⟩ := hw
    cases w with
    | nil => exact absurd rfl ne
    | cons b w =>
      have e : (b == 32) = false := beq_eq_false_iff_ne.mpr (hs b List.mem_cons_self).nb
      show ((32 == 32 && b == 32) || twin (b :: w ++ flat r)) = false
      rw [e, twin_word _ _ fun c hc => (hs c hc).nb, ih]
      rfl
theorem sign_flat {ws : List (List Nat)} (h : ∀ w ∈ ws, Wd w) : ∀ c ∈ flat ws, 32 ≤ c ∧ c ≤ 126 ∧ c ≠ 37 := by
  intro c hc
  obtain ⟨w, hw, q⟩ := List.mem_flatMap.mp hc
  rcases List.mem_cons.mp q with e | e
  · rw [e]; decide
  · have := (h w hw).2 c e
    exact ⟨by have := this.1; omega, this.2.1, this.2.2⟩
theorem join_cp : ∀ ws : List Str, cp (Str.join (Str.ofString " ") ws) = (flat (ws.map cp)).drop 1
  | [] => rfl
  | [x] => by
    show cp x = (flat [cp x]).drop 1
    rw [flat_cons, flat_nil, List.append_nil]
    rfl
  | x :: y :: r => by
    have ih := join_cp (y :: r)
    show cp (x ++ Str.ofString " " ++ Str.join (Str.ofString " ") (y :: r)) = _
    have e : cp (x ++ Str.ofString " " ++ Str.join (Str.ofString " ") (y :: r)) = cp x ++ cp (Str.ofString " ") ++ cp (Str.join (Str.ofString " ") (y :: r)) := by
      show ((x.cps ++ (Str.ofString " ").cps) ++ (Str.join (Str.ofString " ") (y :: r)).cps).toList = _
      rw [Array.toList_append, Array.toList_append]
    rw [e, ih, blank_cp]
    show cp x ++ [32] ++ (flat ((y :: r).map cp)).drop 1 = cp x ++ flat ((y :: r).map cp)
    rw [List.map_cons, flat_cons, List.append_assoc]
    rfl
theorem join0_cp : ∀ ws : List Str, cp (Str.join (Str.ofString "") ws) = (ws.map cp).flatten
  | [] => rfl
  | [x] => by
    show cp x = cp x ++ []
    rw [List.append_nil]
  | x :: y :: r => by
    have ih := join0_cp (y :: r)
    have z : cp (Str.ofString "") = [] := by decide +kernel
    have e : cp (x ++ Str.ofString "" ++ Str.join (Str.ofString "") (y :: r)) = cp x ++ cp (Str.ofString "") ++ cp (Str.join (Str.ofString "") (y :: r)) := by
      show ((x.cps ++ (Str.ofString "").cps) ++ (Str.join (Str.ofString "") (y :: r)).cps).toList = _
      rw [Array.toList_append, Array.toList_append]
    show cp (x ++ Str.ofString "" ++ Str.join (Str.ofString "") (y :: r)) = cp x ++ ((y :: r).map cp).flatten
    rw [e, ih, z, List.append_nil]
theorem signs_flat (cs : List Nat) : ((cs.map fun c => (⟨#[c]⟩ : Str)).map cp).flatten = cs := by
  induction cs with
  | nil => rfl
  | cons c r ih =>
    show [c] ++ ((r.map fun c => (⟨#[c]⟩ : Str)).map cp).flatten = c :: r
    rw [ih]
    rfl
theorem twin_take {l : List Nat} (n : Nat) (h : twin l = false) : twin (l.take n) = false := by
  rw [Bool.eq_false_iff] at h ⊢
  intro q
  obtain ⟨i, h1, h2⟩ := (twin_iff _).mp q
  refine h ((twin_iff _).mpr ⟨i, ?_, ?_⟩)
  · rw [List.getElem?_take] at h1
    split at h1
    · exact h1
    · cases h1
  · rw [List.getElem?_take] at h2
    split at h2
    · exact h2
    · cases h2
theorem twin_drop {l : List Nat} (n : Nat) (h : twin l = false) : twin (l.drop n) = false := by
  rw [Bool.eq_false_iff] at h ⊢
  intro q
  obtain ⟨i, h1, h2⟩ := (twin_iff _).mp q
  rw [List.getElem?_drop] at h1 h2
  exact h ((twin_iff _).mpr ⟨n + i, h1, h2⟩)
theorem strip_good {x : Str} (hl : x.length ≤ 60) (sg : ∀ c ∈ cp x, 32 ≤ c ∧ c ≤ 126 ∧ c ≠ 37) (tw : twin (cp x) = false) (nb : ∃ c ∈ cp x, c ≠ 32) :
    Good (cp (Txt.stripChars x (Str.ofString " "))) := by
  have goes : ∀ c : Nat, (Str.ofString " ").cps.contains c = (c == 32) := by
    intro c
    have e : (Str.ofString " ").cps = #[32] := by decide +kernel
    rw [e]
    by_cases h : c = 32
    · subst h
      simp
    · have : (c == 32) = false := beq_eq_false_iff_ne.mpr h
      rw [this]
      simp [h]
  unfold Txt.stripChars
  rw [stripBy_eq]
  obtain ⟨l1, l2, l3⟩ := lo_facts (Str.ofString " ").cps.contains x
  generalize hlo : stripLo (Str.ofString " ").cps.contains true x = lo at l1 l2 l3
  obtain ⟨h1, h2, h3, h4⟩ := hi_facts (Str.ofString " ").cps.contains x lo l1
  generalize hhi : stripHi (Str.ofString " ").cps.contains true x lo = hi at h1 h2 h3 h4
  have gd : ∀ k, k < x.length → (cp x)[k]? = some (x.cps.getD k 0) := by
    intro k hk
    have hk' : k < (cp x).length := by rw [cp_len]; exact hk
    rw [List.getElem?_eq_getElem hk', ← getD_list]
    simp [List.getD, List.getElem?_eq_getElem hk']
  -- lo < hi
  have lt : lo < hi := by
    refine Nat.lt_of_not_le fun hle => ?_
    obtain ⟨c, hc, hn⟩ := nb
    obtain ⟨k, hk⟩ := List.getElem?_of_mem hc
    have hkl : k < x.length := by
      have := (List.getElem?_eq_some_iff.mp hk).1
      rw [cp_len] at this
      exact this
    have e := (gd k hkl).symm.trans hk
    have e2 : x.cps.getD k 0 = c := Option.some.inj e
    rcases Nat.lt_or_ge k lo with q | q
    · have := l2 k q
      rw [goes, e2] at this
      exact hn (beq_iff_eq.mp this)
    · have := h3 k (by omega) hkl
      rw [goes, e2] at this
      exact hn (beq_iff_eq.mp this)
  have hcp : cp (Builtin.Str.strSub x lo hi) = ((cp x).drop lo).take (hi - lo) := PySem.StrLaws.strSub_toList x lo hi
  have hlen : (((cp x).drop lo).take (hi - lo)).length = hi - lo := by
    rw [List.length_take, List.length_drop, cp_len]
    omega
  have at_ : ∀ k, k < hi - lo → (((cp x).drop lo).take (hi - lo))[k]? = some (x.cps.getD (lo + k) 0) := by
    intro k hk
    rw [List.getElem?_take, if_pos hk, List.getElem?_drop]
    exact gd (lo + k) (by omega)
  rw [hcp]
  refine ⟨by rw [hlen]; omega, by rw [hlen]; omega, fun c hc => sg c (List.mem_of_mem_drop (List.mem_of_mem_take hc)), ?_, ?_, twin_take _ (twin_drop _ tw)⟩
  · rw [at_ 0 (by omega)]
    intro q
    have e : x.cps.getD (lo + 0) 0 = 32 := Option.some.inj q
    rcases l3 with z | z
    · omega
    · rw [goes, show lo = lo + 0 from rfl, e] at z
      cases z
  · rw [hlen, at_ (hi - lo - 1) (by omega)]
    intro q
    have e : x.cps.getD (lo + (hi - lo - 1)) 0 = 32 := Option.some.inj q
    rw [show lo + (hi - lo - 1) = hi - 1 by omega] at e
    rcases h4 with z | z
    · omega
    · rw [goes, e] at z
      cases z
theorem sIxN (n d k : Nat) (i : Int) (h : i = (k : Int)) : HT.sIx n d (some i) = min k n := by
  rw [h]
  exact HT.sIx_nat n d k
theorem cut60 {z : Str} {i : Int} (e : i = 60) : cp (cutS z none (some i)) = (cp z).take 60 := by
  subst e
  unfold cutS
  rw [HT.sIx_none, sIxN _ _ 60 60 rfl]
  show ((cp z).drop 0).take (min 60 z.length - 0) = _
  rw [List.drop_zero, Nat.sub_zero, ← cp_len]
  exact List.take_eq_take_min.symm
theorem cut161 {z : Str} : cp (cutS z (some 1) (some 61)) = ((cp z).drop 1).take 60 := by
  unfold cutS
  rw [sIxN _ _ 1 1 rfl, sIxN _ _ 61 61 rfl]
  show ((cp z).drop (min 1 z.length)).take (min 61 z.length - min 1 z.length) = _
  rw [← cp_len]
  cases h : cp z with
  | nil => rfl
  | cons a r =>
    rw [List.length_cons, show min 1 (r.length + 1) = 1 by omega, show min 61 (r.length + 1) - 1 = min 60 r.length by omega]
    show r.take (min 60 r.length) = r.take 60
    exact (List.take_eq_take_min).symm
/-- of words, cut at 60 and stripped -/
theorem words_good {x : Str} {ws : List (List Nat)} (h : ∀ w ∈ ws, Wd w) (hne : ws ≠ []) (hx : cp x = ((flat ws).drop 1).take 60) : Good (cp (Txt.stripChars x (Str.ofString " "))) := by
  refine strip_good ?_ ?_ ?_ ?_
  · rw [← cp_len, hx, List.length_take]
    omega
  · rw [hx]
    exact fun c hc => sign_flat h c (List.mem_of_mem_drop (List.mem_of_mem_take hc))
  · rw [hx]
    exact twin_take _ (twin_drop _ (twin_flat ws h))
  · rw [hx]
    cases ws with
    | nil => exact absurd rfl hne
    | cons w r =>
      obtain ⟨ne, hs⟩ := h w List.mem_cons_self
      cases w with
      | nil => exact absurd rfl ne
      | cons b w =>
        refine ⟨b, ?_, (hs b List.mem_cons_self).nb⟩
        show b ∈ (b :: (w ++ flat r)).take 60
        exact List.mem_cons_self
theorem flat_last {ws : List (List Nat)} (h : ∀ w ∈ ws, Wd w) (hne : ws ≠ []) : (flat ws)[(flat ws).length - 1]? ≠ some 32 := by
  obtain ⟨a, w, rfl⟩ : ∃ a w, ws = a ++ [w] := ⟨ws.dropLast, ws.getLast hne, (List.dropLast_concat_getLast hne).symm⟩
  obtain ⟨ne, hs⟩ := h w (List.mem_append_right _ List.mem_cons_self)
  rw [flat_app, flat_cons, flat_nil, List.append_nil, ← List.getLast?_eq_getElem?]
  have e : flat a ++ 32 :: w = (flat a ++ [32]) ++ w := by rw [List.append_assoc]; rfl
  rw [e, List.getLast?_append]
  intro q
  cases hw : w.getLast? with
  | none => exact ne (List.getLast?_eq_none_iff.mp hw)
  | some c =>
    rw [hw] at q
    have q' : c = 32 := Option.some.inj q
    exact (hs c (List.mem_of_getLast? hw)).nb q'
theorem join_good {ws : List (List Nat)} (h : ∀ w ∈ ws, Wd w) (hne : ws ≠ []) (hl : (flat ws).length ≤ 61) : Good ((flat ws).drop 1) := by
  have hlast := flat_last h hne
  have tw := twin_flat ws h
  have sg := sign_flat h
  cases ws with
  | nil => exact absurd rfl hne
  | cons w r =>
    obtain ⟨ne, hs⟩ := h w List.mem_cons_self
    cases w with
    | nil => exact absurd rfl ne
    | cons b w =>
      have e : (flat ((b :: w) :: r)).drop 1 = b :: (w ++ flat r) := rfl
      have e2 : flat ((b :: w) :: r) = 32 :: b :: (w ++ flat r) := rfl
      rw [e2] at hl hlast tw sg
      rw [e]
      rw [List.length_cons] at hl
      refine ⟨Nat.succ_pos _, by omega, fun c hc => sg c (List.mem_cons_of_mem _ hc), ?_, ?_, ?_⟩
      · intro q
        exact (hs b List.mem_cons_self).nb (Option.some.inj q)
      · intro q
        refine hlast ?_
        rw [List.length_cons, Nat.add_sub_cancel]
        rw [List.length_cons, Nat.add_sub_cancel] at q
        rw [List.length_cons, List.getElem?_cons_succ]
        exact q
      · have := twin_drop 1 tw
        exact this
end Sea
namespace Sea
open PySem PySem.Spec PyProof.Rows L2
abbrev SG : Str := Str.ofString "abcdefghijklmnopqrstuvwxyzABCDEFGHIJKLMNOPQRSTUVWXYZ0123456789!\"#$&'()*+,-./:;<=>?\x40[\\]^_`{|}~"
theorem sg_len : SG.length = 93 := by decide +kernel
theorem sg_all : ((cp SG).all fun c => decide (33 ≤ c) && (decide (c ≤ 126) && decide (c ≠ 37))) = true := by decide +kernel
theorem sg_sgn : ∀ c ∈ cp SG, Sgn c := fun c hc => by
  have h := List.all_eq_true.mp sg_all c hc
  obtain ⟨h1, h2⟩ := Bool.and_eq_true_iff.mp h
  obtain ⟨h2, h3⟩ := Bool.and_eq_true_iff.mp h2
  exact ⟨of_decide_eq_true h1, of_decide_eq_true h2, of_decide_eq_true h3⟩
theorem sg_line : SG.length ≤ sizeLine := by
  rw [sg_len]
  decide
theorem sg_at {d : Int} (h0 : 0 ≤ d) (h1 : d < (SG.length : Int) ∨ d = 0) : ∃ c, atI (cp SG) d = some c ∧ Sgn c := by
  obtain ⟨k, rfl⟩ : ∃ k : Nat, d = (k : Int) := ⟨d.toNat, by omega⟩
  have hk : k < (cp SG).length := by
    rw [cp_len, sg_len]
    rw [sg_len] at h1
    omega
  exact ⟨(cp SG)[k], atI_nat (List.getElem?_eq_getElem hk), sg_sgn _ (List.getElem_mem hk)⟩
def spTape (K : PySem.W.Frag) : Sp := fun vs H Q _ => ∃ (a : Addr) (ns : List Int), vs = [.ref a] ∧ SqL K H a (ns.map V.int) ∧ ns.length ≤ 63 ∧
  ∀ H' tp cl ns', Same H H' → Tape H' tp cl ns' → Q (.ref tp) H'
def spText : Sp := fun vs H Q _ => ∃ (tp cl : Addr) (ns : List Int) (most : Int), vs = [.ref tp, .int most] ∧ Tape H tp cl ns ∧ 1 ≤ most ∧ most ≤ 1000 ∧
  ∀ H' z, KB tp H H' → Tape H' tp cl ns → Good (cp z) → Q (.str z) H'
def spWide : Sp := fun vs H Q _ => ∃ (tp cl : Addr) (ns : List Int), vs = [.ref tp] ∧ Tape H tp cl ns ∧
  ∀ H' z, KB tp H H' → Tape H' tp cl ns → Good (cp z) → Q (.str z) H'
theorem sum_ones (cs : List Nat) : ((cs.map fun c => (⟨#[c]⟩ : Str)).map (·.length)).sum = cs.length := by
  induction cs with
  | nil => rfl
  | cons c r ih =>
    rw [List.map_cons, List.map_cons, List.sum_cons, ih, List.length_cons]
    show 1 + r.length = r.length + 1
    omega
theorem sum_le {ws : List Str} {n : Nat} (h : ∀ w ∈ ws, w.length ≤ n) : (ws.map (·.length)).sum ≤ ws.length * n := by
  induction ws with
  | nil => exact Nat.zero_le _
  | cons w r ih =>
    have h1 := h w List.mem_cons_self
    have h2 := ih fun v hv => h v (List.mem_cons_of_mem _ hv)
    rw [List.map_cons, List.sum_cons, List.length_cons, Nat.succ_mul]
    omega
theorem flat_len (ws : List (List Nat)) : (flat ws).length = (ws.map (·.length)).sum + ws.length := by
  induction ws with
  | nil => rfl
  | cons w r ih =>
    rw [flat_cons, List.length_cons, List.length_append, ih, List.map_cons, List.sum_cons, List.length_cons]
    omega
/-- the word that signs make -/
theorem word_cp (cs : List Nat) : cp (Txt.join (Str.ofString "") (cs.map fun c => (⟨#[c]⟩ : Str))) = cs := by
  rw [TL.join_eq, join0_cp, signs_flat]
section
variable {P : Program} {w : World} {K : PySem.W.Frag} {mg : Str → Option Value} {base : Heap}
theorem ok_tape {f : Addr} {fd : FuncData} (F : Fun K "_law_tape" "_law_tape" s__law_tape f fd) (m_abs : mg "abs" = none) (m_int : mg "int" = none) :
    FnOk P w K mg base CX0 1 f fd ["_law_script"] (spTape K) := by
  refine F.ok sc__law_tape (fun vs H Q E h => ?_) (fun cdv A outer s H vs Q E hr h => ?_)
  · obtain ⟨a, ns, rfl, _⟩ := h
    rfl
  · obtain ⟨a, ns, rfl, hS, hlen, q⟩ := h
    refine ⟨_, (pss_cons (ps_setLc (i := 1) (own := [("_law_cell", 2)]) rfl sc__law_tape.nd rfl rfl (sw_true rfl rfl rfl (by decide +kernel)) (pi_list (pv 0)) (blkOk_by (N := N__law_tape) (sc := defScope s__law_tape) (by decide +kernel)) (fun _ _ _ _ _ => (pg_name (i := 2) sc__law_tape.nd rfl (Or.inl rfl))) (fun _ _ _ _ _ => pts_nil) (fun _ _ _ _ _ => (pe_op op_modN (pe_callB call_abs (by rfl) m_abs (by decide +kernel) (pa_cons (pe_callTy call_int1 (by rfl) m_int (by decide +kernel) (pa_cons (pv 2) pa_nil)) pa_nil)) (pe_op op_powB (pe_op op_pow (pe_int) (pe_int)) (pe_int)))))
    (pss_one (ps_ret (pe_lst (pa_cons (pv 1) (pa_cons (pe_int) (pa_cons (pe_int) (pa_cons (pe_int) (pa_cons (pe_int) pa_nil))))))))), ?_⟩
    refine ⟨_, rfl, a, rfl, ⟨_, hS⟩, fun D hD => ?_⟩
    refine lc_list (K := K) (a := a) (xs := ns.map V.int) (fun j H' => Same H H' ∧ ∃ ms : List Int, H' D = some (.lst (ms.map V.int)) ∧ ms.length = j ∧ ∀ n ∈ ms, 0 ≤ n) ⟨same_new hD, [], upd_same, rfl, fun _ h => nomatch h⟩ (fun j H' _ hq => hq.1.seq hS) ?_ ?_
    · rintro j y H' hy ⟨hs, ms, hd, hm, hn⟩
      obtain ⟨n, hn', rfl⟩ : ∃ n, ns[j]? = some n ∧ y = V.int n := by
        rw [List.getElem?_map] at hy
        cases qq : ns[j]? with
        | none => rw [qq] at hy; cases hy
        | some n => rw [qq] at hy; exact ⟨n, rfl, (Option.some.inj hy).symm⟩
      have hj : j < ns.length := (List.getElem?_eq_some_iff.mp hn').1
      refine ⟨rfl, _, rfl, .inl ⟨_, rfl, _, rfl, _, _, rfl, rfl, ⟨by decide, by decide, by decide⟩, _, _, rfl, rfl, ⟨by decide, by decide +kernel⟩, _, _, rfl, rfl, ?_, _, hd, ?_, same_over hs hD, ms ++ [(if n < 0 then -n else n).fmod ((10 ^ (60 : Int).toNat) ^ (20 : Int).toNat)], ?_, ?_, ?_⟩⟩
      · show ((10 ^ (60 : Int).toNat) ^ (20 : Int).toNat : Int) ≠ 0
        decide +kernel
      · rw [List.length_map]
        exact small_line (by omega)
      · rw [upd_same, List.map_append]
        rfl
      · rw [List.length_append, hm]
        rfl
      · intro m hm'
        rcases List.mem_append.mp hm' with h | h
        · exact hn m h
        · rw [List.mem_singleton.mp h]
          exact Int.fmod_nonneg_of_pos _ (by decide +kernel)
    · rintro H' ⟨hs, ms, hd, hm, hn⟩
      refine ⟨_, rfl, (by show 5 ≤ sizeLine; decide), fun p hp => ?_⟩
      have ne : D ≠ p := ne_of_none hd hp
      exact q _ p D ms (hs.trans (same_new hp)) ⟨⟨0, 0, 7, 0, upd_same, by decide, by decide, ⟨by decide, by decide⟩, by decide⟩, by rw [upd_ne ne]; exact hd, ne, hn⟩
theorem ok_text {f : Addr} {fd : FuncData} (F : Fun K "_law_text" "_law_text" s__law_text f fd) (m_range : mg "range" = none) (m_len : mg "len" = none)
    (c__law_pick : Cal P w K mg base 1 "_law_pick" spPick) (c__law_some : Cal P w K mg base 2 "_law_some" spSome) : FnOk P w K mg base CX0 3 f fd ["_law_tape_here", "_law_most"] spText := by
  refine F.ok sc__law_text (fun vs H Q E h => ?_) (fun cdv A outer s H vs Q E hr h => ?_)
  · obtain ⟨tp, cl, ns, most, rfl, _⟩ := h
    rfl
  · obtain ⟨tp, cl, ns, most, rfl, T, h1, h2, q⟩ := h
    refine ⟨_, (pss_cons (ps_set (i := 2) sc__law_text.nd rfl (Or.inr rfl) (pe_str))
    (pss_cons (ps_set (i := 3) sc__law_text.nd rfl (Or.inl rfl) (pe_lst pa_nil))
    (pss_cons (ps_for PassesOwn.never rfl (pi_range1 (by rfl) m_range (pa_cons (pe_c c__law_some hr (by decide) rfl (pa_cons (pv 0) (pa_cons (pe_int) (pa_cons (pv 1) pa_nil)))) pa_nil)) (pg_name (i := 4) sc__law_text.nd rfl (Or.inl rfl))
    (pss_one (ps_expr (pe_bm PySem.F.plainAttrs_list PySem.F.slot_list_append PySem.F.type_list_append mt_append (pv 3) (pa_cons (pe_join (pe_str) (pe_lc (own := [("_law_at", 5)]) rfl sc__law_text.nd (pi_range1 (by rfl) m_range (pa_cons (pe_c c__law_some hr (by decide) rfl (pa_cons (pv 0) (pa_cons (pe_int) (pa_cons (pe_int) pa_nil)))) pa_nil)) (blkOk_by (N := N__law_text) (sc := defScope s__law_text) (by decide +kernel)) (fun _ _ _ _ _ => (pg_name (i := 5) sc__law_text.nd rfl (Or.inl rfl))) (fun _ _ _ _ _ => pts_nil) (fun _ _ _ _ _ => (pe_ix ix_str (pv 2) (pe_c c__law_pick hr (by decide) rfl (pa_cons (pv 0) (pa_cons (pe_callB call_len_str (by rfl) m_len (by decide +kernel) (pa_cons (pv 2) pa_nil)) pa_nil))) (fun _ _ => rfl))))) pa_nil)))))
    (pss_one (ps_ret (pe_bm PySem.F.plainAttrs_str PySem.F.slot_str_strip PySem.F.type_str_strip mt_stripChars (pe_slice sl_str (pe_join (pe_str) (pv 3)) po_none (po_some (pe_int))) (pa_cons (pe_str) pa_nil))))))), ?_⟩
    refine ⟨Nat.zero_le _, fun wl hwl => ?_⟩
    have T0 : Tape (upd H wl (.lst [])) tp cl ns := T.new hwl
    obtain ⟨nt, nc⟩ := T.fresh hwl
    refine ⟨_, rfl, _, rfl, tp, cl, ns, 1, most, rfl, T0, h1, by omega, fun H1 d k1 T1 d0 d1 => ⟨d, rfl, by omega, by omega, ?_⟩⟩
    have hw1 : H1 wl = some (.lst []) := k1 wl _ nt.symm upd_same
    have k01 : KB tp H H1 := fun b o n e => k1 b o n (by rw [upd_ne (ne_of_none e hwl)]; exact e)
    refine for_it (walk_range (lo := 0) (n := d.toNat)) (fun i σ H' => ∃ k4, σ = [some (.ref tp), some (.int most), some (.str SG), some (.ref wl), k4, none] ∧ KB tp H H' ∧ Tape H' tp cl ns ∧
      ∃ ws : List Str, H' wl = some (.lst (ws.map V.str)) ∧ ws.length = i ∧ ∀ v ∈ ws, Wd (cp v) ∧ v.length ≤ 6) ⟨none, rfl, k01, T1, [], hw1, rfl, fun _ h => nomatch h⟩ (fun _ _ _ _ _ => trivial) ?_ ?_
    · rintro i x σ Ha Hb hi ⟨k4, rfl, ka, Ta, ws, hw, hwl', hwd⟩ ⟨rfl, rfl⟩
      refine ⟨_, rfl, .inl ⟨rfl, _, SqL.of hw⟩, ⟨_, rfl⟩, _, rfl, tp, cl, ns, 1, 6, rfl, Ta, by decide, by decide, fun Hc d2 kc Tc e0 e1 => ⟨d2, rfl, by omega, by omega, fun D hD => ?_⟩⟩
      have hwc : Hc wl = some (.lst (ws.map V.str)) := kc wl _ nt.symm hw
      have nD := Tc.fresh hD
      refine lc_range (lo := 0) (n := d2.toNat) (fun j H' => KB tp Hc H' ∧ Tape H' tp cl ns ∧ ∃ cs : List Nat, H' D = some (.lst ((cs.map fun c => (⟨#[c]⟩ : Str)).map V.str)) ∧ cs.length = j ∧ ∀ c ∈ cs, Sgn c)
        ⟨(KB.refl _ _).over hD, Tc.new hD, [], upd_same, rfl, fun _ h => nomatch h⟩ ?_ ?_
      · rintro j H' hj ⟨kj, Tj, cs, hd, hcl, hcs⟩
        refine ⟨rfl, _, rfl, _, rfl, _, rfl, SG, rfl, sg_line, tp, cl, ns, _, rfl, Tj, (by rw [sg_len]; decide), fun H3 d3 k3 T3 p0 p1 => ?_⟩
        obtain ⟨c, hc, hsg⟩ := sg_at p0 p1
        have hd3 : H3 D = some (.lst ((cs.map fun c => (⟨#[c]⟩ : Str)).map V.str)) := k3 D _ nD.1.symm hd
        refine ⟨SG, d3, c, rfl, rfl, sg_line, hc, _, hd3, ?_, (kj.trans k3).over hD, T3.other nD.1 nD.2, cs ++ [c], ?_, ?_, ?_⟩
        · rw [List.length_map, List.length_map]
          exact small_line (by omega)
        · rw [upd_same, List.map_append, List.map_append]
          rfl
        · rw [List.length_append, hcl]
          rfl
        · intro c' hc'
          rcases List.mem_append.mp hc' with h | h
          · exact hcs c' h
          · rw [List.mem_singleton.mp h]
            exact hsg
      · rintro H' ⟨kj, Tj, cs, hd, hcl, hcs⟩
        have hw' : H' wl = some (.lst (ws.map V.str)) := kj wl _ nt.symm hwc
        refine ⟨_, D, _, rfl, rfl, .inl (SqL.of hd), ?_, wl, _, _, rfl, rfl, hw', ?_, _, rfl, ?_, Tj.other nt nc, ws ++ [Txt.join (Str.ofString "") (cs.map fun c => (⟨#[c]⟩ : Str))], ?_, ?_, ?_⟩
        · rw [sum_ones, List.length_map]
          have : (Str.ofString "").length = 0 := by decide +kernel
          rw [this]
          omega
        · rw [List.length_map, hwl']
          exact small_line (by omega)
        · exact fun b o n e => by
            rw [upd_ne (ne_of_none e hwl)]
            exact kj b o n (kc b o n (ka b o n e))
        · rw [upd_same, List.map_append]
          rfl
        · rw [List.length_append, hwl']
          rfl
        · intro v hv
          rcases List.mem_append.mp hv with h | h
          · exact hwd v h
          · rw [List.mem_singleton.mp h, word_cp]
            refine ⟨⟨fun e => ?_, hcs⟩, ?_⟩
            · rw [e] at hcl
              have : d2.toNat = 0 := hcl.symm
              omega
            · rw [← cp_len, word_cp, hcl]
              omega
    · rintro σ H' ⟨k4, rfl, ka, Ta, ws, hw, hwl', hwd⟩
      have hn : ws.length ≤ 1000 := by omega
      have hsum : (ws.map (·.length)).sum ≤ 6000 := Nat.le_trans (sum_le (n := 6) fun v hv => (hwd v hv).2) (by omega)
      have hflat : (flat (ws.map cp)).length ≤ 7000 := by
        rw [flat_len]
        have e : (ws.map cp).map (·.length) = ws.map (·.length) := by
          rw [List.map_map]
          exact List.map_congr_left fun v _ => cp_len v
        rw [e, List.length_map]
        omega
      have hW : ∀ v ∈ ws.map cp, Wd v := fun v hv => by
        obtain ⟨u, hu, rfl⟩ := List.mem_map.mp hv
        exact (hwd u hu).1
      have hne : ws.map cp ≠ [] := fun e => by
        have := congrArg List.length e
        rw [List.length_map, hwl'] at this
        have : d.toNat = 0 := this
        omega
      have hj : cp (Txt.join (Str.ofString " ") ws) = (flat (ws.map cp)).drop 1 := by rw [TL.join_eq, join_cp]
      have hc : cp (cutS (Txt.join (Str.ofString " ") ws) none (some 60)) = ((flat (ws.map cp)).drop 1).take 60 := by rw [cut60 rfl, hj]
      refine ⟨⟨_, rfl⟩, _, rfl, _, wl, ws, rfl, rfl, .inl (SqL.of hw), ?_, _, rfl, _, rfl, ?_, rfl, _, _, rfl, rfl, ?_, q H' _ ka Ta (words_good hW hne hc)⟩
      · have : (Str.ofString " ").length = 1 := by decide +kernel
        rw [this]
        omega
      · rw [← cp_len, hj, List.length_drop]
        exact Nat.le_of_lt (small_line (by omega))
      · rw [← cp_len, hc, List.length_take]
        exact Nat.le_of_lt (small_line (by omega))
end
end Sea
namespace Sea
open PySem PySem.Spec PyProof.Rows L2
/-! the same thing; what the program tells -/
def SameV : Nat → Hp → V → V → Prop
  | 0, _, x, y => Plain y ∧ x = y
  | n + 1, H, x, y => (Plain y ∧ x = y) ∨ ∃ (a b : Addr) (xs ys : List V), x = .ref a ∧ y = .ref b ∧ H a = some (.tup xs) ∧ H b = some (.tup ys) ∧ xs.length = ys.length ∧ ys.length ≤ 1000 ∧
      ∀ (i : Nat) (u v : V), xs[i]? = some u → ys[i]? = some v → SameV n H u v
theorem SameV.keep : ∀ {n : Nat} {H H' : Hp} {x y : V}, SameV n H x y → Same H H' → SameV n H' x y
  | 0, _, _, _, _, h, _ => h
  | n + 1, _, _, _, _, h, s => by
    rcases h with h | ⟨a, b, xs, ys, h1, h2, h3, h4, h5, h6, h7⟩
    · exact .inl h
    · exact .inr ⟨a, b, xs, ys, h1, h2, s _ _ h3, s _ _ h4, h5, h6, fun i u v e1 e2 => (h7 i u v e1 e2).keep s⟩
def spSame (n : Nat) : Sp := fun vs H Q _ => ∃ x y, vs = [x, y] ∧ SameV n H x y ∧ ∀ H', Same H H' → Q (.bl true) H'
def spNever : Sp := fun _ _ _ _ => False
theorem trues (n : Nat) : ((List.replicate n (V.bl true)).all (· == V.bl true)) = true := by
  induction n with
  | zero => rfl
  | succ n ih => rw [List.replicate_succ, List.all_cons, ih]; rfl
section
variable {P : Program} {w : World} {K : PySem.W.Frag} {mg : Str → Option Value} {base : Heap}
theorem ok_same_at {f : Addr} {fd : FuncData} (F : Fun K "_law_same" "_law_same" s__law_same f fd) (m_isinstance : mg "isinstance" = none) (m_tuple : mg "tuple" = none) (m_bool : mg "bool" = none) (m_str : mg "str" = none) (m_int : mg "int" = none)
    (m_len : mg "len" = none) (m_all : mg "all" = none) (m_range : mg "range" = none) {k : Nat} {sp sp' : Sp} (c__law_same : Cal P w K mg base k "_law_same" sp)
    (hyp : ∀ vs H Q E, sp' vs H Q E → ∃ x y, vs = [x, y] ∧ (∀ H', Same H H' → Q (.bl true) H') ∧ ((Plain y ∧ x = y) ∨ ∃ (a b : Addr) (xs ys : List V), x = .ref a ∧ y = .ref b ∧ H a = some (.tup xs) ∧ H b = some (.tup ys) ∧ xs.length = ys.length ∧ ys.length ≤ 1000 ∧
      ∀ (i : Nat) (u v : V), xs[i]? = some u → ys[i]? = some v → ∀ H1 Q1 E1, Same H H1 → (∀ H', Same H1 H' → Q1 (.bl true) H') → sp [u, v] H1 Q1 E1)) :
    FnOk P w K mg base CX0 (k + 1) f fd ["_law_told", "_law_due_here"] sp' := by
  refine F.ok sc__law_same (fun vs H Q E h => ?_) (fun cdv A outer s H vs Q E hr h => ?_)
  · obtain ⟨x, y, rfl, _⟩ := hyp _ _ _ _ h
    rfl
  · obtain ⟨x, y, rfl, q, ways⟩ := hyp _ _ _ _ h
    refine ⟨_, (pss_cons (ps_if (pt_val (pe_callB call_isi (by rfl) m_isinstance (by decide +kernel) (pa_cons (pv 1) (pa_cons (pe_bltn (v := .ty "tuple") (by rfl) m_tuple (by decide +kernel) rfl) pa_nil))))
    (pss_cons (ps_if (PW.pt (pw_or (pt_not (pt_val (pe_callB call_isi (by rfl) m_isinstance (by decide +kernel) (pa_cons (pv 0) (pa_cons (pe_bltn (v := .ty "tuple") (by rfl) m_tuple (by decide +kernel) rfl) pa_nil))))) (pw_or1 (pt_cmpR op_ne (pe_callB call_len (by rfl) m_len (by decide +kernel) (pa_cons (pv 0) pa_nil)) (pe_callB call_len (by rfl) m_len (by decide +kernel) (pa_cons (pv 1) pa_nil)) (nomark _)))))
    (pss_one (ps_ret (pe_bl)))
    pss_nil)
    (pss_one (ps_ret (pe_callB (cr_all rfl) (by rfl) m_all (by decide +kernel) (pa_cons (pe_lc (own := [("_law_k", 2)]) rfl sc__law_same.nd (pi_range1 (by rfl) m_range (pa_cons (pe_callB call_len (by rfl) m_len (by decide +kernel) (pa_cons (pv 1) pa_nil)) pa_nil)) (blkOk_by (N := N__law_same) (sc := defScope s__law_same) (by decide +kernel)) (fun _ _ _ _ _ => (pg_name (i := 2) sc__law_same.nd rfl (Or.inl rfl))) (fun _ _ _ _ _ => pts_nil) (fun _ _ _ _ _ => (pe_c c__law_same hr (Nat.le_refl _) rfl (pa_cons (pe_ix (show IxR _ (rIxT K) from ix_tup) (pv 0) (pv 2) (fun _ _ => rfl)) (pa_cons (pe_ix (show IxR _ (rIxT K) from ix_tup) (pv 1) (pv 2) (fun _ _ => rfl)) pa_nil))))) pa_nil)))))
    pss_nil)
    (pss_cons (ps_if (pt_cmpR op_isN (pv 1) (pe_non) (nomark _))
    (pss_one (ps_ret (pe_cmpR op_isN (pv 0) (pe_non) (nomark _))))
    pss_nil)
    (pss_cons (ps_if (pt_val (pe_callB call_isi (by rfl) m_isinstance (by decide +kernel) (pa_cons (pv 1) (pa_cons (pe_bltn (v := .ty "bool") (by rfl) m_bool (by decide +kernel) rfl) pa_nil))))
    (pss_one (ps_ret (pe_and (pe_callB call_isi (by rfl) m_isinstance (by decide +kernel) (pa_cons (pv 0) (pa_cons (pe_bltn (v := .ty "bool") (by rfl) m_bool (by decide +kernel) rfl) pa_nil))) (pe_one (pe_cmpR op_eq (pv 0) (pv 1) (nomark _))))))
    pss_nil)
    (pss_cons (ps_if (pt_val (pe_callB call_isi (by rfl) m_isinstance (by decide +kernel) (pa_cons (pv 1) (pa_cons (pe_bltn (v := .ty "str") (by rfl) m_str (by decide +kernel) rfl) pa_nil))))
    (pss_one (ps_ret (pe_and (pe_callB call_isi (by rfl) m_isinstance (by decide +kernel) (pa_cons (pv 0) (pa_cons (pe_bltn (v := .ty "str") (by rfl) m_str (by decide +kernel) rfl) pa_nil))) (pe_one (pe_cmpR op_eq (pv 0) (pv 1) (nomark _))))))
    pss_nil)
    (pss_one (ps_ret (pe_and (pe_callB call_isi (by rfl) m_isinstance (by decide +kernel) (pa_cons (pv 0) (pa_cons (pe_bltn (v := .ty "int") (by rfl) m_int (by decide +kernel) rfl) pa_nil))) (pe_and (pe_not (pe_callB call_isi (by rfl) m_isinstance (by decide +kernel) (pa_cons (pv 0) (pa_cons (pe_bltn (v := .ty "bool") (by rfl) m_bool (by decide +kernel) rfl) pa_nil)))) (pe_one (pe_cmpR op_eq (pv 0) (pv 1) (nomark _))))))))))), ?_⟩
    rcases ways with ⟨hp, rfl⟩ | ⟨a, b, xs, ys, rfl, rfl, ha, hb, hl, hl2, hsub⟩
    · have q0 := q H (Same.refl H)
      cases x with
      | non =>
        exact ⟨_, rfl, _, _, _, _, false, rfl, .ty _, .base .non, kit_ty (by decide +kernel), false, rfl, _, rfl, rfl, _, rfl, _, rfl, rfl, q0⟩
      | bl c =>
        refine ⟨_, rfl, _, _, _, _, false, rfl, .ty _, .base (.bl c), kit_ty (by decide +kernel), false, rfl, _, rfl, rfl, _, rfl, _, rfl, _, _, _, _, true, rfl, .ty _, .base (.bl c), kit_ty (by decide +kernel), true, rfl, _, rfl, _, _, _, _, true, rfl, .ty _, .base (.bl c), kit_ty (by decide +kernel), true, rfl, iteT ⟨_, rfl, _, rfl, rfl, ?_⟩⟩
        rw [decide_eq_true rfl]
        exact q0
      | int i =>
        refine ⟨_, rfl, _, _, _, _, false, rfl, .ty _, .base (.int i), kit_ty (by decide +kernel), false, rfl, _, rfl, rfl, _, rfl, _, rfl, _, _, _, _, false, rfl, .ty _, .base (.int i), kit_ty (by decide +kernel), false, rfl, _, rfl, _, _, _, _, false, rfl, .ty _, .base (.int i), kit_ty (by decide +kernel), false, rfl, _, rfl, _, _, _, _, true, rfl, .ty _, .base (.int i), kit_ty (by decide +kernel), true, rfl, iteT ⟨_, rfl, _, _, _, _, false, rfl, .ty _, .base (.int i), kit_ty (by decide +kernel), ?_⟩⟩
        refine ⟨false, rfl, _, rfl, iteT ⟨_, rfl, _, rfl, rfl, ?_⟩⟩
        rw [decide_eq_true rfl]
        exact q0
      | str z =>
        refine ⟨_, rfl, _, _, _, _, false, rfl, .ty _, .base (.str z), kit_ty (by decide +kernel), false, rfl, _, rfl, rfl, _, rfl, _, rfl, _, _, _, _, false, rfl, .ty _, .base (.str z), kit_ty (by decide +kernel), false, rfl, _, rfl, _, _, _, _, true, rfl, .ty _, .base (.str z), kit_ty (by decide +kernel), true, rfl, _, rfl, _, _, _, _, true, rfl, .ty _, .base (.str z), kit_ty (by decide +kernel), true, rfl, iteT ⟨_, rfl, _, rfl, rfl, ?_⟩⟩
        rw [decide_eq_true rfl]
        exact q0
      | ref a => exact hp.elim
      | byt z => exact hp.elim
      | flt z => exact hp.elim
      | ty z => exact hp.elim
    · have hl3 : ys.length ≤ sizeLine := Nat.le_of_lt (small1000 hl2)
      have hl4 : xs.length ≤ sizeLine := hl ▸ hl3
      refine ⟨_, rfl, _, _, _, _, true, rfl, .ty _, .base (.tup hb), kit_ty (by decide +kernel), true, rfl, _, rfl, _, _, _, _, true, rfl, .ty _, .base (.tup ha), kit_ty (by decide +kernel), true, rfl, ?_⟩
      refine ⟨_, rfl, _, xs.length, rfl, .inr ⟨_, SqT.of ha, rfl⟩, _, rfl, _, ys.length, rfl, .inr ⟨_, SqT.of hb, rfl⟩, rfl, _, rfl, ?_⟩
      rw [hl]
      refine ite2 (fun e => absurd e (by simp)) (fun _ => ?_)
      refine ⟨_, rfl, _, ys.length, rfl, .inr ⟨_, SqT.of hb, rfl⟩, _, rfl, by omega, by omega, fun D hD => ?_⟩
      refine lc_it (walk_range (lo := 0) (n := ((ys.length : Nat) : Int).toNat)) (fun i H' => Same H H' ∧ H' D = some (.lst (List.replicate i (V.bl true)))) ⟨same_new hD, upd_same⟩ (fun _ _ _ _ => trivial) ?_ ?_
      · rintro i x Ha Hb hi ⟨hs, hd⟩ ⟨rfl, rfl⟩
        have hi' : i < ys.length := by rw [Int.toNat_natCast] at hi; exact hi
        have ex : xs[i]? = some (xs[i]'(hl ▸ hi')) := List.getElem?_eq_getElem (hl ▸ hi')
        have ey : ys[i]? = some (ys[i]'hi') := List.getElem?_eq_getElem hi'
        have at1 : atI xs (0 + (i : Nat)) = some (xs[i]'(hl ▸ hi')) := by rw [Int.zero_add]; exact atI_nat ex
        have at2 : atI ys (0 + (i : Nat)) = some (ys[i]'hi') := by rw [Int.zero_add]; exact atI_nat ey
        refine ⟨rfl, _, rfl, _, rfl, a, xs, _, _, rfl, rfl, SqT.of (hs _ _ ha), at1, _, rfl, _, rfl, b, ys, _, _, rfl, rfl, SqT.of (hs _ _ hb), at2, ?_⟩
        refine hsub i _ _ ex ey _ _ _ hs fun H2 s2 => ⟨_, s2 _ _ hd, ?_, same_over (hs.trans s2) hD, ?_⟩
        · rw [List.length_replicate]
          exact small_line (by omega)
        · rw [upd_same, List.replicate_succ']
      · rintro H' ⟨hs, hd⟩
        have hd2 : H' D = some (.lst ((List.replicate ys.length true).map V.bl)) := by rw [hd, Int.toNat_natCast, List.map_replicate]
        have q' := q H' hs
        have e : (List.replicate ys.length true).all id = true := List.all_eq_true.mpr fun b hb => by rw [List.eq_of_mem_replicate hb]; rfl
        refine ⟨D, _, rfl, SqL.of hd2, ?_⟩
        rw [e]
        exact q'
end
end Sea
/-! a text repeated -/
namespace Sea
open PySem PySem.Spec PyProof.Rows L2
def repS (z : Str) (k : Nat) : Str := ⟨(List.replicate k z.cps).foldl (· ++ ·) #[]⟩
theorem repS_fold (a : Array Nat) : ∀ (k : Nat) (acc : Array Nat), ((List.replicate k a).foldl (· ++ ·) acc).size = acc.size + k * a.size
  | 0, acc => by simp
  | k + 1, acc => by
    rw [List.replicate_succ, List.foldl_cons, repS_fold a k, Array.size_append, Nat.succ_mul]
    omega
theorem repS_len (z : Str) (k : Nat) : (repS z k).length = k * z.length := by
  show ((List.replicate k z.cps).foldl (· ++ ·) #[]).size = k * z.cps.size
  rw [repS_fold]
  simp
def rMulS : R2 := fun x y H Q => ∃ (z : Str) (n : Int), x = .str z ∧ y = .int n ∧ (2 ≤ n ∧ n ≤ 5000) ∧ (1 ≤ z.length ∧ z.length ≤ 1000) ∧ Q (.str (repS z n.toNat)) H
theorem op_mulS {X : Cx} : OpR X (binaryOp .Mult) rMulS := by
  intro pins s σ H x y v u Q I rx ry h
  obtain ⟨z, n, rfl, rfl, ⟨n1, n2⟩, ⟨z1, z2⟩, q⟩ := h
  obtain ⟨t, rfl⟩ := rx
  obtain ⟨t', rfl⟩ := ry
  have hlen : z.length * n.toNat ≤ 5000000 := by
    have h1 : n.toNat ≤ 5000 := by omega
    have := Nat.mul_le_mul z2 h1
    omega
  have hl : sizeLine = 16777216 := sizeLine_eq
  refine PySem.P.mul_str ?_ (fun _ _ => ?_) (fun _ _ => ?_) ?_
  · rw [decide_eq_false (show ¬ n < -(2 ^ 63 : Int) by omega), decide_eq_false (show ¬ n ≥ 2 ^ 63 by omega)]
    rfl
  · have : (1000 : Int) ≤ (2 ^ 63 - 1) / n := (Int.le_ediv_iff_mul_le (by omega)).mpr (by omega)
    omega
  · unfold Builtin.Str.tooLong
    exact decide_eq_false (by omega)
  · rw [if_neg (show ¬ n < 1 by omega)]
    have e : (n == 1 || z.length == 0) = false := by
      have e1 : (n == 1) = false := beq_eq_false_iff_ne.mpr (by omega)
      have e2 : (z.length == 0) = false := beq_eq_false_iff_ne.mpr (by omega)
      rw [e1, e2]
      rfl
    rw [if_neg (by rw [e]; exact Bool.false_ne_true)]
    refine ⟨?_, .str (repS z n.toNat), H, I.tok _, ⟨_, rfl⟩, q⟩
    show (repS z n.toNat).length ≤ sizeLine
    rw [repS_len, Nat.mul_comm]
    omega
end Sea
/-! a set made of a list of texts, and its members in order -/
namespace Sea
open PySem PySem.Spec PyProof.Rows L2
/-- the text that an entry holds -/
def keyT (e : Int × Value) : Str := strOf e.2
def TxtE (P : Program) (w : World) (e : Int × Value) : Prop := ∃ (k : Str) (tk : Tok), e.2 = Value.str k tk ∧ e.1 = (PySem.strKind P w).hash k
/-- the set at a holds the texts xs, each once -/
structure SetT (P : Program) (w : World) (h : Heap) (a : Addr) (xs : List Str) : Prop where
  ex : ∃ (o : Obj) (es : Array (Int × Value)) (ep : Nat) (t : SetTable), h.get? a = some o ∧ o.ExactSet ∧ o.data = .set es ep t ∧ (∀ e ∈ es.toList, TxtE P w e) ∧ (es.toList.map keyT).Nodup ∧
    (∀ k, k ∈ es.toList.map keyT ↔ k ∈ xs) ∧ es.size ≤ xs.length ∧ t.fits es.size = true ∧ Ris t.place.toList ∧ (w.params.followText "set-order" = true ∨ t.led = true)
section
variable {P : Program} {w : World}
theorem txt_elems {l : List (Int × Value)} (g : ∀ e ∈ l, TxtE P w e) : ElemsOf (PySem.strKind P w) l := fun e he => by
  obtain ⟨k, tk, h1, h2⟩ := g e he
  exact ⟨⟨k, by rw [h1]; exact strKind_is _ _ _ _, h2⟩, by rw [h1] <;> rfl⟩
theorem txt_is {e : Int × Value} (g : TxtE P w e) (k : Str) : (PySem.strKind P w).is k e.2 = true ↔ keyT e = k := by
  obtain ⟨k0, tk, h1, _⟩ := g
  unfold keyT
  rw [h1]
  constructor
  · exact fun q => (PySem.strKind P w).inj _ _ _ (strKind_is P w k0 tk) q
  · rintro rfl
    exact strKind_is _ _ _ _
theorem txt_mem {l : List (Int × Value)} (g : ∀ e ∈ l, TxtE P w e) (k : Str) : k ∈ l.map keyT ↔ ∃ e ∈ l, (PySem.strKind P w).is k e.2 = true := by
  rw [List.mem_map]
  exact ⟨fun ⟨e, he, q⟩ => ⟨e, he, (txt_is (g e he) k).2 q⟩, fun ⟨e, he, q⟩ => ⟨e, he, (txt_is (g e he) k).1 q⟩⟩
theorem SetT.keep {h h' : Heap} {a : Addr} {xs : List Str} (R : SetT P w h a xs) (k : ∀ o, h.get? a = some o → h'.get? a = some o) : SetT P w h' a xs := by
  obtain ⟨o, es, ep, t, ho, r⟩ := R.ex
  exact ⟨o, es, ep, t, k o ho, r⟩
variable {A : Around} {E : Value → Shared → Prop} {s : Shared} {a : Addr} {xs : List Str}
/-- the entry laid, and the table made anew where it is too full -/
theorem lay_tail {g : Bool → Sem Unit} (hg : ∀ (b : Bool) (s1 : Shared) (Q' : Unit → Shared → Prop), Q' () s1 → wpAny (model P w) A (g b) Q' E s1)
    {o : Obj} {es es1 : Array (Int × Value)} {ep : Nat} {t t2 : SetTable} {ys : List Str} (ho : s.heap.get? a = some o) (hex : o.ExactSet) (hd : o.data = .set es ep t)
    (g1 : ∀ e ∈ es1.toList, TxtE P w e) (nd : (es1.toList.map keyT).Nodup) (m1 : ∀ k, k ∈ es1.toList.map keyT ↔ k ∈ ys) (hz : es1.size ≤ ys.length) (hb : ys.length < scanBound)
    (hf : t2.fits es1.size = true) (hr : Ris t2.place.toList) (hl : w.params.followText "set-order" = true ∨ t2.led = true) {dummy : Bool} {R : Option Bool → Shared → Prop}
    (hR : ∀ h', Heap.SameBut a s.heap h' → SetT P w h' a ys → R (some true) { s with heap := h' }) :
    wpAny (model P w) A (do
        storeSet a es1 t2
        if (!dummy && t2.tooFull) = true then do
            g (relayAll t2 es1 (SetTable.grown es1.size)).2.2
            storeSet a (relayAll t2 es1 (SetTable.grown es1.size)).1 (relayAll t2 es1 (SetTable.grown es1.size)).2.1
            pure (some true)
          else pure (some true)) R E s := by
  have hb1 : es1.size < scanBound := Nat.lt_of_le_of_lt hz hb
  refine wpAny_bind (wpAny_storeSet_of ho hd ?_ (fits_of_scanBound hb1))
  have o1 := store_at (es' := es1) (t' := t2) ho hd
  have sb := Heap.SameBut.update s.heap a (Obj.putSet es1 t2)
  by_cases full : (!dummy && t2.tooFull) = true
  · rw [if_pos full]
    have pm := relayAll_perm t2 es1 (SetTable.grown es1.size)
    have f3 := relayAll_fits t2 es1 (SetTable.grown es1.size)
    have r3 := relayAll_ris t2 es1 (SetTable.grown es1.size)
    have l3 := relayAll_led t2 es1 (SetTable.grown es1.size)
    generalize relayAll t2 es1 (SetTable.grown es1.size) = Z at pm f3 r3 l3 ⊢
    obtain ⟨es2, t3, gave⟩ := Z
    dsimp only at pm f3 r3 l3 ⊢
    have same : es2.size = es1.size := by rw [← Array.length_toList, pm.length_eq, Array.length_toList]
    refine wpAny_bind (hg _ _ _ (wpAny_bind (wpAny_storeSet_of o1 rfl ?_ (fits_of_scanBound (by rw [same]; exact hb1)))))
    refine wpAny_pure (hR _ (sb.trans (Heap.SameBut.update _ a _)) ⟨_, es2, _, t3, store_at (es' := es2) (t' := t3) o1 rfl, hex, rfl, fun e he => g1 e (pm.mem_iff.mp he),
      (pm.map keyT).nodup_iff.mpr nd, fun k => (pm.map keyT).mem_iff.trans (m1 k), by rw [same]; exact hz, f3, r3, hl.imp id fun q => by rw [l3]; exact q⟩)
  · rw [if_neg full]
    exact wpAny_pure (hR _ sb ⟨_, es1, _, t2, o1, hex, rfl, g1, nd, m1, hz, hf, hr, hl⟩)
theorem add_text {k : Str} {tk : Tok} {Q : Bool → Shared → Prop} (R : SetT P w s.heap a xs) (room : xs.length + 1 < scanBound)
    (hQ : ∀ h' b, Heap.SameBut a s.heap h' → SetT P w h' a (xs ++ [k]) → Q b { s with heap := h' }) :
    wpAny (model P w) A (setAddHashed a (.str k tk) ((PySem.strKind P w).hash k)) Q E s := by
  obtain ⟨o, es, ep, t, ho, hex, hd, g, nd, hm, hz, hf, hr, hl⟩ := R.ex
  have hb : es.size < scanBound := by omega
  have hkey : (PySem.strKind P w).is k (.str k tk) = true := strKind_is _ _ _ _
  have hsc : (Value.str k tk).scannable = true := rfl
  have hel : ElemsOf (PySem.strKind P w) es.toList := txt_elems g
  unfold setAddHashed setAddHashedIn
  refine wpAny_holding (wpAny_bind (wpAny_setState_of ho hd hf ?_))
  dsimp only
  rw [byScan_of hsc hb hel]
  simp only [↓reduceIte]
  unfold setAddByScan
  refine wpAny_bind (wpAny_bind (wpAny_rule (wpAny_bind (wpAny_setScan_of hkey ho hd hf hel ?_))))
  cases hfi : List.findIdx? (fun e => (PySem.strKind P w).is k e.2) es.toList with
  | some j =>
    dsimp only
    obtain ⟨hj, pj, _⟩ := List.findIdx?_eq_some_iff_getElem.mp hfi
    have kin : k ∈ xs := (hm k).1 ((txt_mem g k).2 ⟨es.toList[j], List.getElem_mem hj, pj⟩)
    refine wpAny_pure (wpAny_pure (hQ s.heap _ (Heap.SameBut.refl a s.heap) ⟨o, es, ep, t, ho, hex, hd, g, nd, fun i => (hm i).trans ?_, by rw [List.length_append]; omega, hf, hr, hl⟩))
    rw [List.mem_append, List.mem_singleton]
    exact ⟨.inl, fun q => q.elim id fun e => e ▸ kin⟩
  | none =>
    dsimp only
    have kout : k ∉ es.toList.map keyT := fun q => by
      obtain ⟨e, he, q⟩ := (txt_mem g k).1 q
      have c := List.findIdx?_eq_none_iff.mp hfi e he
      rw [q] at c
      cases c
    have gw : ∀ (b : Bool) {s1 : Shared} {Q' : Unit → Shared → Prop}, Q' () s1 → wpAny (model P w) A (match b with | true => rule "set.scan.the-table-gave-way" | false => pure ()) Q' E s1 :=
      fun b s1 Q' q => by cases b <;> first | exact wpAny_pure q | exact wpAny_rule q
    have pm := layNew_perm t es ((PySem.strKind P w).hash k) (.str k tk)
    have f1 := layNew_fits t es ((PySem.strKind P w).hash k) (.str k tk)
    have r1 := layNew_ris t es ((PySem.strKind P w).hash k) (.str k tk) hr
    have l1 := layNew_led t es ((PySem.strKind P w).hash k) (.str k tk)
    generalize layNew t es ((PySem.strKind P w).hash k) (.str k tk) = Z at pm f1 r1 l1 ⊢
    obtain ⟨es1, t1, dummy, gave⟩ := Z
    dsimp only at pm f1 r1 l1 ⊢
    rw [Array.toList_push] at pm
    have pc : es1.toList.Perm (((PySem.strKind P w).hash k, Value.str k tk) :: es.toList) := pm.trans (List.perm_append_singleton _ _)
    have pk : (es1.toList.map keyT).Perm (k :: es.toList.map keyT) := pc.map keyT
    have g1 : ∀ e ∈ es1.toList, TxtE P w e := fun e he => by
      rcases List.mem_cons.mp (pc.mem_iff.mp he) with q | q
      · rw [q]; exact ⟨k, tk, rfl, rfl⟩
      · exact g e q
    have nd1 : (es1.toList.map keyT).Nodup := pk.nodup_iff.mpr (List.nodup_cons.mpr ⟨kout, nd⟩)
    have m1 : ∀ i, i ∈ es1.toList.map keyT ↔ i ∈ xs ++ [k] := fun i => by
      rw [pk.mem_iff, List.mem_cons, hm i, List.mem_append, List.mem_singleton]
      exact Or.comm
    have z1 : es1.size ≤ (xs ++ [k]).length := by
      rw [← Array.length_toList, pc.length_eq, List.length_cons, Array.length_toList, List.length_append]
      exact Nat.succ_le_succ hz
    have b1 : (xs ++ [k]).length < scanBound := by rw [List.length_append]; exact room
    have led1 : w.params.followText "set-order" = true ∨ t1.led = true := hl.imp id fun q => by rw [l1]; exact q
    refine wpAny_bind (gw _ ?_)
    split
    · refine wpAny_bind ?_
      rw [hashByValue_scannable 8 hsc]
      refine wpAny_pure (lay_tail ?_ ho hex hd g1 nd1 m1 z1 b1 ?_ ?_ ?_ ?_)
      · intro b s1 Q' q; cases b <;> first | exact wpAny_pure q | exact wpAny_rule q
      · first | (split <;> first | exact f1 | exact SetTable.fits_plain_off f1) | exact f1
      · first | (split <;> exact r1) | exact r1
      · first | (split <;> exact led1) | exact led1
      · intro h' sb r; dsimp only; exact wpAny_pure (hQ h' _ sb r)
    · refine wpAny_bind (wpAny_pure ?_)
      simp only [↓reduceIte]
      refine lay_tail ?_ ho hex hd g1 nd1 m1 z1 b1 f1 r1 led1 ?_
      · intro b s1 Q' q; cases b <;> first | exact wpAny_pure q | exact wpAny_rule q
      · intro h' sb r; dsimp only; exact wpAny_pure (hQ h' _ sb r)
end
end Sea
/-! set(xs), xs a list of texts; sorted of it -/
namespace Sea
open PySem PySem.Spec PyProof.Rows L2
section
variable {P : Program} {w : World} {A : Around} {R : Result → Shared → Prop} {I : Addr} {fp wr : List Addr} {G : Array GenState → Array GenState → Prop} {n : Nat} {Pv : Nat → Value → Prop} {St : Nat → Shared → Prop}
theorem fill_texts (W : WalksS P w A.in1 I fp wr G n Pv St) (S : Addr) (hS : S ∉ fp) (xs : List Str) (hn : xs.length = n) (hfew : n < 4000)
    (hval : ∀ i v, Pv i v → ∃ t, v = .str (xs.getD i Str.empty) t) :
    ∀ (k i : Nat) (s : Shared), n - i = k → i ≤ n → St i s → SetT P w s.heap S (xs.take i) →
      (∀ s', Moved (S :: wr) G s s' → SetT P w s'.heap S xs → R (.ok (.ret .none)) s') →
      codeAny (model P w) A (.builtin "set.update.loop" ⟨[.ref S, .ref I], []⟩) R s := by
  have out : S ∉ wr := fun h => hS (W.sub _ h)
  have more : ∀ b ∈ wr, b ∈ S :: wr := fun b hb => List.mem_cons_of_mem _ hb
  intro k
  induction k with
  | zero =>
    intro i s hk hi hst hT hR
    have e : i = n := by omega
    subst e
    rw [← hn, List.take_length] at hT
    refine codeAny_builtin PyProof.Rows.F.entry_set_update_loop ?_
    rw [Around.under_plainId PyProof.Rows.F.plain_set_update_loop _]
    exact wpAny_bind (W.done s _ _ hst fun s' hm => wpAny_pure (hR s' (hm.mono more) (hT.keep fun o => hm.heap S o out)))
  | succ k ih =>
    intro i s hk hi hst hT hR
    have lt : i < n := by omega
    refine codeAny_builtin PyProof.Rows.F.entry_set_update_loop ?_
    rw [Around.under_plainId PyProof.Rows.F.plain_set_update_loop _]
    refine wpAny_bind (W.item i s _ _ lt hst fun v s' hP hst' hm => ?_)
    obtain ⟨t, rfl⟩ := hval i v hP
    have hT' : SetT P w s'.heap S (xs.take i) := hT.keep fun o => hm.heap S o out
    show wpAny _ A.in1 (holding [Value.str (xs.getD i Str.empty) t] (setAdd S (.str (xs.getD i Str.empty) t)) >>= _) _ _ s'
    refine wpAny_bind (wpAny_holding ?_)
    unfold setAdd
    refine wpAny_holding (wpAny_bind ((PySem.strKind P w).pyHash (k := xs.getD i Str.empty) (strKind_is _ _ _ _) ?_))
    refine add_text (s := { s' with toks := s'.toks + 1 }) hT' (by
      have := List.length_take_le' i xs
      unfold scanBound
      omega) fun h' b sb hT2 => ?_
    have step : xs.take i ++ [xs.getD i Str.empty] = xs.take (i + 1) := by
      have hl : i < xs.length := by omega
      rw [List.take_add_one, List.getD_eq_getElem?_getD, List.getElem?_eq_getElem hl]
      rfl
    rw [step] at hT2
    refine wpAny_pure ⟨plainId_quiet PyProof.Rows.F.plain_set_update_loop _, ih (i + 1) _ (by omega) lt (W.frame _ s' _ _ hst' (Nat.le_succ _) fun b hb o e => ?_) hT2 fun s2 hm2 hT3 => ?_⟩
    · rw [sb.2 b (fun q : b = S => hS (q ▸ hb))]
      exact e
    · refine hR s2 (Moved.trans W.gtrans ((hm.mono more).then_heap (Nat.le_succ _) fun b o hb e => ?_) hm2) hT3
      rw [sb.2 b (fun q : b = S => hb (q ▸ List.mem_cons_self))]
      exact e
end
section
variable {P : Program} {w : World} {A : Around} {E : Value → Shared → Prop} {s : Shared}
theorem setT_fresh {h : Heap} {a : Addr} (ho : h.get? a = some { cls := .type "set", dict := none, data := .set #[] 0 (.fresh 0 0 (!w.params.followText "set-order")) }) : SetT P w h a [] :=
  ⟨_, #[], 0, _, ho, ⟨rfl, rfl, rfl⟩, rfl, (fun e he => by simp at he), (by simp), (fun k => by simp), (Nat.le_refl _), (by rfl), List.Pairwise.nil, by
    show _ ∨ (!w.params.followText "set-order") = true
    cases w.params.followText "set-order"
    · exact .inr rfl
    · exact .inl rfl⟩
/-- a fresh set -/
abbrev SET0 (w : World) : Obj := { cls := .type "set", dict := none, data := .set #[] 0 (.fresh 0 0 (!w.params.followText "set-order")) }
theorem set_of_texts {l : Addr} {items : Array Value} {xs : List Str} {Q : Value → Shared → Prop} (hh : A.handled = none) (hl : s.heap.IsList l items) (hi : PyProof.Rows.StrsAre items.toList xs) (hfew : xs.length < 4000)
    (h : ∀ (h' : Heap) (tk : Nat), SetT P w h' s.heap.objs.size xs → (∀ b o, b < s.heap.objs.size → s.heap.get? b = some o → h'.get? b = some o) → Q (.ref s.heap.objs.size) { s with heap := h', toks := tk }) :
    wpAny (model P w) A (call (.type "set") [.ref l]) Q E s := by
  obtain ⟨c, tl, hmro⟩ := PySem.F.called_set.mro
  have hmade := PySem.F.called_set.made
  have hsub := PySem.F.called_set.sub
  refine wpAny_call (codeAny_of_tree ?_)
  show wpAny _ _ (callAny (.type "set") _) _ _ _
  refine wpAny_pure ⟨Code.quiet_builtin _ (by decide +kernel), codeAny_builtin PySem.F.entry_type_call ?_⟩
  rw [Around.under_plain (weight_type_call_type "set" [.ref l] []) rfl]
  have h1 := PySem.F.called_set.notType
  have h2 := PySem.F.called_set.canCreate
  have hct := PySem.F.typeCall_set_1 (.ref l)
  repeat (any_goals (first | assumption | wp_step))
  refine codeAny_mono (code_set_led1 (.ref l) (E := E) (Q₁ := fun obj s1 => obj = .ref s.heap.objs.size ∧ s1 = { s with heap := s.heap.push (SET0 w) }) ⟨rfl, rfl⟩) fun r s1 hr => ?_
  cases r with
  | error e => exact hr
  | ok fl =>
    cases fl with
    | next => exact hr.elim
    | brk => exact hr.elim
    | cont => exact hr.elim
    | ret obj =>
      obtain ⟨rfl, rfl⟩ := hr
      have hS : (s.heap.push (SET0 w)).get? s.heap.objs.size = some (SET0 w) := Heap.get?_push_size _ rfl
      have hT : Shared.TypeIs { s with heap := s.heap.push (SET0 w) } (.ref s.heap.objs.size) "set" := ⟨_, hS, rfl⟩
      have hli := PySem.F.called_set.init.lookup
      have hbi := PySem.F.called_set.init.bind (.ref s.heap.objs.size)
      repeat (any_goals (first | assumption | wp_step))
      refine codeAny_mono (codeAny_call_builtin (R := wants (fun r s2 => r = .none ∧ ∃ h' tk, s2 = { s with heap := h', toks := tk } ∧ SetT P w h' s.heap.objs.size xs ∧
          (∀ b o, b < s.heap.objs.size → s.heap.get? b = some o → h'.get? b = some o)) E) PySem.F.called_set.init.plain PySem.F.entry_set_init (check_set_init_1 hT ?_)) fun r2 s2 hr2 => ?_
      · obtain ⟨ol, hol, hcl, nl, hdl⟩ := hl
        obtain ⟨ocls, odict, odata, oslots⟩ := ol
        simp only at hcl hdl
        subst hcl
        subst hdl
        have hol' : (s.heap.push (SET0 w)).get? l = some { cls := .type "list", dict := odict, data := .seq items nl, slots := oslots } := Heap.get?_push_of_some _ hol
        have hsls := PySem.F.sub_list_set
        have hslf := PySem.F.sub_list_frozenset
        have hne : (Value.type "list" == Value.type "dict") = false := by decide
        have hl1 : (s.heap.push (SET0 w)).IsList l items := ⟨_, hol', rfl, nl, rfl⟩
        unfold Builtin.«set.__init__» noKeywords Builtin.Frozenset.updateFrom
        generalize hPI : pyIter = PI
        wp_walk
        subst hPI
        refine wpAny_pyIter_list hl1 (wpAny_bind (wpAny_runValue ?_))
        have lS : l < s.heap.objs.size := Heap.lt_size hol
        have hh3 : A.in1.in1.in1.handled = none := by simp [hh]
        have nI : l ≠ (s.heap.push (SET0 w)).objs.size := by
          rw [Heap.size_push]
          exact Nat.ne_of_lt (Nat.lt_succ_of_lt lS)
        have nS : s.heap.objs.size ∉ [(s.heap.push (SET0 w)).objs.size, l] := by
          rw [Heap.size_push]
          simp only [List.mem_cons, List.not_mem_nil, or_false, not_or]
          exact ⟨Nat.ne_of_lt (Nat.lt_succ_self _), Nat.ne_of_gt lS⟩
        have hsz : xs.length = items.size := by rw [← StrsAre.len_eq hi, Array.length_toList]
        refine fill_texts ((Walks.list hh3 _ l nI items).toS) s.heap.objs.size nS xs hsz (by rw [← hsz]; exact hfew) (fun i v hv => SS.strs_at hi i v (by rw [Array.getElem?_toList]; exact hv))
          (items.size - 0) 0 _ (by omega) (Nat.zero_le _) ⟨⟨_, Heap.get?_push_size _ rfl, rfl, rfl⟩, (hl1.push _)⟩ (setT_fresh (Heap.get?_push_of_some _ hS)) ?_
        intro s' hm hT'
        obtain ⟨h', g', d', tk', os'⟩ := s'
        have eg : g' = s.gens := hm.gens
        have ed : d' = s.drawn := hm.drawn
        have eo : os' = s.os := hm.os
        subst eg
        subst ed
        subst eo
        show wpAny _ _ _ _ _ _
        refine wpAny_pure ?_
        show wpAny _ _ (ret Value.none) _ _ _
        refine wpAny_pure ⟨rfl, h', tk', rfl, hT', fun b o hb e => ?_⟩
        refine hm.heap b o ?_ (Heap.get?_push_of_some _ (Heap.get?_push_of_some _ e))
        simp only [List.mem_cons, List.not_mem_nil, or_false, not_or]
        exact ⟨Nat.ne_of_lt hb, by rw [Heap.size_push]; exact Nat.ne_of_lt (Nat.lt_succ_of_lt hb)⟩
      · cases r2 with
        | error e => exact hr2
        | ok fl2 =>
          cases fl2 with
          | ret r =>
            obtain ⟨rfl, h', tk, rfl, hT', hk'⟩ := hr2
            repeat (any_goals (first | assumption | wp_step))
            exact h _ _ hT' hk'
          | _ => exact hr2.elim
end
end Sea
/-! the rules: set(xs), sorted(set of texts) -/
namespace Sea
open PySem PySem.Spec PyProof.Rows L2
section
variable {P : Program} {w : World} {A : Around} {E : Value → Shared → Prop} {s : Shared}
theorem sorted_setT {a : Addr} {xs : List Str} {Q : Value → Shared → Prop} (R : SetT P w s.heap a xs) (hh : A.handled = none) (h64 : xs.length < 64)
    (hQ : ∀ s' p (out : Array Value) (c : Nat) (zs : List Str), (∀ b o, s.heap.get? b = some o → s'.heap.get? b = some o) → s'.gens = s.gens → s'.os = s.os → s.heap.objs.size ≤ p →
      s'.heap.get? p = some (seqObj "list" out c) → StrsAre out.toList zs → zs.Nodup → sortedS zs = true → (∀ k, k ∈ zs ↔ k ∈ xs) → zs.length ≤ xs.length → Q (.ref p) s') :
    wpAny (model P w) A (call (.builtin "sorted") [.ref a]) Q E s := by
  obtain ⟨o, es, ep, t, ho, hex, hd, g, nd, hm, hz, hf, hr, hl⟩ := R.ex
  refine Calls.call_function_entry kind_sorted plain_sorted entry_sorted (args_sorted1 _) ?_
  unfold Builtin.«sorted»
  refine wpAny_bind (m := checkCount "sorted" 1 1 _) (wpAny_pure ?_)
  refine wpAny_bind (collect_set (A := A.in1) hh ⟨o, ho, hex.1, hd⟩ hf (by unfold scanBound; omega) hr hl fun s1 vs k1 hz1 g1 o1 pm => ?_)
  have vl : vs.length = es.size := by rw [pm.length_eq, List.length_map, Array.length_toList]
  have all : ∀ v, v ∈ vs → ∃ x t, v = .str x t := fun v hv => by
    obtain ⟨e, he, q⟩ := List.mem_map.mp (pm.mem_iff.mp hv)
    obtain ⟨k, tk, h1, _⟩ := g e he
    exact ⟨k, tk, by rw [← q]; exact h1⟩
  have hS : StrsAre vs (vs.map strOf) := strsAre_map vs all
  have pk : (vs.map strOf).Perm (es.toList.map keyT) := by
    have q := pm.map strOf
    rw [List.map_map] at q
    exact q
  refine wpAny_bind (wpAny_newList ?_ (by rw [vl, sizeLine_eq]; omega))
  have hoL : (s1.heap.push (seqObj "list" vs.toArray 0)).get? s1.heap.objs.size = some (seqObj "list" vs.toArray 0) := Heap.get?_push_size _ rfl
  refine wpAny_bind (wpAny_holding (wpAny_call_entry slot_list_sort ⟨_, hoL, rfl⟩ entry_list_sort (list_sort_treeK strKind_oneLt hoL hS.keysOf (fun v1 v2 rest e => keyKind_strs (by rw [← e]; exact hS)) (by omega)
    fun st' a1 a2 => ⟨_, rfl, ?_⟩) (args_list_sort _)))
  obtain ⟨zs, z1, z2, z3⟩ := sorted_out_str hS a1 a2
  obtain ⟨c, hc⟩ := sortedHeap_at (vs := vs) (out := (arrOf st').map (·.2)) hoL
  have pn : zs.Perm (es.toList.map keyT) := z2.trans pk
  refine wpAny_pure ⟨_, rfl, hQ _ s1.heap.objs.size _ c zs (fun b u e => ?_) g1 o1 hz1 hc z1 (pn.nodup_iff.mpr nd) z3 (fun k => pn.mem_iff.trans (hm k)) (by rw [pn.length_eq, List.length_map, Array.length_toList]; exact hz)⟩
  have q := k1 b u e
  have lt := Heap.lt_size q
  show (sortedHeap (s1.heap.push (seqObj "list" vs.toArray 0)) s1.heap.objs.size vs _).get? b = some u
  rw [sortedHeap_old (Nat.ne_of_lt lt) (by rw [size_push']; exact Nat.lt_succ_of_lt lt)]
  exact Heap.get?_push_of_some _ q
end
/-- the set of the texts xs at a -/
def SetTO (P : Program) (w : World) (a : Addr) (xs : List Str) : HO := .ext fun h => SetT P w h a xs
section
variable {X : Cx}
theorem setTO_new {w : World} {P : Program} {H : Hp} {h : Heap} {a : Addr} {xs : List Str} (R : SetT P w h a xs) : ObjOk P w H h a (SetTO P w a xs) := by
  have ⟨o, _, _, _, ho, _⟩ := R.ex
  exact ⟨R, ⟨o, ho⟩, fun h1 h2 p k => SetT.keep p k⟩
def rSetT (X : Cx) : List V → Hp → VK → Prop := fun vs H Q => ∃ (l : Addr) (xs : List Str), vs = [.ref l] ∧ SqL X.K H l (xs.map V.str) ∧ xs.length < 4000 ∧ ∀ p, H p = none → Q (.ref p) (upd H p (SetTO X.prog X.w p xs))
theorem cr_setT (hc : X.calm = true) : CallR X (.type "set") (rSetT X) := by
  intro pins s σ H vs us Q I r h
  obtain ⟨l, xs, rfl, hq, hfew, q⟩ := h
  obtain ⟨u, rfl, ru⟩ := vals1 r
  cases ru
  obtain ⟨its, rv, pl, hz⟩ := I.list hq
  refine set_of_texts (I.ok.hd hc) pl.isList (by simpa using strsAre_of rv) hfew fun h' tk R hk => ?_
  exact ⟨.ref _, upd H s.heap.objs.size (SetTO X.prog X.w s.heap.objs.size xs), I.laid (t' := tk) (fun b o e => hk b o (Heap.lt_size e) e) (Nat.le_refl _) (setTO_new R), rfl, q _ (I.hok.fresh (Nat.le_refl _))⟩
def rSortedT (X : Cx) : List V → Hp → VK → Prop := fun vs H Q => ∃ (a : Addr) (xs : List Str), vs = [.ref a] ∧ H a = some (SetTO X.prog X.w a xs) ∧ xs.length < 64 ∧
  ∀ (zs : List Str) (p : Addr), zs.Nodup → sortedS zs = true → (∀ k, k ∈ zs ↔ k ∈ xs) → zs.length ≤ xs.length → H p = none → Q (.ref p) (upd H p (.lst (zs.map V.str)))
theorem vals_strs : ∀ {us : List Value} {xs : List Str}, StrsAre us xs → Vals (xs.map V.str) us
  | _, _, .nil => .nil
  | _, _, .cons x t h => .cons ⟨t, rfl⟩ (vals_strs h)
theorem cr_sortedSetT (hc : X.calm = true) : CallR X (.builtin "sorted") (rSortedT X) := by
  intro pins s σ H vs us Q I r h
  obtain ⟨a, xs, rfl, ha, h64, q⟩ := h
  have R : SetT X.prog X.w s.heap a xs := (I.hok a _ ha).1
  rw [Vals.ref1 r]
  refine sorted_setT R (I.ok.hd hc) h64 fun s' p out c zs k g o hp hg hi hn hs hm hl => ?_
  have hlen : (zs.map V.str).length ≤ sizeLine := by rw [List.length_map, sizeLine_eq]; omega
  have fresh : H p = none := I.hok.fresh hp
  have J : Inv X pins σ (upd H p (.lst (zs.map V.str))) { s with heap := s'.heap, gens := s'.gens, drawn := s'.drawn, toks := s'.toks } :=
    I.call (ch := []) (Un.laid k hp fresh) (I.hok.laid k hp ⟨hlen, out.toList, c, vals_strs hi, hg⟩) (by rw [g]; exact I.bare) (fun _ z => nomatch z)
  have e : s' = { s with heap := s'.heap, gens := s'.gens, drawn := s'.drawn, toks := s'.toks } := by
    obtain ⟨_, _, _, _, _⟩ := s'
    simp only at o
    rw [o]
  rw [e]
  exact ⟨.ref p, _, J, rfl, q zs p hn hs hm hl fresh⟩
end
end Sea
/-! three comparisons in one chain, as a test -/
namespace Sea
open PySem PySem.Spec PyProof.Rows L2
def tChain3 (r1 r2 r3 : R2) (ta tb tc td : TE) : TT := fun σ H Q => ta σ H fun x H1 => tb σ H1 fun y H2 => r1 x y H2 fun z H3 => ∃ k, z = .bl k ∧
  (if k = true then tc σ H3 fun v H4 => r2 y v H4 fun z2 H5 => ∃ k2, z2 = .bl k2 ∧ (if k2 = true then td σ H5 fun u H6 => r3 v u H6 fun z3 H7 => ∃ k3, z3 = .bl k3 ∧ Q k3 H7 else Q false H5) else Q false H3)
theorem pt_chain3 {X : Cx} {a b c d : Expr} {ta tb tc td : TE} {pos : Pos} {o1 o2 o3 : CmpOp} {r1 r2 r3 : R2} (h1 : OpR X (compareOp o1) r1) (h2 : OpR X (compareOp o2) r2) (h3 : OpR X (compareOp o3) r3)
    (ha : PE X a ta) (hb : PE X b tb) (hc : PE X c tc) (hd : PE X d td) (hm : lastMarks [o1, o2, o3] [b, c, d] = false := by with_unfolding_all rfl) :
    PT X (.Compare a [o1, o2, o3] [b, c, d] pos) (tChain3 r1 r2 r3 ta tb tc td) := by
  refine ⟨fun pins s σ H Q I h => ?_⟩
  refine isTrue_chain (thn (ha.run pins s σ H _ I h) fun v s1 ⟨x, H1, I1, rx, q1⟩ => test_link (thn (hb.run pins s1 σ H1 _ I1 q1) fun u s2 ⟨y, H2, I2, ry, q2⟩ =>
    thn (h1 pins s2 σ H2 x y v u _ I2 rx ry q2) fun e1 s3 ⟨z, H3, I3, rz, k, ez, q3⟩ => ?_)) hm
  subst ez
  cases rz
  refine wpAny_truthy_bool ?_
  cases k with
  | false => exact ite_ff ⟨H3, I3, q3⟩
  | true =>
    refine ite_tt (test_link (thn (hc.run pins s3 σ H3 _ I3 q3) fun w1 s4 ⟨v2, H4, I4, rv, q4⟩ => thn (h2 pins s4 σ H4 y v2 u w1 _ I4 ry rv q4) fun e2 s5 ⟨z2, H5, I5, rz2, k2, ez2, q5⟩ => ?_))
    subst ez2
    cases rz2
    refine wpAny_truthy_bool ?_
    cases k2 with
    | false => exact ite_ff ⟨H5, I5, q5⟩
    | true =>
      refine ite_tt (test_last (thn (hd.run pins s5 σ H5 _ I5 q5) fun w2 s6 ⟨u2, H6, I6, ru, q6⟩ => thn (h3 pins s6 σ H6 v2 u2 w1 w2 _ I6 rv ru q6) fun e3 s7 ⟨z3, H7, I7, rz3, k3, ez3, q7⟩ => ?_))
      subst ez3
      cases rz3
      exact wpAny_truthy_bool ⟨H7, I7, q7⟩
end Sea
/-! enumerate over a tuple -/
namespace Sea
open PySem PySem.Spec PyProof.Rows L2
/-- the iterator that a tuple at l gives -/
abbrev tupIt (l : Addr) : Obj := { cls := .type "tuple_iterator", data := .fields #[.ref l, .int 0 0] }
abbrev enumOf (it : Addr) : Obj := { cls := .type "enumerate", data := .fields #[.none, .bool false, .ref it, rawInt 0, .none, .none] }
theorem made_enum (l : Addr) (items : Array Value) (n : Nat) (dct : Option Addr) (sl : Array (Option Value)) :
    Meets (Builtin.«enumerate.__new__» ⟨[.type "enumerate", .ref l], []⟩) (fun _ R s => s.heap.get? l = some { cls := .type "tuple", dict := dct, data := .seq items n, slots := sl } ∧
      R (.ok (.ret (.ref (s.heap.push (tupIt l)).objs.size))) { s with heap := (s.heap.push (tupIt l)).push (enumOf s.heap.objs.size) }) :=
  .of_wp fun prog w A R s h => by
    obtain ⟨hp, g, d, tk, os⟩ := s
    obtain ⟨hl, h⟩ := h
    have hsub := sub_enumerate
    have hT : Heap.IsTuple (Shared.heap ⟨hp, g, d, tk, os⟩) l items := ⟨_, hl, rfl, n, rfl⟩
    wp_walk using AutoSeq1.wpAny_loadPart' hl
    refine wpAny_stack_any fun st => wpAny_pure ?_
    split
    · rename_i c _ _ _ _ _
      cases (c == Value.type "enumerate") <;>
        (wp_walk using AutoSeq1.wpAny_loadPart' hl, wpAny_pyIter_tuple hT
         exact ⟨_, rfl, h⟩)
    · wp_walk using AutoSeq1.wpAny_loadPart' hl, wpAny_pyIter_tuple hT
      exact ⟨_, rfl, h⟩
section
variable {prog : Program} {w : World} {A : Around} {E : Value → Shared → Prop} {s : Shared}
theorem call_enumT {l : Addr} {items : Array Value} {Q : Value → Shared → Prop} (hL : s.heap.IsTuple l items)
    (h : ∀ h', IsEnum h' (s.heap.objs.size + 1) s.heap.objs.size 0 .none → h'.IsTupleIter s.heap.objs.size l 0 → h'.objs.size = s.heap.objs.size + 2 →
      (∀ b o, s.heap.get? b = some o → h'.get? b = some o) → Q (.ref (s.heap.objs.size + 1)) { s with heap := h' }) :
    wpAny (model prog w) A (call (.type "enumerate") [.ref l]) Q E s := by
  obtain ⟨⟨c, dct, dt, sl⟩, hl, hc, n, hd⟩ := hL
  replace hc : c = .type "tuple" := hc
  replace hd : dt = .seq items n := hd
  subst hc hd
  refine callType_new F.called_enumerate (by decide) (F.typeCall_enumerate_1 _) (F.newCall_enumerate_1 _) (fun obj => F.args_object_init_2 obj _) F.entry_enumerate_new (made_enum l items n dct sl) ⟨hl, ?_⟩
  have hz : (s.heap.push (tupIt l)).objs.size = s.heap.objs.size + 1 := Heap.size_push ..
  show _ ∧ _
  rw [hz]
  have he : IsEnum ((s.heap.push (tupIt l)).push (enumOf s.heap.objs.size)) (s.heap.objs.size + 1) s.heap.objs.size 0 .none := by
    have q := Heap.get?_push_size (s.heap.push (tupIt l)) (o := enumOf s.heap.objs.size) rfl
    rw [hz] at q
    exact q
  exact ⟨⟨_, he, rfl⟩, h _ he ⟨_, Heap.get?_push_of_some _ (Heap.get?_push_size _ rfl), rfl, rfl⟩ (by rw [Heap.size_push, hz]) fun b o x => Heap.get?_push_of_some _ (Heap.get?_push_of_some _ x)⟩
end
theorem drawsT {prog : Program} {w : World} {A : Around} (hh : A.handled = none) (it l : Addr) (hne : l ≠ it) (items : Array Value) :
    Draws prog w A it [it, l] items.size (fun i v => items[i]? = some v) (fun i h => h.IsTupleIter it l i ∧ h.IsTuple l items) where
  live := fun _ _ st => let ⟨o, ho, _⟩ := st.1; ⟨o, ho⟩
  frame := fun _ _ _ st hk => ⟨let ⟨o, ho, r⟩ := st.1; ⟨o, hk it List.mem_cons_self o ho, r⟩, let ⟨o, ho, r⟩ := st.2; ⟨o, hk l (List.mem_cons_of_mem _ List.mem_cons_self) o ho, r⟩⟩
  item := fun i s Q E hi st hQ => by
    refine RZ.nextOf_tuple_item st.1 st.2 (x := items[i]) (by simp [hi]) fun h' hit' hs' => ?_
    exact hQ _ h' s.toks (by simp [hi]) ⟨hit', let ⟨o, ho, r⟩ := st.2; ⟨o, (hs'.2 l hne).trans ho, r⟩⟩ hs'
  done := fun s Q E st hE => RZ.nextOf_tuple_end hh st.1 st.2 (by simp) hE
/-- the items of the tuple at a, each with its number, in a new pair -/
def IenT (K : PySem.W.Frag) (a : Addr) : It where
  go := fun i H => ∃ (xs : List V) (x : V), SqT K H a xs ∧ xs[i]? = some x
  yld := fun i H v H' => ∃ T x, v = .ref T ∧ H T = none ∧ H' = upd H T (.tup [.int (i : Nat), x]) ∧ ∀ xs, SqT K H a xs → xs[i]? = some x
  stop := fun i H => ∃ xs : List V, SqT K H a xs ∧ xs.length ≤ i
theorem turn_enumT {P : Program} {w : World} {K : PySem.W.Frag} {elts : List Expr} {kk : Nat} {tpos : Pos} (a e it : Addr) :
    Turn P w K (.Tuple elts kk tpos) (IenT K a) [e, it] e (fun i h => (∃ old, IsEnum h e it ((i : Nat) : Int) old) ∧ h.IsTupleIter it a i ∧ e ≠ it) where
  mem := List.mem_cons_self
  obj := fun i h st b hb => by
    obtain ⟨⟨old, he⟩, ⟨o, ho, hc, hd⟩, _⟩ := st
    rcases List.mem_cons.mp hb with z | z
    · subst z
      exact ⟨_, he, fun v q => nomatch q⟩
    · rw [List.mem_singleton.mp z]
      exact ⟨o, ho, fun v q => by rw [hd] at q; cases q⟩
  keep := fun i h h' st k => by
    obtain ⟨⟨old, he⟩, ⟨o, ho, r⟩, ne⟩ := st
    exact ⟨⟨old, k e List.mem_cons_self _ he⟩, ⟨o, k it (List.mem_cons_of_mem _ List.mem_cons_self) o ho, r⟩, ne⟩
  item := by
    intro X hP hw hK hc i pins s σ H E I hf st hg
    subst hP hw hK
    obtain ⟨⟨old, he⟩, hit, hne⟩ := st
    obtain ⟨xs, x, hq, hx⟩ := hg
    obtain ⟨its, rv, p, hz⟩ := I.tuple hq
    obtain ⟨u, hu, ru⟩ := rv.get hx
    have hel : e < s.heap.objs.size := Heap.lt_size he
    have hil : it < s.heap.objs.size := by
      obtain ⟨_, q, _⟩ := hit
      exact Heap.lt_size q
    have nea : a ≠ it := fun z => by
      obtain ⟨o1, h1, h2, _⟩ := hit
      obtain ⟨o2, h3, h4, _⟩ := p
      rw [z, h1] at h3
      cases h3
      rw [h2] at h4
      exact absurd (Value.type.inj h4) (by decide)
    have nee : e ≠ a := fun z => by
      obtain ⟨o2, h3, h4, _⟩ := p
      rw [← z, (show s.heap.get? e = some _ from he)] at h3
      cases h3
      exact absurd (Value.type.inj h4) (by decide)
    have il : i < its.toArray.size := by
      have := (List.getElem?_eq_some_iff.mp hu).1
      rw [List.size_toArray]
      exact this
    refine wpAny_pyNext_enum_itemD (drawsT (A := X.A.in1) (I.ok.hd hc) it a nea its.toArray) he ⟨hit, p⟩ il hne (fun q => ?_) fun y h' tk hP ho hit' hT hsz hk => ?_
    · rcases List.mem_cons.mp q with z | z
      · exact hne z
      · exact nee (List.mem_singleton.mp z)
    have ey : y = u := by
      have : its.toArray[i]? = some u := by rw [← Array.getElem?_toList]; exact hu
      exact Option.some.inj (hP.symm.trans this)
    subst ey
    refine ⟨_, rfl, wpAny_letOwnedTupleGo_enum (s := ⟨h', s.gens, s.drawn, tk + 1, s.os⟩) ho fun h2 he2 sb => ?_⟩
    have hT2 : h2.get? s.heap.objs.size = some { cls := .type "tuple", data := .seq #[.int i tk, y] } := (sb.2 _ (Nat.ne_of_gt hel)).trans hT
    have nw : ObjOk X.prog X.w (upd H s.heap.objs.size (.tup [.int (i : Nat), x])) h2 s.heap.objs.size (.tup [.int (i : Nat), x]) :=
      ⟨by show 2 ≤ sizeLine; decide, [.int i tk, y], .cons ⟨_, rfl⟩ (.cons ru .nil), ⟨_, hT2, rfl, _, rfl⟩⟩
    have kk2 : ∀ b ob, b ∉ [e, it] → s.heap.get? b = some ob → h2.get? b = some ob := fun b ob hb q => by
      have b1 : b ≠ e := fun z => hb (z ▸ List.mem_cons_self)
      have b2 : b ≠ it := fun z => hb (z ▸ List.mem_cons_of_mem _ List.mem_cons_self)
      exact (sb.2 b b1).trans (hk b ob b1 b2 q)
    have J : Inv X pins σ (upd H s.heap.objs.size (.tup [.int (i : Nat), x])) ⟨h2, s.gens, s.drawn, tk + 1, s.os⟩ := I.turnedNew (t' := tk + 1) kk2 hf (Nat.le_refl _) nw
    refine ⟨.ref s.heap.objs.size, _, J, rfl, ⟨_, x, rfl, I.hok.fresh (Nat.le_refl _), rfl, fun ys hy => by rw [I.tuple_inj hy hq]; exact hx⟩, ⟨⟨y, ?_⟩, ?_, hne⟩, fun b hb => ?_⟩
    · have e1 : ((i + 1 : Nat) : Int) = (i : Int) + 1 := Int.natCast_succ i
      rw [e1]
      exact he2
    · obtain ⟨⟨o, ho2, r⟩, _⟩ := hit'
      exact ⟨o, (sb.2 it hne.symm).trans ho2, r⟩
    · have hlt : b < s.heap.objs.size := by
        rcases List.mem_cons.mp hb with z | z
        · exact z ▸ hel
        · exact (List.mem_singleton.mp z) ▸ hil
      rw [upd_ne (Nat.ne_of_lt hlt)]
      exact (hf b hb).1
  done := by
    intro X hP hw hK hc i pins s σ H E I hf st hg
    subst hP hw hK
    obtain ⟨⟨old, he⟩, hit, hne⟩ := st
    obtain ⟨xs, hq, hx⟩ := hg
    obtain ⟨its, rv, p, hz⟩ := I.tuple hq
    obtain ⟨f0, f1, f2, f3, f4, f5⟩ := hf it (List.mem_cons_of_mem _ List.mem_cons_self)
    have hl := rv.length
    have nea : a ≠ it := fun z => by
      obtain ⟨o1, h1, h2, _⟩ := hit
      obtain ⟨o2, h3, h4, _⟩ := p
      rw [z, h1] at h3
      cases h3
      rw [h2] at h4
      exact absurd (Value.type.inj h4) (by decide)
    have hend : its.toArray[i]? = none := Array.getElem?_eq_none (by rw [List.size_toArray]; omega)
    have hT : s.TypeIs (.ref e) "enumerate" := ⟨_, he, rfl⟩
    unfold pyNext
    refine wpAny_bind (wpAny_attempt (wpAny_callSpecial?_slot (name := Str.ofString "__next__") hT F.slot_enumerate_next
      (wpAny_call_entry F.slot_enumerate_next hT F.entry_enumerate_next ?_ (F.args_enumerate_next_1 _))))
    show wpAny _ _ (field (.ref e) 2 >>= _) _ _ s
    refine wpAny_bind (wpAny_field he rfl (x := .ref it) rfl ?_)
    refine wpAny_bind (RZ.nextOf_tuple_end (I.ok.hd hc) hit p hend fun h' z eb hs => ?_)
    obtain ⟨o, ho, hcl⟩ := id hs
    refine wpAny_bind (wpAny_isInstance (T := "StopIteration") (b := true) ⟨o, ho, hcl⟩ isSubtype_stop ?_)
    exact wpAny_pure ⟨rfl, I.turned (t' := s.toks) (fun b o hb q => eb b o hb q) f0 f1 f3 f4 f5⟩
  self := fun A i s Q E st h => by
    obtain ⟨⟨_, he⟩, _⟩ := st
    exact wpAny_pyIter_enum he h
def iEnT (K : PySem.W.Frag) (ta : TA) : TI := fun σ H R => ta σ H fun vs H1 => ∃ a xs, vs = [.ref a] ∧ SqT K H1 a xs ∧ R (IenT K a) H1
theorem pi_enT {X : Cx} {e : Expr} {ta : TA} {p pos tpos : Pos} {elts : List Expr} {kk : Nat} (hg : Gl X "enumerate") (hm : X.mg "enumerate" = none) (ha : PA X [e] ta) (hs : starEach [e] X.env = [(false, eval e X.env)] := by rfl) :
    PI X (.Tuple elts kk tpos) (.Call (.Name "enumerate" p) [e] [] pos) (iEnT X.K ta) := by
  refine ⟨fun pins s σ H R I h => ?_⟩
  refine Call_ (ld_blt I hg hm boot_enumerate (PyProof.Rows.callWith_type1 (thn (ha.run pos pins s σ H _ I h) fun us s1 ⟨vs, H1, I1, r1, q1⟩ => ?_) hs rfl))
  obtain ⟨a, xs, ex, hq, q⟩ := q1
  subst ex
  cases r1 with
  | cons r rr =>
    cases rr
    cases r
    obtain ⟨its, rv, p2, hz⟩ := I1.tuple hq
    refine call_enumT p2 fun h' he hit hsz hk => wpAny_pyIter_enum he ?_
    have I2 : Inv X pins σ H1 { s1 with heap := h' } := I1.kept (t' := s1.toks) hk
    refine ⟨s1.heap.objs.size + 1, [s1.heap.objs.size + 1, s1.heap.objs.size], _, _, H1, rfl, I2, turn_enumT a (s1.heap.objs.size + 1) s1.heap.objs.size, ⟨⟨.none, he⟩, hit, Nat.succ_ne_self _⟩, fun b hb => ?_, q⟩
    have hle : s1.heap.objs.size ≤ b := by
      rcases List.mem_cons.mp hb with z | z
      · exact z ▸ Nat.le_succ _
      · exact (List.mem_singleton.mp z) ▸ Nat.le_refl _
    exact I1.fpOk hle (I1.hok.fresh hle)
/-- its turns, for for_it and lc_it -/
theorem walk_enT {K : PySem.W.Frag} {a : Addr} {xs : List V} : Walk (IenT K a) xs.length (fun H => SqT K H a xs)
    (fun i H v H' => ∃ T x, v = .ref T ∧ H T = none ∧ xs[i]? = some x ∧ H' = upd H T (.tup [.int (i : Nat), x])) :=
  ⟨fun i H hi hs => ⟨xs, xs[i], hs, List.getElem?_eq_getElem hi⟩, fun H hs => ⟨xs, hs, Nat.le_refl _⟩, fun i H v H' _ hs ⟨T, x, h1, h2, h3, h4⟩ => ⟨T, x, h1, h2, h4 xs hs, h3⟩⟩
end Sea
/-! repr of data: defs that run where no guard stands around them. -/
namespace Sea
open PySem PySem.Spec PyProof.Rows L2
/-- a def's promise to callers around whom no guard stands -/
structure FnG (P : Program) (w : World) (K : PySem.W.Frag) (mg : Str → Option Value) (base : Heap) (CX : CXT) (k : Nat) (f : Addr) (fd : FuncData) (ps : List Str) (sp : Sp) : Prop where
  many : ∀ vs H Q E, sp vs H Q E → vs.length = ps.length
  runs : ∀ (A : Around) (outer : List Env) (s : Shared) (H : Hp) (args : Args) (us : List Value) (vs : List V) (Q : VK) (E : XK), A.guards = some [] → Room k A → Env0 P w K mg base A outer s H → BindsTo s fd args (ps.zip us) →
    Vals vs us → sp vs H Q E → codeAny (model P w) A (.call (.ref f) args) (CR CX outer P w H s Q E) s
theorem FnG.more {P : Program} {w : World} {K : PySem.W.Frag} {mg : Str → Option Value} {base : Heap} {CX : CXT} {j k : Nat} {f : Addr} {fd : FuncData} {ps : List Str} {sp : Sp} (F : FnG P w K mg base CX j f fd ps sp) (h : j ≤ k) : FnG P w K mg base CX k f fd ps sp :=
  ⟨F.many, fun A outer s H args us vs Q E ga room => F.runs A outer s H args us vs Q E ga (room.mono h)⟩
section
variable {P : Program} {w : World} {K : PySem.W.Frag} {mg : Str → Option Value} {base : Heap}
theorem FunG.ok {x qual : Str} {st : Stmt} {f : Addr} {fd : FuncData} {N ps : List Str} {k : Nat} {sp : Sp} (F : Fun K x qual st f fd) (S : FnScope N ps (defScope st)) (many : ∀ vs H Q E, sp vs H Q E → vs.length = ps.length)
    (body : ∀ (cdv : Value) (A : Around) (outer : List Env) (s : Shared) (H : Hp) (vs : List V) (Q : VK) (E : XK), A.guards = some [] → Room k (A.deeper (envOfC qual (defScope st) s.heap.objs.size f cdv)) → sp vs H Q E →
      ∃ t, PSs (cxOf CX0 P w K mg base N qual (defScope st) f cdv A outer s H E).nox (defBody st) t ∧ t { nx := fun _ H' => Q .non H', rt := Q } (start N vs) H) : FnG P w K mg base CX0 (k + 1) f fd ps sp := by
  obtain ⟨oc, od, kV, doc, pm, an, cdv, ct, osl, rfl, lk, hcd⟩ := F.ex
  constructor
  · exact many
  intro A outer s H args us vs Q E ga room env bt rv h
  have inK : K.In s.heap := env.mod.kin.keeps fun b o e => (env.bs b o e).1
  refine codeAny_call_function room.depth (inK _ _ lk) rfl S.co S.gen rfl (PySem.W.codeRec_of inK hcd) (bt _ _ _ _ ?_)
  refine wpAny_newFunctionEnv_cells S.kind (fun y hy => ?_) fun own eo s1 x => ?_
  · obtain ⟨n, v⟩ := y
    have hn := (List.of_mem_zip hy).1
    rcases S.par n hn with q | q
    · exact Or.inl q
    · exact Or.inr ⟨q, PySem.W.cellsFrom_some _ _ _ (Or.inl q)⟩
  · subst eo
    have free : s.heap.NoLimit := env.mod.nolimit.keeps fun b o e => (env.bs b o e).1
    refine ⟨free.keeps x.toInCall.keep, codeAny_func ?_⟩
    obtain ⟨t, ht0, hq⟩ := body cdv A outer s H vs Q E ga (room.deeper _) h
    have ht := ht0.nox
    have J : Inv (cxOf CX0 P w K mg base N qual (defScope st) f cdv A outer s H E) [] (start N vs) H s1 := inv_start S room.hd env (many _ _ _ _ h) rv x
    refine wpAny_mono (ht.run [] s1 (start N vs) H _ J hq) (fun fl s' hs => ?_) fun e s' hs => hs
    cases fl with
    | next =>
      obtain ⟨σ', H', J', q⟩ := hs
      exact ⟨V.non, H', J'.os, J'.bare, J'.base, J'.hok, rfl, q⟩
    | ret u =>
      obtain ⟨v, σ', H', J', rv', q⟩ := hs
      exact ⟨v, H', J'.os, J'.bare, J'.base, J'.hok, rv', q⟩
    | brk =>
      obtain ⟨_, _, _, q⟩ := hs
      exact q.elim
    | cont =>
      obtain ⟨_, _, _, q⟩ := hs
      exact q.elim
/-- such a def by its name -/
def CalG (P : Program) (w : World) (K : PySem.W.Frag) (mg : Str → Option Value) (base : Heap) (k : Nat) (x : Str) (sp : Sp) : Prop :=
  ∃ (f : Addr) (fd : FuncData) (ps : List Str), FnG P w K mg base CX0 k f fd ps sp ∧ mg x = some (.ref f) ∧ PySem.W.keepIn K (.ref f) = true ∧ Binds K fd ps []
end
section
variable {X : Cx} {x : Str} {sp : Sp} {k j : Nat} {e : Expr} {es : List Expr} {t : TA} {p pos : Pos}
theorem pe_cG (c : CalG X.prog X.w X.K X.mg X.base k x sp) (ga : X.A.guards = some []) (room : Room j X.A) (hk : k ≤ j) (hg : Gl X x) (ha : PA X (e :: es) t)
    (hdb : (x == ("__debug__" : Str)) = false := by decide) (he : starEach (e :: es) X.env = (false, eval e X.env) :: starEach es X.env := by rfl)
    (hpl : (backTo pos (starEach es X.env)).any (·.1) = false := by rfl) : PE X (.Call (.Name x p) (e :: es) [] pos) (tCall sp [] E0 t) := by
  obtain ⟨f, fd, ps, F, hm, kp, b⟩ := c
  constructor
  intro pins s σ H Q I h
  refine wpAny_Call_Name_kw (ld_glob I hg hm ?_ hdb)
  refine PySem.W.callWith_K (h₀ := X.base) I.ok.mod.kin kp (thn (ha.run pos pins s σ H _ I h) fun us s1 got => ?_) he hpl
  obtain ⟨vs, H1, I1, r, q⟩ := got
  refine ⟨I1.kIn, ?_⟩
  rw [List.append_nil] at q
  have hl : (us ++ []).length = ps.length := by
    rw [List.append_nil, ← r.length]
    exact F.many _ _ _ _ q
  have bt := b s1 us I1.kIn hl
  rw [List.append_nil] at bt
  refine wpAny_call (codeAny_mono (F.runs X.A X.stack s1 H1 ⟨us, []⟩ us vs Q E0 ga (room.mono hk) I1.env0 bt r q) fun res s' hq => ?_)
  cases res with
  | error er => exact hq.elim
  | ok fl =>
    cases fl with
    | ret u => exact I1.after hq
    | next => exact False.elim hq
    | brk => exact False.elim hq
    | cont => exact False.elim hq
/-- repr(x) of data -/
theorem call_reprD (ga : X.A.guards = some []) (hu : X.A.units + 64 < cLine) :
    CallR X (.builtin "repr") (fun xs H Q => ∃ (x : V) (d : PyData), xs = [x] ∧ Dp X.K H x d ∧ d.showable = true ∧ d.hasDict = false ∧ d.depth ≤ 50 ∧ d.shown.length ≤ sizeLine ∧ (∀ i, d = .int i → i.natAbs.log2 < 1920) ∧ Q (.str d.shown) H) := by
  intro pins s σ H xs us Q I r h
  obtain ⟨x, d, rfl, hx, hs, hd, hp, hz, hi, q⟩ := h
  obtain ⟨u, rfl, ru⟩ := vals1 r
  cases hx with
  | non =>
    cases ru
    exact PySem.P.repr_of_none ⟨.str _, H, I.tok _, ⟨_, rfl⟩, q⟩
  | bl b =>
    cases ru
    refine PySem.P.repr_of_bool ⟨.str _, H, I.tok _, ⟨_, rfl⟩, ?_⟩
    cases b <;> exact q
  | int i =>
    obtain ⟨t, rfl⟩ := ru
    exact PySem.P.repr_of_int (hi i rfl) ⟨.str _, H, I.tok _, ⟨_, rfl⟩, q⟩
  | str z =>
    obtain ⟨t, rfl⟩ := ru
    exact PySem.P.repr_of_str (h := ⟨.str _, H, I.tok _, ⟨_, rfl⟩, q⟩) (hsz := hz)
  | lst h1 h2 =>
    cases ru
    obtain ⟨as, rd⟩ := Dp.reads I _ _ _ (.lst h1 h2) rfl
    exact repr_of_reads' rd hs (fun e => by rw [hd] at e; cases e) ga (by omega) (fun _ _ e => e) (fun h' u tk hk => ⟨.str _, H, I.kept hk, ⟨u, rfl⟩, q⟩) hz
  | tup h1 h2 =>
    cases ru
    obtain ⟨as, rd⟩ := Dp.reads I _ _ _ (.tup h1 h2) rfl
    exact repr_of_reads' rd hs (fun e => by rw [hd] at e; cases e) ga (by omega) (fun _ _ e => e) (fun h' u tk hk => ⟨.str _, H, I.kept hk, ⟨u, rfl⟩, q⟩) hz
end
end Sea
/-! len(o), o[i], iter(t) and loops over o, by own defs -/
namespace Sea
open PySem PySem.Spec PyProof.Rows L2
section
variable {X : Cx} {n k : Nat} {C f : Addr} {fd : FuncData} {ps : List Str} {sp : Sp}
theorem call_lenOwn (F : FnOk X.prog X.w X.K X.mg X.base CX0 n f fd ps sp) (hr : Room (k + 1) X.A) (hk : n ≤ k) (hs : PySem.W.findIn X.K (.ref C) "__len__" = some (some (.ref f))) (hf : PySem.W.isFn X.K (.ref f) = true) (hb : Binds X.K fd ps []) :
    CallR X (.builtin "len") (fun xs H Q => ∃ (a dx : Addr) (fs : List (Str × V)), xs = [.ref a] ∧ H a = some (.ins C dx fs) ∧ sp [.ref a] H (fun v H' => (∃ m : Nat, v = .int (m : Nat) ∧ m ≤ 1000000) ∧ Q v H') E0) := by
  intro pins s σ H xs us Q I r h
  obtain ⟨a, dx, fs, rfl, ha, hsp⟩ := h
  obtain ⟨u, rfl, ru⟩ := vals1 r
  cases ru
  obtain ⟨mA, J, _⟩ := ins_get I.hok ha
  obtain ⟨od, J, _⟩ := J.look
  obtain ⟨m, hF⟩ := I.fr
  refine PySem.W.len_K hF I.ok.mod.kin J hs hf ?_
  have r1 : Vals [V.ref a] [Value.ref a] := .cons rfl .nil
  have hl := F.len _ _ _ _ hsp
  have bt := hb s [.ref a] I.kIn (by rw [List.append_nil]; exact hl)
  rw [List.append_nil] at bt
  refine wpAny_call (codeAny_mono (F.run X.A.in1 X.stack s H ⟨[.ref a], []⟩ [.ref a] [.ref a] _ E0 (hr.in1.mono hk) I.env0.in1 bt r1 hsp) fun res s' hq => ?_)
  cases res with
  | error e => exact hq.elim
  | ok fl =>
    cases fl with
    | ret w =>
      obtain ⟨z, H', I', rz, ⟨mm, ez, hm⟩, q⟩ := I.after hq
      subst ez
      obtain ⟨t, rfl⟩ := rz
      refine ⟨⟨?_, ?_⟩, ⟨.int (mm : Nat), H', I'.tok _, ⟨_, rfl⟩, q⟩⟩
      · omega
      · omega
    | next => exact False.elim hq
    | brk => exact False.elim hq
    | cont => exact False.elim hq
/-- o[i] by its own def, which may raise -/
def tIxOwn (C : Addr) (sp : Sp) (E : L2.St → XK) (ta tb : TE) : TE := fun σ H Q => ta σ H fun x H1 => tb σ H1 fun y H2 => ∃ (a dx : Addr) (fs : List (Str × V)), x = .ref a ∧ H2 a = some (.ins C dx fs) ∧ sp [x, y] H2 Q (E σ)
theorem pe_ixOwn {CX : CXT} {E : L2.St → XK} {a b : Expr} {ta tb : TE} {pos : Pos} (F : FnOk X.prog X.w X.K X.mg X.base CX n f fd ps sp) (hr : Room (k + 1) X.A) (hk : n ≤ k) (hs : PySem.W.findIn X.K (.ref C) "__getitem__" = some (some (.ref f)))
    (hfn : PySem.W.fnIn X.K f = true) (hf : PySem.W.isFn X.K (.ref f) = true) (hb : Binds X.K fd ps []) (hx : ∀ σ, PassesAt CX X σ (E σ)) (ha : PE X a ta) (hb' : PE X b tb) (hsl : ∀ v u, subscripted b true v u = runValue (.builtin "lifetime.subscript" ⟨[v, u], []⟩)) :
    PE X (.Subscript a b pos) (tIxOwn C sp E ta tb) := by
  refine ⟨fun pins s σ H Q I h => ?_⟩
  refine Subscript_ (binT ha hb' I h fun v u s2 x y H2 I2 rx ry q => ?_)
  obtain ⟨o, dx, fs, rfl, ho, hsp⟩ := q
  cases rx
  obtain ⟨mA, J, _⟩ := ins_get I2.hok ho
  obtain ⟨od, J, _⟩ := J.look
  obtain ⟨m, hF⟩ := I2.fr
  refine PySem.W.sub_K hF I2.ok.mod.kin J hs hfn hf ?_ (hsl _ _)
  have r2 : Vals [V.ref o, y] [Value.ref o, u] := .cons rfl (.cons ry .nil)
  have hl := F.len _ _ _ _ hsp
  have bt := hb s2 [.ref o, u] I2.kIn (by rw [List.append_nil]; exact hl)
  rw [List.append_nil] at bt
  refine wpAny_call (codeAny_mono (F.run X.A.in1 X.stack s2 H2 ⟨[.ref o, u], []⟩ [.ref o, u] [.ref o, y] Q (E σ) (hr.in1.mono hk) I2.env0.in1 bt r2 hsp) fun res s' hq => ?_)
  cases res with
  | error e => exact hx σ pins H2 s2 e s' I2 hq
  | ok fl =>
    cases fl with
    | ret w => exact I2.after hq
    | next => exact False.elim hq
    | brk => exact False.elim hq
    | cont => exact False.elim hq
/-- a tuple's iterator at it that has told nothing yet -/
def TuO (l it : Addr) : HO := .ext fun h => h.get? it = some (tupIt l)
theorem tuO_ok {P : Program} {w : World} {H : Hp} {h : Heap} {l it : Addr} (e : h.get? it = some (tupIt l)) : ObjOk P w H h it (TuO l it) := ⟨e, ⟨_, e⟩, fun h1 h2 q k => k _ q⟩
theorem call_iterT : CallR X (.builtin "iter") (fun xs H Q => ∃ (l : Addr) (zs : List V), xs = [.ref l] ∧ SqT X.K H l zs ∧ ∀ it, H it = none → X.s_0.heap.objs.size ≤ it → Q (.ref it) (upd H it (TuO l it))) := by
  intro pins s σ H xs us Q I r h
  obtain ⟨l, zs, rfl, hq, q⟩ := h
  obtain ⟨u, rfl, ru⟩ := vals1 r
  cases ru
  obtain ⟨its, rv, pl, hz⟩ := I.tuple hq
  refine Calls.call_function_entry (by decide +kernel) (by decide +kernel) PySem.W.kdk_entry_iter (PySem.W.kdk_args_iter _) ?_
  unfold Builtin.«iter»
  refine wpAny_bind (m := someArgs "iter" 1 2 _) (wpAny_of_eq (a := [Value.ref l]) (by first | rfl | kernel_rfl!) ?_)
  refine wpAny_bind (m := pyIter (.ref l)) (wpAny_pyIter_tuple (show s.heap.IsTuple l its.toArray from pl) ?_)
  refine wpAny_pure ⟨_, rfl, ?_⟩
  exact ⟨.ref s.heap.objs.size, _, I.laid (t' := s.toks) (fun b u e => Heap.get?_push_of_some _ e) (Nat.le_refl _) (tuO_ok (Heap.get?_push_size _ rfl)), rfl, q _ (I.hok.fresh (Nat.le_refl _)) I.sz⟩
end
/-- a def whose promise knows how great the heap is when it is called -/
structure FnS (P : Program) (w : World) (K : PySem.W.Frag) (mg : Str → Option Value) (base : Heap) (k : Nat) (f : Addr) (fd : FuncData) (ps : List Str) (sp : Nat → Sp) : Prop where
  many : ∀ n vs H Q E, sp n vs H Q E → vs.length = ps.length
  runs : ∀ (A : Around) (outer : List Env) (s : Shared) (H : Hp) (args : Args) (us : List Value) (vs : List V) (Q : VK) (E : XK), Room k A → Env0 P w K mg base A outer s H → BindsTo s fd args (ps.zip us) →
    Vals vs us → sp s.heap.objs.size vs H Q E → codeAny (model P w) A (.call (.ref f) args) (CR CX0 outer P w H s Q E) s
theorem FunS.ok {P : Program} {w : World} {K : PySem.W.Frag} {mg : Str → Option Value} {base : Heap} {x qual : Str} {st : Stmt} {f : Addr} {fd : FuncData} {N ps : List Str} {k : Nat} {sp : Nat → Sp} (F : Fun K x qual st f fd) (S : FnScope N ps (defScope st))
    (many : ∀ n vs H Q E, sp n vs H Q E → vs.length = ps.length)
    (body : ∀ (cdv : Value) (A : Around) (outer : List Env) (s : Shared) (H : Hp) (vs : List V) (Q : VK) (E : XK), Room k (A.deeper (envOfC qual (defScope st) s.heap.objs.size f cdv)) → sp s.heap.objs.size vs H Q E →
      ∃ t, PSs (cxOf CX0 P w K mg base N qual (defScope st) f cdv A outer s H E).nox (defBody st) t ∧ t { nx := fun _ H' => Q .non H', rt := Q } (start N vs) H) : FnS P w K mg base (k + 1) f fd ps sp := by
  obtain ⟨oc, od, kV, doc, pm, an, cdv, ct, osl, rfl, lk, hcd⟩ := F.ex
  constructor
  · exact many
  intro A outer s H args us vs Q E room env bt rv h
  have inK : K.In s.heap := env.mod.kin.keeps fun b o e => (env.bs b o e).1
  refine codeAny_call_function room.depth (inK _ _ lk) rfl S.co S.gen rfl (PySem.W.codeRec_of inK hcd) (bt _ _ _ _ ?_)
  refine wpAny_newFunctionEnv_cells S.kind (fun y hy => ?_) fun own eo s1 x => ?_
  · obtain ⟨n, v⟩ := y
    have hn := (List.of_mem_zip hy).1
    rcases S.par n hn with q | q
    · exact Or.inl q
    · exact Or.inr ⟨q, PySem.W.cellsFrom_some _ _ _ (Or.inl q)⟩
  · subst eo
    have free : s.heap.NoLimit := env.mod.nolimit.keeps fun b o e => (env.bs b o e).1
    refine ⟨free.keeps x.toInCall.keep, codeAny_func ?_⟩
    obtain ⟨t, ht0, hq⟩ := body cdv A outer s H vs Q E (room.deeper _) h
    have ht := ht0.nox
    have J : Inv (cxOf CX0 P w K mg base N qual (defScope st) f cdv A outer s H E) [] (start N vs) H s1 := inv_start S room.hd env (many _ _ _ _ _ h) rv x
    refine wpAny_mono (ht.run [] s1 (start N vs) H _ J hq) (fun fl s' hs => ?_) fun e s' hs => hs
    cases fl with
    | next =>
      obtain ⟨σ', H', J', q⟩ := hs
      exact ⟨V.non, H', J'.os, J'.bare, J'.base, J'.hok, rfl, q⟩
    | ret u =>
      obtain ⟨v, σ', H', J', rv', q⟩ := hs
      exact ⟨v, H', J'.os, J'.bare, J'.base, J'.hok, rv', q⟩
    | brk =>
      obtain ⟨_, _, _, q⟩ := hs
      exact q.elim
    | cont =>
      obtain ⟨_, _, _, q⟩ := hs
      exact q.elim
section
variable {X : Cx} {n k : Nat} {C f : Addr} {fd : FuncData} {ps : List Str} {sp : Nat → Sp}
/-- a loop over an own thing, whose __iter__ tells a tuple's iterator: behind it the iterator is forgotten -/
def iOwnT (K : PySem.W.Frag) (C : Addr) (sp : Nat → Sp) (te : TE) : TI := fun σ H R => te σ H fun x H1 => ∃ (a dx : Addr) (fs : List (Str × V)), x = .ref a ∧ H1 a = some (.ins C dx fs) ∧
  ∀ m, sp m [.ref a] H1 (fun v H2 => ∃ (it l : Addr) (xs : List V), v = .ref it ∧ m ≤ it ∧ H2 it = some (TuO l it) ∧ SqT K H2 l xs ∧ R (Itt K l) (ItX.dropH H2 it)) E0
theorem pi_ownT {tg e : Expr} {te : TE} (F : FnS X.prog X.w X.K X.mg X.base n f fd ps sp) (hr : Room k X.A) (hk : n ≤ k) (hs : PySem.W.findIn X.K (.ref C) "__iter__" = some (some (.ref f))) (hf : PySem.W.isFn X.K (.ref f) = true) (hb : Binds X.K fd ps [])
    (he : PE X e te) : PI X tg e (iOwnT X.K C sp te) := by
  refine ⟨fun pins s σ H R I h => ?_⟩
  refine thn (he.run pins s σ H _ I h) fun v s1 got => ?_
  obtain ⟨x, H1, I1, rx, a, dx, fs, ex, ha, hsp⟩ := got
  subst ex
  cases rx
  obtain ⟨mA, J, _⟩ := ins_get I1.hok ha
  obtain ⟨od, J, _⟩ := J.look
  obtain ⟨m, hF⟩ := I1.fr
  refine PySem.W.owit_iter hF I1.ok.mod.kin J hs hf ?_
  have r1 : Vals [V.ref a] [Value.ref a] := .cons rfl .nil
  have hsp := hsp s1.heap.objs.size
  have hl := F.many _ _ _ _ _ hsp
  have bt := hb s1 [.ref a] I1.kIn (by rw [List.append_nil]; exact hl)
  rw [List.append_nil] at bt
  refine wpAny_call (codeAny_mono (F.runs X.A X.stack s1 H1 ⟨[.ref a], []⟩ [.ref a] [.ref a] _ E0 (hr.mono hk) I1.env0 bt r1 hsp) fun res s' hq => ?_)
  cases res with
  | error e => exact hq.elim
  | ok fl =>
    cases fl with
    | ret w =>
      have hq' := hq
      obtain ⟨v0, H0, os0, bare0, un0, hok0, rv0, q0⟩ := hq'
      obtain ⟨it, l, xs, ev, low, hi, hx, hR⟩ := q0
      subst ev
      cases rv0
      obtain ⟨hh, g, d, t, os'⟩ := s'
      obtain rfl : os' = s1.os := os0
      have I2 : Inv X pins σ H0 { s1 with heap := hh, gens := g, drawn := d, toks := t } := I1.call (h' := hh) (g' := g) (d' := d) (t' := t) (ch := []) un0 hok0 bare0 (fun b z => absurd z (by simp))
      have eo : hh.get? it = some (tupIt l) := (I2.hok it _ hi).1
      have st : hh.IsTupleIter it l 0 := ⟨_, eo, rfl, rfl⟩
      have hi' := hi
      unfold TuO at hi'
      refine wpAny_specialOf (T := "tuple_iterator") st.typeIs PySem.F.slot_tuple_iterator_next.lookup ?_
      refine ⟨it, [it], _, _, ItX.dropH H0 it, rfl, ItX.inv_drop I2 hi', turn_tuple l it, st, fun b hb => ?_, hR⟩
      have e : b = it := by simpa using hb
      rw [e]
      exact ItX.inv_fp I2 hi (Nat.le_trans I1.sz low)
    | next => exact False.elim hq
    | brk => exact False.elim hq
    | cont => exact False.elim hq
end
end Sea
/-! o == t by an own __eq__, t a tuple; o == p of two of the class -/
namespace Sea
open PySem PySem.Spec PyProof.Rows L2
def rOwnEqT (C : Addr) (sp : Sp) : R2 := fun x y H Q => ∃ (a b dx : Addr) (fs : List (Str × V)) (ys : List V), x = .ref a ∧ y = .ref b ∧ H a = some (.ins C dx fs) ∧ H b = some (.tup ys) ∧ sp [.ref a, .ref b] H (fun v H' => (∃ k, v = .bl k) ∧ Q v H') E0
/-- a == b of two instances of the class at C, by its own def -/
def rOwnEq (C : Addr) (sp : Sp) : R2 := fun x y H Q => ∃ (a b dx dy : Addr) (fs gs : List (Str × V)), x = .ref a ∧ y = .ref b ∧ H a = some (.ins C dx fs) ∧ H b = some (.ins C dy gs) ∧ sp [.ref a, .ref b] H (fun v H' => (∃ k, v = .bl k) ∧ Q v H') E0
section
variable {X : Cx} {n k : Nat} {C f : Addr} {fd : FuncData} {ps : List Str} {sp : Sp}
theorem op_ownEqT (F : FnOk X.prog X.w X.K X.mg X.base CX0 n f fd ps sp) (hr : Room k X.A) (hk : n ≤ k) (ht : PySem.W.subIn X.K (.type "tuple") (.ref C) = some false) (hs : PySem.W.findIn X.K (.ref C) "__eq__" = some (some (.ref f))) (hf : PySem.W.isFn X.K (.ref f) = true) (hb : Binds X.K fd ps []) :
    OpR X (compareOp .Eq) (rOwnEqT C sp) := by
  intro pins s σ H x y u v Q I rx ry h
  obtain ⟨a, b, dx, fs, ys, rfl, rfl, ha, hb', hsp⟩ := h
  cases rx
  cases ry
  obtain ⟨mA, J, _⟩ := ins_get I.hok ha
  obtain ⟨od, J, _⟩ := J.look
  obtain ⟨its, _, ⟨o, ho, hcl, _, _⟩, _⟩ := I.tuple (SqT.of hb')
  obtain ⟨m, hF⟩ := I.fr
  have lk : PySem.W.Looks (model X.prog X.w) s.heap (typeOf (.ref b)) (.type "tuple") := hcl ▸ (PySem.W.Looks.ld ho).andThen .now
  show wpAny (model X.prog X.w) X.A (richCompare .Eq (.ref a) (.ref b)) (EP X pins σ Q) X.xe s
  have nf : PySem.W.notFirst X.K C (.type "tuple") = true := by
    unfold PySem.W.notFirst
    rw [ht]
    rfl
  refine PySem.W.cmp_K (op := .Eq) (tb := .type "tuple") hr.units0 hF I.ok.mod.kin J lk nf hs hf ?_
  have r2 : Vals [V.ref a, V.ref b] [Value.ref a, Value.ref b] := .cons rfl (.cons rfl .nil)
  have hl := F.len _ _ _ _ hsp
  have bt := hb s [.ref a, .ref b] I.kIn (by rw [List.append_nil]; exact hl)
  rw [List.append_nil] at bt
  refine wpAny_call (codeAny_mono (F.run X.A X.stack s H ⟨[.ref a, .ref b], []⟩ [.ref a, .ref b] [.ref a, .ref b] _ E0 (hr.mono hk) I.env0 bt r2 hsp) fun r s' hq => ?_)
  cases r with
  | error e => exact hq.elim
  | ok fl =>
    cases fl with
    | ret w =>
      obtain ⟨z, H', I', rz, ⟨kk, ez⟩, q⟩ := I.after hq
      subst ez
      cases rz
      exact ⟨.bl kk, H', I', rfl, q⟩
    | next => exact False.elim hq
    | brk => exact False.elim hq
    | cont => exact False.elim hq
theorem op_ownEq (F : FnOk X.prog X.w X.K X.mg X.base CX0 n f fd ps sp) (hr : Room k X.A) (hk : n ≤ k) (hs : PySem.W.findIn X.K (.ref C) "__eq__" = some (some (.ref f))) (hf : PySem.W.isFn X.K (.ref f) = true) (hb : Binds X.K fd ps []) :
    OpR X (compareOp .Eq) (rOwnEq C sp) := by
  intro pins s σ H x y u v Q I rx ry h
  obtain ⟨a, b, dx, dy, fs, gs, rfl, rfl, ha, hb', hsp⟩ := h
  cases rx
  cases ry
  obtain ⟨mA, J, _⟩ := ins_get I.hok ha
  obtain ⟨mB, J', _⟩ := ins_get I.hok hb'
  obtain ⟨od, J, _⟩ := J.look
  obtain ⟨od', J', _⟩ := J'.look
  obtain ⟨m, hF⟩ := I.fr
  show wpAny (model X.prog X.w) X.A (richCompare .Eq (.ref a) (.ref b)) (EP X pins σ Q) X.xe s
  refine PySem.W.cmp_K (op := .Eq) (tb := .ref C) hr.units0 hF I.ok.mod.kin J J'.type (by simp [PySem.W.notFirst]) hs hf ?_
  have r2 : Vals [V.ref a, V.ref b] [Value.ref a, Value.ref b] := .cons rfl (.cons rfl .nil)
  have hl := F.len _ _ _ _ hsp
  have bt := hb s [.ref a, .ref b] I.kIn (by rw [List.append_nil]; exact hl)
  rw [List.append_nil] at bt
  refine wpAny_call (codeAny_mono (F.run X.A X.stack s H ⟨[.ref a, .ref b], []⟩ [.ref a, .ref b] [.ref a, .ref b] _ E0 (hr.mono hk) I.env0 bt r2 hsp) fun r s' hq => ?_)
  cases r with
  | error e => exact hq.elim
  | ok fl =>
    cases fl with
    | ret w =>
      obtain ⟨z, H', I', rz, ⟨kk, ez⟩, q⟩ := I.after hq
      subst ez
      cases rz
      exact ⟨.bl kk, H', I', rfl, q⟩
    | next => exact False.elim hq
    | brk => exact False.elim hq
    | cont => exact False.elim hq
end
/-! the end: a law that runs where no guard stands -/
end Sea
namespace Sea
open PySem PySem.Spec PyProof.Rows L2
/-! things of any kind, and what the small defs tell of them -/
/-- signs of a text, the percent sign aside -/
def AscP (z : Str) : Prop := ∀ c ∈ cp z, 32 ≤ c ∧ c ≤ 126 ∧ c ≠ 37
/-- a thing that is no tuple and no list -/
def Sc (x : V) (d : PyData) : Prop :=
  match d with
  | .none => x = .non
  | .bool b => x = .bl b
  | .int i => x = .int i ∧ i.natAbs < 10 ^ 40
  | .str z => x = .str z ∧ z.length ≤ 100 ∧ AscP z
  | _ => False
/-- a thing: l, whether lists may stand in it; ms, how many items at most, from outside in -/
def Th (l : Bool) : List Nat → Hp → V → PyData → Prop
  | [], _, x, d => Sc x d
  | m :: r, H, x, d => Sc x d ∨ ∃ (a : Addr) (xs : List V) (ds : List PyData), x = .ref a ∧ ds.length ≤ m ∧ Paired (Th l r H) xs ds ∧
      ((d = .tuple ds ∧ H a = some (.tup xs)) ∨ (l = true ∧ d = .list ds ∧ H a = some (.lst xs)))
/-- tuples stay -/
def KT (H H' : Hp) : Prop := ∀ a xs, H a = some (.tup xs) → H' a = some (.tup xs)
theorem KT.refl (H : Hp) : KT H H := fun _ _ h => h
theorem KT.trans {H H1 H2 : Hp} (a : KT H H1) (b : KT H1 H2) : KT H H2 := fun _ _ h => b _ _ (a _ _ h)
theorem KT.of_same {H H' : Hp} (s : Same H H') : KT H H' := fun _ _ h => s _ _ h
theorem KB.kt {tp cl : Addr} {ns : List Int} {H H' : Hp} (k : KB tp H H') (T : Tape H tp cl ns) : KT H H' := fun a xs h => by
  refine k _ _ (fun z => ?_) h
  obtain ⟨i, r, y, c, q, _⟩ := T.ex
  rw [z, q] at h
  cases h
theorem KT.over {H H' : Hp} {D : Addr} {ys zs : List V} (k : KT H H') (h : H' D = some (.lst ys)) : KT H (upd H' D (.lst zs)) := fun a xs e => by
  have e1 := k _ _ e
  rw [upd_ne (fun z => by rw [z, h] at e1; cases e1)]
  exact e1
theorem KT.new {H H' : Hp} {D : Addr} {o : HO} (k : KT H H') (h : H' D = none) : KT H (upd H' D o) := fun a xs e => by
  have e1 := k _ _ e
  rw [upd_ne (fun z => by rw [z, h] at e1; cases e1)]
  exact e1
theorem paired_imp {α β : Type} {R S : α → β → Prop} (h : ∀ a b, R a b → S a b) : ∀ {l : List α} {r : List β}, Paired R l r → Paired S l r
  | _, _, .nil => .nil
  | _, _, .cons a b => .cons (h _ _ a) (paired_imp h b)
theorem Th.keep {l : Bool} : ∀ {ms : List Nat} {H H' : Hp} {x : V} {d : PyData}, Th l ms H x d → Same H H' → Th l ms H' x d
  | [], _, _, _, _, h, _ => h
  | m :: r, H, H', x, d, h, s => by
    rcases h with h | ⟨a, xs, ds, h1, h2, h3, h4⟩
    · exact .inl h
    · refine .inr ⟨a, xs, ds, h1, h2, paired_imp (fun _ _ q => q.keep s) h3, ?_⟩
      rcases h4 with ⟨e, h⟩ | ⟨e1, e, h⟩
      · exact .inl ⟨e, s _ _ h⟩
      · exact .inr ⟨e1, e, s _ _ h⟩
theorem Th.kt : ∀ {ms : List Nat} {H H' : Hp} {x : V} {d : PyData}, Th false ms H x d → KT H H' → Th false ms H' x d
  | [], _, _, _, _, h, _ => h
  | m :: r, H, H', x, d, h, s => by
    rcases h with h | ⟨a, xs, ds, h1, h2, h3, h4⟩
    · exact .inl h
    · refine .inr ⟨a, xs, ds, h1, h2, paired_imp (fun _ _ q => q.kt s) h3, ?_⟩
      rcases h4 with ⟨e, h⟩ | ⟨e1, _⟩
      · exact .inl ⟨e, s _ _ h⟩
      · cases e1
theorem Th.up : ∀ {ms : List Nat} {H : Hp} {x : V} {d : PyData}, Th false ms H x d → Th true ms H x d
  | [], _, _, _, h => h
  | m :: r, H, x, d, h => by
    rcases h with h | ⟨a, xs, ds, h1, h2, h3, h4⟩
    · exact .inl h
    · refine .inr ⟨a, xs, ds, h1, h2, paired_imp (fun _ _ q => q.up) h3, ?_⟩
      rcases h4 with ⟨e, h⟩ | ⟨e1, _⟩
      · exact .inl ⟨e, h⟩
      · cases e1
theorem Th.more {l : Bool} {m n : Nat} {r : List Nat} {H : Hp} {x : V} {d : PyData} (h : Th l (m :: r) H x d) (hm : m ≤ n) : Th l (n :: r) H x d := by
  rcases h with h | ⟨a, xs, ds, h1, h2, h3⟩
  · exact .inl h
  · exact .inr ⟨a, xs, ds, h1, Nat.le_trans h2 hm, h3⟩
theorem Sc.th {l : Bool} {ms : List Nat} {H : Hp} {x : V} {d : PyData} (h : Sc x d) : Th l ms H x d := by
  cases ms with
  | nil => exact h
  | cons m r => exact .inl h
theorem Sc.plain {x : V} {d : PyData} (h : Sc x d) : Plain x := by
  cases d with
  | none => rw [show x = .non from h]; trivial
  | bool b => rw [show x = .bl b from h]; trivial
  | int i => rw [h.1]; trivial
  | str z => rw [h.1]; trivial
  | tuple ds => exact h.elim
  | list ds => exact h.elim
  | dict ds => exact h.elim
theorem Th.any {l : Bool} {ms : List Nat} {H : Hp} {x : V} {d : PyData} (h : Th l ms H x d) : AnyV H x := by
  cases ms with
  | nil => exact .inl (Sc.plain h)
  | cons m r =>
    rcases h with h | ⟨a, xs, ds, h1, h2, h3, h4⟩
    · exact .inl h.plain
    · rcases h4 with ⟨_, h⟩ | ⟨_, _, h⟩
      · exact .inr ⟨a, xs, h1, .inr h⟩
      · exact .inr ⟨a, xs, h1, .inl h⟩
theorem Th.sc {l : Bool} {ms : List Nat} {H : Hp} {x : V} {d : PyData} (h : Th l ms H x d) (hx : Plain x) : Sc x d := by
  cases ms with
  | nil => exact h
  | cons m r =>
    rcases h with h | ⟨a, xs, ds, h1, h2, h3, h4⟩
    · exact h
    · rw [h1] at hx
      exact hx.elim
theorem paired_dp {K : PySem.W.Frag} {H : Hp} {R : V → PyData → Prop} (h : ∀ a b, R a b → Dp K H a b) : ∀ {l : List V} {r : List PyData}, Paired R l r → DpAll K H l r
  | _, _, .nil => .nil
  | _, _, .cons a b => .cons (h _ _ a) (paired_dp h b)
theorem Sc.dp {K : PySem.W.Frag} {H : Hp} {x : V} {d : PyData} (h : Sc x d) : Dp K H x d := by
  cases d with
  | none => rw [show x = .non from h]; exact .non
  | bool b => rw [show x = .bl b from h]; exact .bl b
  | int i => rw [h.1]; exact .int i
  | str z => rw [h.1]; exact .str z
  | tuple ds => exact h.elim
  | list ds => exact h.elim
  | dict ds => exact h.elim
theorem Th.dp {K : PySem.W.Frag} {l : Bool} : ∀ {ms : List Nat} {H : Hp} {x : V} {d : PyData}, Th l ms H x d → Dp K H x d
  | [], _, _, _, h => Sc.dp h
  | m :: r, H, x, d, h => by
    rcases h with h | ⟨a, xs, ds, h1, h2, h3, h4⟩
    · exact h.dp
    · have hd := paired_dp (K := K) (fun _ _ q => Th.dp (ms := r) q) h3
      rw [h1]
      rcases h4 with ⟨e, h⟩ | ⟨_, e, h⟩
      · rw [e]
        exact .tup (SqT.of h) hd
      · rw [e]
        exact .lst (SqL.of h) hd
/-! how great it is when it is shown -/
def sizeB : List Nat → Nat
  | [] => 1010
  | m :: r => 1010 + m * (sizeB r + 2) + 3
theorem pow40 {i : Int} (h : i.natAbs < 10 ^ 40) : i.natAbs.log2 < 1920 := by
  by_cases z : i.natAbs = 0
  · rw [z]
    decide
  · exact Nat.lt_of_lt_of_le ((Nat.log2_lt (k := 140) z).mpr (Nat.lt_of_lt_of_le h (by decide))) (by decide)
structure ShowD (d : PyData) (n k : Nat) : Prop where
  ok : d.showable = true
  nd : d.hasDict = false
  dp : d.depth ≤ k
  sz : d.shown.length ≤ n
theorem ascp_big {z : Str} (h : AscP z) : ∀ c ∈ z.cps.toList, c < 16 ^ 8 := fun c hc => by
  have := h c hc
  have e : (16 : Nat) ^ 8 = 4294967296 := by decide
  rw [e]
  omega
theorem int_show {i : Int} (h : i.natAbs < 10 ^ 40) : ((toString i : String) : Str).length ≤ 1010 := by
  have e := int_text_length_le10 (a := i) (k := 40) (by decide) h
  have e2 : ((toString i : String) : Str).length = (toString i).length := PySem.ofString_length _
  rw [e2]
  omega
theorem Sc.show {x : V} {d : PyData} (h : Sc x d) : ShowD d 1010 0 := by
  cases d with
  | none => exact ⟨rfl, rfl, Nat.le_refl _, by decide +kernel⟩
  | bool b => exact ⟨rfl, rfl, Nat.le_refl _, by cases b <;> decide +kernel⟩
  | int i => exact ⟨decide_eq_true (pow40 h.2), rfl, Nat.le_refl _, int_show h.2⟩
  | str z =>
    refine ⟨rfl, rfl, Nat.le_refl _, ?_⟩
    have := StrLaws.reprText_len z (ascp_big h.2.2)
    have h2 := h.2.1
    show (reprText z).length ≤ 1010
    omega
  | tuple ds => exact h.elim
  | list ds => exact h.elim
  | dict ds => exact h.elim
theorem all_show {R : V → PyData → Prop} {n k : Nat} (h : ∀ a b, R a b → ShowD b n k) : ∀ {l : List V} {r : List PyData}, Paired R l r →
    PyData.showableAll r = true ∧ PyData.hasDictAll r = false ∧ PyData.depthAll r ≤ k ∧ ((PyData.shownAll r).map (·.length)).sum ≤ r.length * n ∧ (PyData.shownAll r).length = r.length
  | _, _, .nil => ⟨rfl, rfl, Nat.zero_le _, Nat.zero_le _, rfl⟩
  | _, d :: r, .cons (l₁ := vs) a b => by
    obtain ⟨q1, q2, q3, q4, q5⟩ := all_show h b
    have g := h _ _ a
    refine ⟨?_, ?_, ?_, ?_, ?_⟩
    · show (d.showable && PyData.showableAll r) = true
      rw [g.ok, q1]
      rfl
    · show (d.hasDict || PyData.hasDictAll r) = false
      rw [g.nd, q2]
      rfl
    · show max d.depth (PyData.depthAll r) ≤ k
      have := g.dp
      omega
    · show (List.map (·.length) (d.shown :: PyData.shownAll r)).sum ≤ _
      rw [List.map_cons, List.sum_cons, List.length_cons, Nat.succ_mul]
      have := g.sz
      omega
    · show (d.shown :: PyData.shownAll r).length = _
      rw [List.length_cons, List.length_cons, q5]
theorem sizeB_up : ∀ ms : List Nat, 1010 ≤ sizeB ms
  | [] => Nat.le_refl _
  | m :: r => by
    show 1010 ≤ 1010 + m * (sizeB r + 2) + 3
    omega
theorem Th.show {l : Bool} : ∀ {ms : List Nat} {H : Hp} {x : V} {d : PyData}, Th l ms H x d → ShowD d (sizeB ms) ms.length
  | [], _, _, _, h => Sc.show h
  | m :: r, H, x, d, h => by
    rcases h with h | ⟨a, xs, ds, h1, h2, h3, h4⟩
    · obtain ⟨a1, a2, a3, a4⟩ := h.show
      exact ⟨a1, a2, by omega, Nat.le_trans a4 (sizeB_up _)⟩
    · obtain ⟨q1, q2, q3, q4, q5⟩ := all_show (fun _ _ q => Th.show (ms := r) q) h3
      have e1 : ds.length * sizeB r ≤ m * sizeB r := Nat.mul_le_mul_right _ h2
      have e2 : m * (sizeB r + 2) = m * sizeB r + m * 2 := Nat.mul_add _ _ _
      have e3 := PySem.tupleText_len_le (PyData.shownAll ds)
      have e4 := PySem.listText_len_le (PyData.shownAll ds)
      rcases h4 with ⟨e, _⟩ | ⟨_, e, _⟩ <;> rw [e]
      · refine ⟨q1, q2, ?_, ?_⟩
        · show PyData.depthAll ds + 1 ≤ r.length + 1
          omega
        · show (tupleText (PyData.shownAll ds)).length ≤ 1010 + m * (sizeB r + 2) + 3
          omega
      · refine ⟨q1, q2, ?_, ?_⟩
        · show PyData.depthAll ds + 1 ≤ r.length + 1
          omega
        · show (listText (PyData.shownAll ds)).length ≤ 1010 + m * (sizeB r + 2) + 3
          omega
end Sea
namespace Sea
open PySem PySem.Spec PyProof.Rows L2
/-! the small defs of the program at things of any kind -/
abbrev LET : Str := Str.ofString "abcdefghijklmnopqrstuvwxyz"
theorem let_cp : cp LET = (List.range 26).map (· + 97) := by decide +kernel
theorem in_let {c : Nat} : c ∈ cp LET ↔ 97 ≤ c ∧ c ≤ 122 := by
  rw [let_cp, List.mem_map]
  constructor
  · rintro ⟨a, ha, rfl⟩
    have := List.mem_range.mp ha
    omega
  · intro h
    exact ⟨c - 97, List.mem_range.mpr (by omega), by omega⟩
structure NameW (l : List Nat) : Prop where
  some : 1 ≤ l.length
  most : l.length ≤ 8
  sign : ∀ c ∈ l, 97 ≤ c ∧ c ≤ 122
open Classical in
noncomputable def nameV : V → Bool
  | .str z => decide (NameW (cp z))
  | _ => false
open Classical in
theorem nameV_no {z : Str} (h : ¬ NameW (cp z)) : nameV (.str z) = false := decide_eq_false h
open Classical in
theorem nameV_yes {z : Str} (h : NameW (cp z)) : nameV (.str z) = true := decide_eq_true h
def spIsIntA : Sp := fun vs H Q _ => ∃ x, vs = [x] ∧ AnyV H x ∧ Q (.bl (isInt x)) H
def spWithinA : Sp := fun vs H Q _ => ∃ x lo hi, vs = [x, .int lo, .int hi] ∧ AnyV H x ∧ Q (.bl (inside x lo hi)) H
/-- the empty tuple that stands for a default, in the written part -/
def DfT (K : PySem.W.Frag) (a : Addr) : Prop := ∃ o n, K.lookup a = some o ∧ o.cls = .type "tuple" ∧ o.data = .seq #[] n
theorem DfT.sq {K : PySem.W.Frag} {H : Hp} {a : Addr} (h : DfT K a) : SqT K H a [] := by
  obtain ⟨o, n, h1, h2, h3⟩ := h
  exact .inr ⟨o, #[], n, h1, h2, h3, Nat.zero_le _, .nil⟩
theorem DfT.ty {K : PySem.W.Frag} {H : Hp} {a : Addr} (h : DfT K a) : TyX K H (.ref a) (.type "tuple") := by
  obtain ⟨o, n, h1, h2, h3⟩ := h
  exact .kTuple h1 h2
def spItemsA (K : PySem.W.Frag) : Sp := fun vs H Q _ => ∃ x, vs = [x] ∧ ((Plain x ∧ ∀ H', Same H H' → Q .non H') ∨ (∃ a, x = .ref a ∧ DfT K a ∧ ∀ H', Same H H' → Q (.ref a) H') ∨ ∃ a xs, x = .ref a ∧ (H a = some (.tup xs) ∨ H a = some (.lst xs)) ∧ ∀ H' t, Same H H' → H' t = some (.tup xs) → Q (.ref t) H')
def spPartsA : Sp := fun vs H Q _ => ∃ x n, vs = [x, .int n] ∧ ((Plain x ∧ ∀ H', Same H H' → Q .non H') ∨ ∃ a xs, x = .ref a ∧ (H a = some (.tup xs) ∨ H a = some (.lst xs)) ∧ xs.length ≤ 1000 ∧
  ((xs.length : Int) = n → ∀ H' t, Same H H' → H' t = some (.tup xs) → Q (.ref t) H') ∧ ((xs.length : Int) ≠ n → ∀ H', Same H H' → Q .non H'))
noncomputable def spNameA : Sp := fun vs H Q _ => ∃ x, vs = [x] ∧ AnyV H x ∧ (∀ z, x = .str z → z.length ≤ 2000) ∧ ∀ H', Same H H' → Q (.bl (nameV x)) H'
theorem small3 {n : Nat} (h : n ≤ 2000) : n ≤ sizeLine := by
  rw [sizeLine_eq]
  omega
theorem all_reps (l : List Nat) (p : Nat → Bool) : ((l.map fun c => p c).all id) = l.all p := by
  rw [List.all_map]
  rfl
section
variable {P : Program} {w : World} {K : PySem.W.Frag} {mg : Str → Option Value} {base : Heap}
theorem ok_is_integerA {f : Addr} {fd : FuncData} (F : Fun K "is_integer" "is_integer" s_is_integer f fd)
    (m_isinstance : mg "isinstance" = none) (m_int : mg "int" = none) (m_bool : mg "bool" = none) : FnOk P w K mg base CX0 1 f fd ["thing"] spIsIntA := by
  refine F.ok sc_is_integer (fun vs H Q E h => ?_) (fun cdv A outer s H vs Q E hr h => ?_)
  · obtain ⟨x, rfl, _⟩ := h
    rfl
  · obtain ⟨x, rfl, hp, q⟩ := h
    refine ⟨_, (pss_one (ps_ret (pe_and (pe_callB call_isi (by rfl) m_isinstance (by decide +kernel) (pa_cons (pv 0) (pa_cons (pe_bltn (v := .ty "int") (by rfl) m_int (by decide +kernel) rfl) pa_nil))) (pe_one (pe_not (pe_callB call_isi (by rfl) m_isinstance (by decide +kernel) (pa_cons (pv 0) (pa_cons (pe_bltn (v := .ty "bool") (by rfl) m_bool (by decide +kernel) rfl) pa_nil)))))))), ?_⟩
    cases x with
    | int i => exact ⟨_, rfl, _, _, _, _, true, rfl, .ty _, .base (.int i), kit_ty (by decide +kernel), true, rfl, iteT ⟨_, rfl, _, _, _, _, false, rfl, .ty _, .base (.int i), kit_ty (by decide +kernel), false, rfl, q⟩⟩
    | bl b => exact ⟨_, rfl, _, _, _, _, true, rfl, .ty _, .base (.bl b), kit_ty (by decide +kernel), true, rfl, iteT ⟨_, rfl, _, _, _, _, true, rfl, .ty _, .base (.bl b), kit_ty (by decide +kernel), true, rfl, q⟩⟩
    | non => exact ⟨_, rfl, _, _, _, _, false, rfl, .ty _, .base .non, kit_ty (by decide +kernel), false, rfl, iteF q⟩
    | str z => exact ⟨_, rfl, _, _, _, _, false, rfl, .ty _, .base (.str z), kit_ty (by decide +kernel), false, rfl, iteF q⟩
    | ref a =>
      rcases hp with hp | ⟨a', xs, ea, hl | hl⟩
      · exact hp.elim
      · cases ea
        exact ⟨_, rfl, _, _, _, _, false, rfl, .ty _, .base (.lst hl), kit_ty (by decide +kernel), false, rfl, iteF q⟩
      · cases ea
        exact ⟨_, rfl, _, _, _, _, false, rfl, .ty _, .base (.tup hl), kit_ty (by decide +kernel), false, rfl, iteF q⟩
    | byt z => rcases hp with hp | ⟨a', xs, ea, _⟩ <;> first | exact hp.elim | cases ea
    | flt z => rcases hp with hp | ⟨a', xs, ea, _⟩ <;> first | exact hp.elim | cases ea
    | ty z => rcases hp with hp | ⟨a', xs, ea, _⟩ <;> first | exact hp.elim | cases ea
theorem ok_is_withinA {f : Addr} {fd : FuncData} (F : Fun K "is_within" "is_within" s_is_within f fd)
    (c_is_integer : Cal P w K mg base 1 "is_integer" spIsIntA) : FnOk P w K mg base CX0 2 f fd ["thing", "low", "high"] spWithinA := by
  refine F.ok sc_is_within (fun vs H Q E h => ?_) (fun cdv A outer s H vs Q E hr h => ?_)
  · obtain ⟨x, lo, hi, rfl, _⟩ := h
    rfl
  · obtain ⟨x, lo, hi, rfl, hp, q⟩ := h
    refine ⟨_, (pss_one (ps_ret (pe_and (pe_c c_is_integer hr (by decide) rfl (pa_cons (pv 0) pa_nil)) (pe_one (pe_chain op_le op_le (pv 1) (pv 0) (pv 2)))))), ?_⟩
    refine ⟨_, rfl, x, rfl, hp, ?_⟩
    cases x with
    | int i =>
      refine ⟨true, rfl, iteT ⟨_, rfl, _, rfl, _, _, rfl, rfl, _, rfl, ?_⟩⟩
      refine ite2 (fun e => ?_) (fun e => ?_)
      · refine ⟨_, rfl, _, _, rfl, rfl, ?_⟩
        have q' : Q (.bl (decide (lo ≤ i) && decide (i ≤ hi))) H := q
        rw [e, Bool.true_and] at q'
        exact q'
      · have q' : Q (.bl (decide (lo ≤ i) && decide (i ≤ hi))) H := q
        rw [Bool.eq_false_iff.mpr e, Bool.false_and] at q'
        exact q'
    | _ => exact ⟨false, rfl, iteF q⟩
theorem ok_items_ofA {f : Addr} {fd : FuncData} (F : Fun K "items_of" "items_of" s_items_of f fd) (m_isinstance : mg "isinstance" = none) (m_tuple : mg "tuple" = none) (m_list : mg "list" = none) :
    FnOk P w K mg base CX0 1 f fd ["thing"] (spItemsA K) := by
  refine F.ok sc_items_of (fun vs H Q E h => ?_) (fun cdv A outer s H vs Q E hr h => ?_)
  · obtain ⟨x, rfl, _⟩ := h
    rfl
  · obtain ⟨x, rfl, hx⟩ := h
    refine ⟨_, (pss_cons (ps_if (pt_val (pe_callB call_isiT (by rfl) m_isinstance (by decide +kernel) (pa_cons (pv 0) (pa_cons (pe_tup (pa_cons (pe_bltn (v := .ty "tuple") (by rfl) m_tuple (by decide +kernel) rfl) (pa_cons (pe_bltn (v := .ty "list") (by rfl) m_list (by decide +kernel) rfl) pa_nil))) pa_nil))))
    (pss_one (ps_ret (pe_callTy call_tuple_of (by rfl) m_tuple (by decide +kernel) (pa_cons (pv 0) pa_nil))))
    pss_nil)
    (pss_one (ps_ret (pe_non)))), ?_⟩
    refine ⟨_, rfl, (by show 2 ≤ sizeLine; decide), fun p hp => ?_⟩
    have sp := same_new (o := .tup [V.ty "tuple", V.ty "list"]) hp
    have noB : ∀ {t : String}, kitB t "tuple" = some false → kitB t "list" = some false → PySem.W.kitAny K (.type t) [.type "tuple", .type "list"] = some false := fun {t} h1 h2 =>
      kitAny_cons (b := false) (kit_ty h1) (fun _ => kitAny_cons (b := false) (kit_ty h2) (fun _ => rfl) (fun z => nomatch z)) (fun z => nomatch z)
    rcases hx with ⟨hx, q⟩ | ⟨a, rfl, hdf, q⟩ | ⟨a, xs, rfl, ha | ha, q⟩
    · have q' := q _ sp
      cases x with
      | int i => exact ⟨_, p, _, _, _, false, rfl, upd_same, .cons (.ty _) (.cons (.ty _) .nil), .base (.int i), noB (by decide +kernel) (by decide +kernel), false, rfl, q'⟩
      | bl b => exact ⟨_, p, _, _, _, false, rfl, upd_same, .cons (.ty _) (.cons (.ty _) .nil), .base (.bl b), noB (by decide +kernel) (by decide +kernel), false, rfl, q'⟩
      | non => exact ⟨_, p, _, _, _, false, rfl, upd_same, .cons (.ty _) (.cons (.ty _) .nil), .base .non, noB (by decide +kernel) (by decide +kernel), false, rfl, q'⟩
      | str z => exact ⟨_, p, _, _, _, false, rfl, upd_same, .cons (.ty _) (.cons (.ty _) .nil), .base (.str z), noB (by decide +kernel) (by decide +kernel), false, rfl, q'⟩
      | ref a => exact hx.elim
      | byt z => exact hx.elim
      | flt z => exact hx.elim
      | ty z => exact hx.elim
    · exact ⟨_, p, _, _, _, true, rfl, upd_same, .cons (.ty _) (.cons (.ty _) .nil), hdf.ty, kitAny_cons (b := true) (kit_ty (by decide +kernel)) (fun z => nomatch z) (fun _ => rfl), true, rfl,
        _, rfl, a, [], rfl, .inr ⟨hdf.sq, q _ sp⟩⟩
    · exact ⟨_, p, _, _, _, true, rfl, upd_same, .cons (.ty _) (.cons (.ty _) .nil), .base (.tup (sp _ _ ha)), kitAny_cons (b := true) (kit_ty (by decide +kernel)) (fun z => nomatch z) (fun _ => rfl), true, rfl,
        _, rfl, a, xs, rfl, .inr ⟨SqT.of (sp _ _ ha), q _ a sp (sp _ _ ha)⟩⟩
    · exact ⟨_, p, _, _, _, true, rfl, upd_same, .cons (.ty _) (.cons (.ty _) .nil), .base (.lst (sp _ _ ha)), kitAny_cons (b := false) (kit_ty (by decide +kernel)) (fun _ => kitAny_cons (b := true) (kit_ty (by decide +kernel)) (fun z => nomatch z) (fun _ => rfl)) (fun z => nomatch z), true, rfl,
        _, rfl, a, xs, rfl, .inl ⟨SqL.of (sp _ _ ha), fun l hl => q _ l (sp.trans (same_new hl)) upd_same⟩⟩
theorem ok_parts_ofA {f : Addr} {fd : FuncData} (F : Fun K "parts_of" "parts_of" s_parts_of f fd) (m_len : mg "len" = none) (c_items_of : Cal P w K mg base 1 "items_of" (spItemsA K)) :
    FnOk P w K mg base CX0 2 f fd ["thing", "many"] spPartsA := by
  refine F.ok sc_parts_of (fun vs H Q E h => ?_) (fun cdv A outer s H vs Q E hr h => ?_)
  · obtain ⟨x, n, rfl, _⟩ := h
    rfl
  · obtain ⟨x, n, rfl, hx⟩ := h
    refine ⟨_, (pss_cons (ps_set (i := 2) sc_parts_of.nd rfl (Or.inl rfl) (pe_c c_items_of hr (by decide) rfl (pa_cons (pv 0) pa_nil)))
    (pss_cons (ps_if (PW.pt (pw_or (pt_cmpR op_isN (pv 2) (pe_non) (nomark _)) (pw_or1 (pt_cmpR op_ne (pe_callB call_len (by rfl) m_len (by decide +kernel) (pa_cons (pv 2) pa_nil)) (pv 1) (nomark _)))))
    (pss_one (ps_ret (pe_non)))
    pss_nil)
    (pss_one (ps_ret (pv 2))))), ?_⟩
    rcases hx with ⟨hx, q⟩ | ⟨a, xs, rfl, ha, hl, q1, q2⟩
    · exact ⟨_, rfl, x, rfl, .inl ⟨hx, fun H1 s1 => ⟨_, rfl, rfl, _, rfl, q H1 s1⟩⟩⟩
    · refine ⟨_, rfl, .ref a, rfl, .inr (.inr ⟨a, xs, rfl, ha, fun H1 t s1 h1 => ?_⟩)⟩
      refine ⟨_, rfl, rfl, _, rfl, _, rfl, _, xs.length, rfl, .inr ⟨_, SqT.of h1, rfl⟩, _, rfl, rfl, _, rfl, ?_⟩
      by_cases e : (xs.length : Int) = n
      · rw [e, decide_eq_true rfl]
        exact ⟨_, rfl, q1 e H1 t s1 h1⟩
      · rw [decide_eq_false (fun z => e (V.int.inj z))]
        exact q2 e H1 s1
theorem ok_is_nameA {f : Addr} {fd : FuncData} (F : Fun K "is_name" "is_name" s_is_name f fd) (m_isinstance : mg "isinstance" = none) (m_str : mg "str" = none) (m_len : mg "len" = none) (m_all : mg "all" = none)
    {t : Tok} (g_LETTERS : mg "LETTERS" = some (.str LET t)) : FnOk P w K mg base CX0 1 f fd ["thing"] spNameA := by
  refine F.ok sc_is_name (fun vs H Q E h => ?_) (fun cdv A outer s H vs Q E hr h => ?_)
  · obtain ⟨x, rfl, _⟩ := h
    rfl
  · obtain ⟨x, rfl, hany, hsz, q⟩ := h
    refine ⟨_, (pss_cons (ps_if (PW.pt (pw_or (pt_not (pt_val (pe_callB call_isi (by rfl) m_isinstance (by decide +kernel) (pa_cons (pv 0) (pa_cons (pe_bltn (v := .ty "str") (by rfl) m_str (by decide +kernel) rfl) pa_nil))))) (pw_or1 (pt_not (pt_chain op_le op_le (pe_int) (pe_callB call_len (by rfl) m_len (by decide +kernel) (pa_cons (pv 0) pa_nil)) (pe_int))))))
    (pss_one (ps_ret (pe_bl)))
    pss_nil)
    (pss_one (ps_ret (pe_callB (cr_all rfl) (by rfl) m_all (by decide +kernel) (pa_cons (pe_lc (own := [("sign", 1)]) rfl sc_is_name.nd (pi_str (pv 0)) (blkOk_by (N := N_is_name) (sc := defScope s_is_name) (by decide +kernel)) (fun _ _ _ _ _ => (pg_name (i := 1) sc_is_name.nd rfl (Or.inl rfl))) (fun _ _ _ _ _ => pts_nil) (fun _ _ _ _ _ => (pe_cmpR op_in_sign (pv 1) (pe_glob (v := .str LET) rfl g_LETTERS ⟨_, rfl⟩) rfl))) pa_nil))))), ?_⟩
    cases x with
    | int i => exact ⟨_, rfl, _, _, _, _, false, rfl, .ty _, .base (.int i), kit_ty (by decide +kernel), false, rfl, q H (Same.refl H)⟩
    | bl b => exact ⟨_, rfl, _, _, _, _, false, rfl, .ty _, .base (.bl b), kit_ty (by decide +kernel), false, rfl, q H (Same.refl H)⟩
    | non => exact ⟨_, rfl, _, _, _, _, false, rfl, .ty _, .base .non, kit_ty (by decide +kernel), false, rfl, q H (Same.refl H)⟩
    | ref a =>
      rcases hany with hp | ⟨a', xs, ea, hl | hl⟩
      · exact hp.elim
      · cases ea
        exact ⟨_, rfl, _, _, _, _, false, rfl, .ty _, .base (.lst hl), kit_ty (by decide +kernel), false, rfl, q H (Same.refl H)⟩
      · cases ea
        exact ⟨_, rfl, _, _, _, _, false, rfl, .ty _, .base (.tup hl), kit_ty (by decide +kernel), false, rfl, q H (Same.refl H)⟩
    | byt z => rcases hany with hp | ⟨a', xs, ea, _⟩ <;> first | exact hp.elim | cases ea
    | flt z => rcases hany with hp | ⟨a', xs, ea, _⟩ <;> first | exact hp.elim | cases ea
    | ty z => rcases hany with hp | ⟨a', xs, ea, _⟩ <;> first | exact hp.elim | cases ea
    | str z =>
      have hz : z.length ≤ 2000 := hsz z rfl
      have hzl := small3 hz
      have no : ∀ H', Same H H' → ¬ NameW (cp z) → Q (.bl false) H' := fun H' hs hg => by
        have q' := q H' hs
        rw [nameV_no hg] at q'
        exact q'
      refine ⟨_, rfl, _, _, _, _, true, rfl, .ty _, .base (.str z), kit_ty (by decide +kernel), true, rfl, ?_⟩
      refine ⟨_, rfl, _, z.length, rfl, ⟨hzl, rfl⟩, _, _, rfl, rfl, _, rfl, ite2 (fun h1 => ⟨_, _, rfl, rfl, _, rfl, ?_⟩) (fun h1 => ⟨_, rfl, no H (Same.refl H) fun g => ?_⟩)⟩
      · by_cases h8 : ((z.length : Nat) : Int) ≤ 8
        · rw [decide_eq_true h8]
          refine ⟨_, rfl, z, rfl, fun D hD => ?_⟩
          refine lc_it walk_str (fun i H' => Same H H' ∧ H' D = some (.lst ((((cp z).take i).map fun c => decide (c ∈ cp LET)).map V.bl))) ⟨same_new hD, by rw [List.take_zero]; exact upd_same⟩ (fun _ _ _ _ => trivial) ?_ ?_
          · rintro i x Ha Hb hi ⟨hs, hd⟩ ⟨rfl, c, hc, rfl⟩
            have hc' : (cp z)[i]? = some c := by rw [Array.getElem?_toList]; exact hc
            refine ⟨rfl, _, rfl, c, LET, rfl, rfl, _, hd, ?_, same_over hs hD, ?_⟩
            · rw [List.length_map, List.length_map, List.length_take]
              have hi' : i < z.length := hi
              exact small_line (by omega)
            · rw [upd_same, List.take_add_one, hc', List.map_append, List.map_append]
              rfl
          · rintro H' ⟨hs, hd⟩
            have e0 : (cp z).take z.cps.size = cp z := List.take_of_length_le (by rw [cp_len]; exact Nat.le_refl _)
            rw [e0] at hd
            have q' := q H' hs
            have e : ((cp z).map fun c => decide (c ∈ cp LET)).all id = nameV (.str z) := by
              rw [all_reps]
              by_cases g : NameW (cp z)
              · rw [nameV_yes g]
                exact List.all_eq_true.mpr fun c hc => decide_eq_true (in_let.mpr (g.sign c hc))
              · rw [nameV_no g, Bool.eq_false_iff]
                intro t
                refine g ⟨?_, ?_, fun c hc => in_let.mp (of_decide_eq_true (List.all_eq_true.mp t c hc))⟩
                · rw [cp_len]
                  have := of_decide_eq_true h1
                  omega
                · rw [cp_len]
                  omega
            refine ⟨D, _, rfl, SqL.of hd, ?_⟩
            rw [e]
            exact q'
        · rw [decide_eq_false h8]
          refine no H (Same.refl H) fun g => h8 ?_
          have := g.most
          rw [cp_len] at this
          omega
      · have := g.some
        rw [cp_len] at this
        exact h1 (decide_eq_true (by omega))
end
end Sea
namespace Sea
open PySem PySem.Spec PyProof.Rows L2
/-! cues of any kind -/
structure Cue where
  s : Int
  e : Int
  nm : Str
  tx : Str
  deriving DecidableEq
def Cue.vs (c : Cue) : List V := [.int c.s, .int c.e, .str c.nm, .str c.tx]
/-- the items of a tuple or a list -/
def seqD : PyData → Option (List PyData)
  | .tuple ds => some ds
  | .list ds => some ds
  | _ => none
/-- a thing's parts, as a cue's -/
def cueD (d : PyData) : Option Cue :=
  match seqD d with
  | some [.int s, .int e, .str n, .str t] => some ⟨s, e, n, t⟩
  | _ => none
structure GoodC (lo len : Int) (c : Cue) : Prop where
  nm : NameW (cp c.nm)
  tx : Good (cp c.tx)
  lo : lo ≤ c.s
  lt : c.s < c.e
  hi : c.e ≤ len
open Classical in
/-- whether a thing can stand as a cue from lo on in a reel of this length -/
noncomputable def okD (lo len : Int) (d : PyData) : Bool :=
  match cueD d with
  | some c => decide (GoodC lo len c)
  | none => false
def endD (d : PyData) : Int :=
  match cueD d with
  | some c => c.e
  | none => 0
/-- the number of the first thing that can't stand -/
noncomputable def judgeD (len : Int) : Int → List PyData → Option Nat
  | _, [] => none
  | lo, d :: r => if okD lo len d = true then (judgeD len (endD d) r).map (· + 1) else some 0
open Classical in
theorem okD_good {lo len : Int} {d : PyData} (h : okD lo len d = true) : ∃ c, cueD d = some c ∧ GoodC lo len c := by
  unfold okD at h
  cases e : cueD d with
  | none => rw [e] at h; cases h
  | some c => rw [e] at h; exact ⟨c, rfl, of_decide_eq_true h⟩
open Classical in
theorem okD_of {lo len : Int} {d : PyData} {c : Cue} (h : cueD d = some c) (g : GoodC lo len c) : okD lo len d = true := by
  unfold okD
  rw [h]
  exact decide_eq_true g
theorem cueD_parts {d : PyData} {c : Cue} (h : cueD d = some c) : seqD d = some [.int c.s, .int c.e, .str c.nm, .str c.tx] := by
  unfold cueD at h
  split at h
  · rename_i e
    have := Option.some.inj h
    subst this
    exact e
  · cases h
theorem Th.int {l : Bool} {ms : List Nat} {H : Hp} {x : V} {i : Int} (h : Th l ms H x (.int i)) : x = .int i := by
  cases ms with
  | nil => exact h.1
  | cons m r =>
    rcases h with h | ⟨a, xs, ds, h1, h2, h3, ⟨e, _⟩ | ⟨_, e, _⟩⟩
    · exact h.1
    · cases e
    · cases e
theorem Th.str {l : Bool} {ms : List Nat} {H : Hp} {x : V} {z : Str} (h : Th l ms H x (.str z)) : x = .str z ∧ z.length ≤ 100 ∧ AscP z := by
  cases ms with
  | nil => exact h
  | cons m r =>
    rcases h with h | ⟨a, xs, ds, h1, h2, h3, ⟨e, _⟩ | ⟨_, e, _⟩⟩
    · exact h
    · cases e
    · cases e
theorem Sc.seq {x : V} {d : PyData} (h : Sc x d) : seqD d = none := by
  cases d with
  | tuple ds => exact h.elim
  | list ds => exact h.elim
  | _ => rfl
theorem Th.lenS {l : Bool} {ms : List Nat} {H : Hp} {x : V} {d : PyData} (h : Th l ms H x d) : ∀ z, x = .str z → z.length ≤ 100 := by
  intro z e
  subst e
  have := h.sc trivial
  cases d with
  | none => cases (show V.str z = .non from this)
  | bool b => cases (show V.str z = .bl b from this)
  | int i => cases this.1
  | str y => cases this.1; exact this.2.1
  | tuple ds => exact this.elim
  | list ds => exact this.elim
  | dict ds => exact this.elim
theorem isInt_int {l : Bool} {ms : List Nat} {H : Hp} {x : V} {d : PyData} (h : Th l ms H x d) (e : isInt x = true) : ∃ i, x = .int i ∧ d = .int i := by
  cases x with
  | int i =>
    have := h.sc trivial
    cases d with
    | none => cases (show V.int i = .non from this)
    | bool b => cases (show V.int i = .bl b from this)
    | int j => cases this.1; exact ⟨i, rfl, rfl⟩
    | str y => cases this.1
    | tuple ds => exact this.elim
    | list ds => exact this.elim
    | dict ds => exact this.elim
  | _ => cases e
theorem is_str {l : Bool} {ms : List Nat} {H : Hp} {z : Str} {d : PyData} (h : Th l ms H (.str z) d) : d = .str z := by
  have := h.sc trivial
  cases d with
  | none => cases (show V.str z = .non from this)
  | bool b => cases (show V.str z = .bl b from this)
  | int j => cases this.1
  | str y => cases this.1; rfl
  | tuple ds => exact this.elim
  | list ds => exact this.elim
  | dict ds => exact this.elim
open Classical in
theorem nameV_good {x : V} (h : nameV x = true) : ∃ z, x = .str z ∧ NameW (cp z) := by
  cases x with
  | str z => exact ⟨z, rfl, of_decide_eq_true h⟩
  | _ => cases h
open Classical in
theorem textV_good {x : V} (h : textV x = true) : ∃ z, x = .str z ∧ Good (cp z) := by
  cases x with
  | str z => exact ⟨z, rfl, of_decide_eq_true h⟩
  | _ => cases h
theorem paired4 {R : V → PyData → Prop} {xs : List V} {ds : List PyData} (h : Paired R xs ds) (e : xs.length = 4) : ∃ a b c d a' b' c' d', xs = [a, b, c, d] ∧ ds = [a', b', c', d'] ∧ R a a' ∧ R b b' ∧ R c c' ∧ R d d' := by
  cases h with
  | nil => cases e
  | cons h1 h =>
    cases h with
    | nil => cases e
    | cons h2 h =>
      cases h with
      | nil => cases e
      | cons h3 h =>
        cases h with
        | nil => cases e
        | cons h4 h =>
          cases h with
          | nil => exact ⟨_, _, _, _, _, _, _, _, rfl, rfl, h1, h2, h3, h4⟩
          | cons h5 h => simp only [List.length_cons] at e; omega
theorem paired_len {α β : Type} {R : α → β → Prop} : ∀ {l : List α} {r : List β}, Paired R l r → l.length = r.length
  | _, _, .nil => rfl
  | _, _, .cons _ t => congrArg (· + 1) (paired_len t)
noncomputable def spCueA : Sp := fun vs H Q _ => ∃ (x : V) (d : PyData) (lo len : Int), vs = [x, .int lo, .int len] ∧ Th true [5, 1] H x d ∧
  (∀ c, cueD d = some c → GoodC lo len c → ∀ H' t, Same H H' → H' t = some (.tup c.vs) → Q (.ref t) H') ∧ (okD lo len d = false → ∀ H', Same H H' → Q .non H')
section
variable {P : Program} {w : World} {K : PySem.W.Frag} {mg : Str → Option Value} {base : Heap}
theorem ok_cue_ofA {f : Addr} {fd : FuncData} (F : Fun K "cue_of" "cue_of" s_cue_of f fd) (c_parts_of : Cal P w K mg base 2 "parts_of" spPartsA) (c_is_integer : Cal P w K mg base 1 "is_integer" spIsIntA)
    (c_is_name : Cal P w K mg base 1 "is_name" spNameA) (c_is_text : Cal P w K mg base 2 "is_text" spIsText) : FnOk P w K mg base CX0 3 f fd ["thing", "earliest", "length"] spCueA := by
  refine F.ok sc_cue_of (fun vs H Q E h => ?_) (fun cdv A outer s H vs Q E hr h => ?_)
  · obtain ⟨x, d, lo, len, rfl, _⟩ := h
    rfl
  · obtain ⟨x, d, lo, len, rfl, hx, qy, qn⟩ := h
    refine ⟨_, (pss_cons (ps_set (i := 3) sc_cue_of.nd rfl (Or.inl rfl) (pe_c c_parts_of hr (by decide) rfl (pa_cons (pv 0) (pa_cons (pe_int) pa_nil))))
    (pss_cons (ps_if (pt_cmpR op_isN (pv 3) (pe_non) (nomark _))
    (pss_one (ps_ret (pe_non)))
    pss_nil)
    (pss_cons (ps_asg (pv 3) (pg_tup rfl (pgs_cons (pg_name (i := 4) sc_cue_of.nd rfl (Or.inl rfl)) (pgs_cons (pg_name (i := 5) sc_cue_of.nd rfl (Or.inl rfl)) (pgs_cons (pg_name (i := 6) sc_cue_of.nd rfl (Or.inl rfl)) (pgs_cons (pg_name (i := 7) sc_cue_of.nd rfl (Or.inl rfl)) pgs_nil))))))
    (pss_cons (ps_if (PW.pt (pw_or (pt_not (pt_val (pe_c c_is_integer hr (by decide) rfl (pa_cons (pv 4) pa_nil)))) (pw_or (pt_not (pt_val (pe_c c_is_integer hr (by decide) rfl (pa_cons (pv 5) pa_nil)))) (pw_or (pt_not (pt_val (pe_c c_is_name hr (by decide) rfl (pa_cons (pv 6) pa_nil)))) (pw_or1 (pt_not (pt_val (pe_c c_is_text hr (by decide) rfl (pa_cons (pv 7) pa_nil)))))))))
    (pss_one (ps_ret (pe_non)))
    pss_nil)
    (pss_cons (ps_if (pt_not (pt_chain3 op_le op_lt op_le (pv 1) (pv 4) (pv 5) (pv 2)))
    (pss_one (ps_ret (pe_non)))
    pss_nil)
    (pss_one (ps_ret (pv 3)))))))), ?_⟩
    rcases hx with hx | ⟨a, xs, ds, rfl, hm, hp, hd⟩
    · -- no tuple and no list
      have no : okD lo len d = false := by
        rw [Bool.eq_false_iff]
        intro t
        obtain ⟨c, e, _⟩ := okD_good t
        have e2 := cueD_parts e
        rw [hx.seq] at e2
        cases e2
      exact ⟨_, rfl, x, 4, rfl, .inl ⟨hx.plain, fun H1 s1 => ⟨_, rfl, rfl, _, rfl, qn no H1 s1⟩⟩⟩
    have hs : seqD d = some ds ∧ (H a = some (.tup xs) ∨ H a = some (.lst xs)) := by
      rcases hd with ⟨e, h⟩ | ⟨_, e, h⟩
      · rw [e]; exact ⟨rfl, .inl h⟩
      · rw [e]; exact ⟨rfl, .inr h⟩
    have le := paired_len hp
    refine ⟨_, rfl, .ref a, 4, rfl, .inr ⟨a, xs, rfl, hs.2, by omega, fun e4 H1 t s1 h1 => ?_, fun e4 H1 s1 => ?_⟩⟩
    rotate_left
    · have no : okD lo len d = false := by
        rw [Bool.eq_false_iff]
        intro t
        obtain ⟨c, e, _⟩ := okD_good t
        have e2 := cueD_parts e
        rw [hs.1] at e2
        have e3 := congrArg List.length (Option.some.inj e2)
        have : ds.length = 4 := e3
        omega
      exact ⟨_, rfl, rfl, _, rfl, qn no H1 s1⟩
    obtain ⟨va, vb, vc, ve, da, db, dc, de, rfl, rfl, ra, rb, rc, re⟩ := paired4 hp (by omega)
    -- what a good one is
    have good : okD lo len d = true → ∃ i j n z, va = .int i ∧ vb = .int j ∧ vc = .str n ∧ ve = .str z ∧ cueD d = some ⟨i, j, n, z⟩ ∧ GoodC lo len ⟨i, j, n, z⟩ := fun t => by
      obtain ⟨c, e, g⟩ := okD_good t
      have e2 := cueD_parts e
      rw [hs.1] at e2
      have e3 := Option.some.inj e2
      obtain ⟨e31, e32⟩ := List.cons.inj e3
      obtain ⟨e41, e42⟩ := List.cons.inj e32
      obtain ⟨e51, e52⟩ := List.cons.inj e42
      obtain ⟨e61, e62⟩ := List.cons.inj e52
      subst e31 e41 e51 e61
      exact ⟨c.s, c.e, c.nm, c.tx, ra.int, rb.int, rc.str.1, re.str.1, e, g⟩
    have no : ∀ H', Same H H' → (okD lo len d = true → False) → Q .non H' := fun H' s t => qn (Bool.eq_false_iff.mpr t) H' s
    refine ⟨_, rfl, rfl, _, rfl, _, rfl, t, _, rfl, SqT.of h1, rfl, _, _, rfl, _, _, rfl, _, _, rfl, _, _, rfl, rfl, ?_⟩
    refine ⟨_, rfl, va, rfl, (ra.keep s1).any, _, rfl, ?_⟩
    cases ia : isInt va with
    | false => exact no H1 s1 fun g => by obtain ⟨i, j, n, z, e, _⟩ := good g; rw [e] at ia; cases ia
    | true =>
    obtain ⟨i, rfl, rfl⟩ := isInt_int ra ia
    refine ⟨_, rfl, vb, rfl, (rb.keep s1).any, _, rfl, ?_⟩
    cases ib : isInt vb with
    | false => exact no H1 s1 fun g => by obtain ⟨i, j, n, z, _, e, _⟩ := good g; rw [e] at ib; cases ib
    | true =>
    obtain ⟨j, rfl, rfl⟩ := isInt_int rb ib
    refine ⟨_, rfl, vc, rfl, (rc.keep s1).any, fun z e => Nat.le_trans (rc.lenS z e) (by decide), fun H2 s2 => ⟨_, rfl, ?_⟩⟩
    have s12 := s1.trans s2
    cases ic : nameV vc with
    | false => exact no H2 s12 fun g => by obtain ⟨i, j, n, z, _, _, e, _, _, gg⟩ := good g; rw [e, nameV_yes gg.nm] at ic; cases ic
    | true =>
    obtain ⟨n, rfl, hn⟩ := nameV_good ic
    have en := is_str rc
    subst en
    refine ⟨_, rfl, ve, rfl, (re.keep s12).any, fun z e => Nat.le_trans (re.lenS z e) (by decide), fun H3 s3 => ⟨_, rfl, ?_⟩⟩
    have s13 := s12.trans s3
    cases ie : textV ve with
    | false => exact no H3 s13 fun g => by obtain ⟨i, j, n, z, _, _, _, e, _, gg⟩ := good g; rw [e, textV_yes gg.tx] at ie; cases ie
    | true =>
    obtain ⟨z, rfl, hz⟩ := textV_good ie
    have ez := is_str re
    subst ez
    have ec : cueD d = some ⟨i, j, n, z⟩ := by
      unfold cueD
      rw [hs.1]
    have bad : ¬ GoodC lo len ⟨i, j, n, z⟩ → okD lo len d = true → False := fun ng g => by
      obtain ⟨c, e, gg⟩ := okD_good g
      rw [ec] at e
      cases e
      exact ng gg
    refine ⟨_, rfl, _, rfl, _, _, rfl, rfl, _, rfl, ?_⟩
    by_cases h1' : lo ≤ i
    · rw [decide_eq_true h1']
      refine iteT ⟨_, rfl, _, _, rfl, rfl, _, rfl, ?_⟩
      by_cases h2' : i < j
      · rw [decide_eq_true h2']
        refine iteT ⟨_, rfl, _, _, rfl, rfl, _, rfl, ?_⟩
        by_cases h3' : j ≤ len
        · rw [decide_eq_true h3']
          exact ⟨_, rfl, qy _ ec ⟨hn, hz, h1', h2', h3'⟩ H3 t s13 (s3 _ _ (s2 _ _ h1))⟩
        · rw [decide_eq_false h3']
          exact no H3 s13 (bad fun g => h3' g.hi)
      · rw [decide_eq_false h2']
        exact iteF (no H3 s13 (bad fun g => h2' g.lt))
    · rw [decide_eq_false h1']
      exact iteF (no H3 s13 (bad fun g => h1' g.lo))
end
end Sea
namespace Sea
open PySem PySem.Spec PyProof.Rows L2
/-! the cues of a reel, of any kind -/
structure XI (P : Program) (w : World) (K : PySem.W.Frag) (mg : Str → Option Value) (base : Heap) (nm fld : Str) (C : Addr) : Prop where
  ex : ∃ (fI : Addr) (fd : FuncData), XC K mg nm fld C fI ∧ FnOk P w K mg base CX0 1 fI fd ["self", fld] (spIni K C fld) ∧ Binds K fd ["self", fld] []
/-- a cue at its place -/
def At (H : Hp) (e : Addr × Cue) : Prop := H e.1 = some (.tup e.2.vs)
abbrev refsC (L : List (Addr × Cue)) : List V := L.map fun e => V.ref e.1
abbrev cuesC (L : List (Addr × Cue)) : List Cue := L.map (·.2)
theorem refs_app (a b : List (Addr × Cue)) : refsC (a ++ b) = refsC a ++ refsC b := List.map_append
theorem cues_app (a b : List (Addr × Cue)) : cuesC (a ++ b) = cuesC a ++ cuesC b := List.map_append
theorem At.keep {H H' : Hp} {e : Addr × Cue} (h : At H e) (s : Same H H') : At H' e := s _ _ h
structure CueG (c : Cue) : Prop where
  nm : NameW (cp c.nm)
  tx : Good (cp c.tx)
/-- cues that are handed, or the default -/
def ArgC (K : PySem.W.Frag) (H : Hp) (x : V) (d : PyData) : Prop := Th true [60, 5, 1] H x d ∨ (d = .tuple [] ∧ ∃ a, x = .ref a ∧ DfT K a)
theorem ArgC.keep {K : PySem.W.Frag} {H H' : Hp} {x : V} {d : PyData} (h : ArgC K H x d) (s : Same H H') : ArgC K H' x d := h.imp (fun h => h.keep s) fun h => h
noncomputable def spJudgedA (K : PySem.W.Frag) (CB CM : Addr) : Sp := fun vs H Q E => ∃ (x : V) (d : PyData) (len : Int), vs = [.int len, x] ∧ ArgC K H x d ∧
  (seqD d = none → ∀ H' q, Same H H' → H' q = none → E (.ref CB) (some q) (upd H' q (.xd [(("number" : Str), .int (-1))]))) ∧
  (∀ ds k, seqD d = some ds → judgeD len 0 ds = some k → ∀ H' q, Same H H' → H' q = none → E (.ref CB) (some q) (upd H' q (.xd [(("number" : Str), .int (k : Nat))]))) ∧
  (∀ ds, seqD d = some ds → judgeD len 0 ds = none → 40 < ds.length → ∀ H' q, Same H H' → H' q = none → E (.ref CM) (some q) (upd H' q (.xd [(("word" : Str), .str (Str.ofString "cue"))]))) ∧
  (∀ ds, seqD d = some ds → judgeD len 0 ds = none → ds.length ≤ 40 → ∀ H' t L, Same H H' → H' t = some (.tup (refsC L)) → (cuesC L).map some = ds.map cueD → (∀ e ∈ L, At H' e) → (∀ c ∈ cuesC L, CueG c) → Q (.ref t) H')
theorem paired_get {α β : Type} {R : α → β → Prop} : ∀ {l : List α} {r : List β}, Paired R l r → ∀ {i : Nat} {v : β}, r[i]? = some v → ∃ u, l[i]? = some u ∧ R u v
  | _, _, .nil, i, v, h => by cases h
  | _, _, .cons a t, 0, v, h => by
    cases h
    exact ⟨_, rfl, a⟩
  | _, _, .cons a t, i + 1, v, h => paired_get t h
theorem paired_get' {α β : Type} {R : α → β → Prop} : ∀ {l : List α} {r : List β}, Paired R l r → ∀ {i : Nat} {u : α}, l[i]? = some u → ∃ v, r[i]? = some v ∧ R u v
  | _, _, .nil, i, v, h => by cases h
  | _, _, .cons a t, 0, v, h => by
    cases h
    exact ⟨_, rfl, a⟩
  | _, _, .cons a t, i + 1, v, h => paired_get' t h
theorem drop_at {α : Type} {l : List α} {i : Nat} {x : α} (h : l[i]? = some x) : l.drop i = x :: l.drop (i + 1) := by
  obtain ⟨hlt, e⟩ := List.getElem?_eq_some_iff.mp h
  rw [List.drop_eq_getElem_cons hlt, e]
section
variable {P : Program} {w : World} {K : PySem.W.Frag} {mg : Str → Option Value} {base : Heap} {CB CM : Addr}
theorem ok_judged_cuesA {f : Addr} {fd : FuncData} (F : Fun K "judged_cues" "judged_cues" s_judged_cues f fd) (m_enumerate : mg "enumerate" = none) (m_len : mg "len" = none) (m_tuple : mg "tuple" = none)
    {t : Tok} (g_MOST_CUES : mg "MOST_CUES" = some (.int 40 t)) (xB : XI P w K mg base "BadCue" "number" CB) (xM : XI P w K mg base "TooMany" "word" CM)
    (c_items_of : Cal P w K mg base 1 "items_of" (spItemsA K)) (c_cue_of : Cal P w K mg base 3 "cue_of" spCueA) : FnOk P w K mg base (L2.CX P w) 4 f fd ["length", "cues"] (spJudgedA K CB CM) := by
  obtain ⟨fIB, fdB, XB, FB, bB⟩ := xB.ex
  obtain ⟨fIM, fdM, XM, FM, bM⟩ := xM.ex
  refine F.okX sc_judged_cues (fun vs H Q E h => ?_) (fun cdv A outer s H vs Q E hr h => ?_)
  · obtain ⟨x, d, len, rfl, _⟩ := h
    rfl
  · obtain ⟨x, d, len, rfl, hx, qs, qb, qm, qy⟩ := h
    refine ⟨_, (pss_cons (ps_set (i := 2) sc_judged_cues.nd rfl (Or.inl rfl) (pe_c c_items_of hr (by decide) rfl (pa_cons (pv 1) pa_nil)))
    (pss_cons (ps_if (pt_cmpR op_isN (pv 2) (pe_non) (nomark _))
    (pss_one (ps_raise rfl (takes_of rfl rfl rfl rfl) (pmk_oex XB.ox XB.iC XB.tI FB (hr.mono (by decide)) bB .nil pass0 rfl XB.gC (pa_cons (pe_un un_neg (pe_int)) pa_nil))))
    pss_nil)
    (pss_cons (ps_set (i := 3) sc_judged_cues.nd rfl (Or.inl rfl) (pe_lst pa_nil))
    (pss_cons (ps_set (i := 4) sc_judged_cues.nd rfl (Or.inl rfl) (pe_int))
    (pss_cons (ps_for (passes_of rfl) rfl (pi_enT (by rfl) m_enumerate (pa_cons (pv 2) pa_nil)) (pg_tup rfl (pgs_cons (pg_name (i := 5) sc_judged_cues.nd rfl (Or.inl rfl)) (pgs_cons (pg_name (i := 6) sc_judged_cues.nd rfl (Or.inl rfl)) pgs_nil)))
    (pss_cons (ps_set (i := 7) sc_judged_cues.nd rfl (Or.inl rfl) (pe_c c_cue_of hr (by decide) rfl (pa_cons (pv 6) (pa_cons (pv 4) (pa_cons (pv 0) pa_nil)))))
    (pss_cons (ps_if (pt_cmpR op_isN (pv 7) (pe_non) (nomark _))
    (pss_one (ps_raise rfl (takes_of rfl rfl rfl rfl) (pmk_oex XB.ox XB.iC XB.tI FB (hr.mono (by decide)) bB .nil pass0 rfl XB.gC (pa_cons (pv 5) pa_nil))))
    pss_nil)
    (pss_cons (ps_expr (pe_bm PySem.F.plainAttrs_list PySem.F.slot_list_append PySem.F.type_list_append mt_append (pv 3) (pa_cons (pv 7) pa_nil)))
    (pss_one (ps_set (i := 4) sc_judged_cues.nd rfl (Or.inl rfl) (pe_ix ix_tup (pv 7) (pe_int) (fun _ _ => rfl))))))))
    (pss_cons (ps_if (pt_cmpR op_gt (pe_callB call_len (by rfl) m_len (by decide +kernel) (pa_cons (pv 3) pa_nil)) (pe_glob (v := .int 40) rfl g_MOST_CUES ⟨_, rfl⟩) (nomark _))
    (pss_one (ps_raise rfl (takes_of rfl rfl rfl rfl) (pmk_oex XM.ox XM.iC XM.tI FM (hr.mono (by decide)) bM .nil pass0 rfl XM.gC (pa_cons (pe_str) pa_nil))))
    pss_nil)
    (pss_one (ps_ret (pe_callTy call_tuple_of (by rfl) m_tuple (by decide +kernel) (pa_cons (pv 3) pa_nil)))))))))), ?_⟩
    rcases hx with hx | ⟨rfl, a, rfl, hdf⟩
    rotate_left
    · refine ⟨_, rfl, .ref a, rfl, .inr (.inl ⟨a, rfl, hdf, fun H1 s1 => ?_⟩)⟩
      refine ⟨_, rfl, rfl, _, rfl, Nat.zero_le _, fun D hD => ⟨_, rfl, a, [], rfl, hdf.sq, ?_⟩⟩
      refine for_it walk_enT (fun i σ H' => ∃ (k5 k6 k7 : Option V), σ = [some (.int len), some (.ref a), some (.ref a), some (.ref D), some (.int 0), k5, k6, k7] ∧ Same H1 H' ∧ H' D = some (.lst [])) ⟨none, none, none, rfl, same_new hD, upd_same⟩ (fun _ _ _ _ _ => hdf.sq) (fun i x σ Ha Hb hi => absurd hi (Nat.not_lt_zero _)) ?_
      rintro σ H' ⟨k5, k6, k7, rfl, hs, hd⟩
      refine ⟨_, rfl, _, 0, rfl, .inl ⟨_, SqL.of hd, rfl⟩, _, _, rfl, rfl, _, rfl, ite2 (fun k => absurd (of_decide_eq_true k) (by decide)) (fun k => ?_)⟩
      refine ⟨_, rfl, D, _, rfl, .inl ⟨SqL.of hd, fun l hl3 => ?_⟩⟩
      exact qy [] rfl rfl (Nat.zero_le _) _ l [] ((s1.trans hs).trans (same_new hl3)) upd_same rfl (fun _ h => nomatch h) (fun _ h => nomatch h)
    rcases hx with hx | ⟨a, xs, ds, rfl, hm, hp, hd⟩
    · refine ⟨_, rfl, x, rfl, .inl ⟨hx.plain, fun H1 s1 => ⟨_, rfl, rfl, _, rfl, 1, rfl, mk_fin XB.ox XB.no fun q hq => qs hx.seq H1 q s1 hq⟩⟩⟩
    have hs : seqD d = some ds ∧ (H a = some (.tup xs) ∨ H a = some (.lst xs)) := by
      rcases hd with ⟨e, h⟩ | ⟨_, e, h⟩
      · rw [e]; exact ⟨rfl, .inl h⟩
      · rw [e]; exact ⟨rfl, .inr h⟩
    have le := paired_len hp
    refine ⟨_, rfl, .ref a, rfl, .inr (.inr ⟨a, xs, rfl, hs.2, fun H1 it s1 h1 => ?_⟩)⟩
    refine ⟨_, rfl, rfl, _, rfl, (Nat.zero_le _), fun D hD => ?_⟩
    have h1D : (upd H1 D (.lst [])) it = some (.tup xs) := (same_new hD) _ _ h1
    refine ⟨_, rfl, it, xs, rfl, SqT.of h1D, ?_⟩
    refine for_it walk_enT (fun i σ H' => ∃ (lo : Int) (k5 k6 k7 : Option V) (L' : List (Addr × Cue)), σ = [some (.int len), some (.ref a), some (.ref it), some (.ref D), some (.int lo), k5, k6, k7] ∧ Same H1 H' ∧
      H' D = some (.lst (refsC L')) ∧ (cuesC L').map some = (ds.take i).map cueD ∧ (∀ e ∈ L', At H' e) ∧ (∀ c ∈ cuesC L', CueG c) ∧ judgeD len 0 ds = (judgeD len lo (ds.drop i)).map (· + i))
      ⟨0, none, none, none, [], rfl, same_new hD, upd_same, rfl, (fun _ h => nomatch h), (fun _ h => nomatch h), by simp⟩ (fun i σ H' _ ⟨_, _, _, _, _, _, hs, _⟩ => SqT.of (hs _ _ h1)) ?_ ?_
    · rintro i x σ Ha Hb hi ⟨lo, k5, k6, k7, L', rfl, hss, hd', hc, hat, hg, hj⟩ ⟨T, y, rfl, hT, hy, rfl⟩
      obtain ⟨dy, hdy, ry⟩ := paired_get' hp hy
      have sT := same_new (o := .tup [.int (i : Nat), y]) hT
      have s1b : Same H1 (upd Ha T (.tup [.int (i : Nat), y])) := hss.trans sT
      have dr := drop_at hdy
      have llen : L'.length ≤ i := by
        have := congrArg List.length hc
        rw [List.length_map, List.length_map, List.length_map, List.length_take] at this
        omega
      have hi60 : i < 60 := by
        have := (List.getElem?_eq_some_iff.mp hdy).1
        omega
      refine ⟨T, _, rfl, SqT.of upd_same, rfl, _, _, rfl, _, _, rfl, rfl, ?_⟩
      refine ⟨_, rfl, _, rfl, _, rfl, y, dy, lo, len, rfl, ry.keep (s1.trans s1b), fun c hc1 gc H2 t2 s2 h2 => ?_, fun no H2 s2 => ?_⟩
      · -- it stands
        refine ⟨_, rfl, rfl, _, rfl, ?_⟩
        have hd2 : H2 D = some (.lst (refsC L')) := s2 _ _ (sT _ _ hd')
        refine ⟨_, rfl, .inl ⟨rfl, _, SqL.of hd2⟩, _, rfl, D, _, _, rfl, rfl, hd2, (by rw [List.length_map]; exact small_line (by omega)), ?_⟩
        have nDt : t2 ≠ D := fun z => by rw [z, hd2] at h2; cases h2
        have h3 : (upd H2 D (.lst (refsC L' ++ [V.ref t2]))) t2 = some (.tup c.vs) := by rw [upd_ne nDt]; exact h2
        refine ⟨_, rfl, t2, _, 1, _, rfl, rfl, SqT.of h3, atI_nat (j := 1) rfl, c.e, _, _, _, L' ++ [(t2, c)], rfl, same_over (s1b.trans s2) hD, ?_, ?_, ?_, ?_, ?_⟩
        · rw [upd_same, refs_app]
          rfl
        · rw [cues_app, List.map_append, hc, List.take_add_one, hdy, List.map_append]
          show _ ++ [some c] = _ ++ [cueD dy]
          rw [hc1]
        · intro e' he'
          rcases List.mem_append.mp he' with h | h
          · have q1 := hat e' h
            have ne : e'.1 ≠ D := fun z => by
              have q2 : Ha e'.1 = some (.tup e'.2.vs) := q1
              rw [z, hd'] at q2
              cases q2
            show (upd H2 D _) e'.1 = _
            rw [upd_ne ne]
            exact s2 _ _ (sT _ _ q1)
          · rw [List.mem_singleton.mp h]
            exact h3
        · intro c' hc'
          rw [cues_app] at hc'
          rcases List.mem_append.mp hc' with h | h
          · exact hg c' h
          · rw [List.mem_singleton.mp h]
            exact ⟨gc.nm, gc.tx⟩
        · rw [hj, dr]
          show ((if okD lo len dy = true then _ else _) : Option Nat).map _ = _
          rw [if_pos (okD_of hc1 gc), Option.map_map]
          have ee : endD dy = c.e := by
            unfold endD
            rw [hc1]
          rw [ee]
          congr 1
          funext n
          show n + 1 + i = n + (i + 1)
          omega
      · -- it does not
        refine ⟨_, rfl, rfl, _, rfl, _, rfl, mk_fin XB.ox XB.no fun q hd3 => ?_⟩
        have r := qb ds i hs.1 (by
          rw [hj, dr]
          show ((if okD lo len dy = true then _ else _) : Option Nat).map _ = _
          rw [if_neg (by rw [no]; exact Bool.false_ne_true)]
          show some (0 + i) = some i
          rw [Nat.zero_add]) H2 q ((s1.trans s1b).trans s2) hd3
        exact r
    · rintro σ H' ⟨lo, k5, k6, k7, L', rfl, hss, hd', hc, hat, hg, hj⟩
      rw [le, List.drop_length] at hj
      have hj' : judgeD len 0 ds = none := hj
      rw [le, List.take_length] at hc
      have len' : L'.length = ds.length := by
        have := congrArg List.length hc
        rw [List.length_map, List.length_map, List.length_map] at this
        exact this
      refine ⟨_, rfl, _, L'.length, rfl, .inl ⟨_, SqL.of hd', (List.length_map ..).symm⟩, _, _, rfl, rfl, _, rfl, ite2 (fun k => ?_) (fun k => ?_)⟩
      · refine mk_fin XM.ox XM.no fun q hd3 => qm ds hs.1 hj' ?_ H' q (s1.trans hss) hd3
        have : (40 : Int) < (L'.length : Nat) := of_decide_eq_true k
        omega
      · refine ⟨_, rfl, D, _, rfl, .inl ⟨SqL.of hd', fun l hl3 => ?_⟩⟩
        refine qy ds hs.1 hj' ?_ _ l L' ((s1.trans hss).trans (same_new hl3)) upd_same hc (fun e he => (hat e he).keep (same_new hl3)) hg
        have : ¬ (40 : Int) < (L'.length : Nat) := fun z => k (decide_eq_true z)
        omega
end
end Sea
namespace Sea
open PySem PySem.Spec PyProof.Rows L2
/-! a reel is made, of anything -/
theorem putF_len (f : Str) (v : V) : ∀ fs : List (Str × V), (putF f v fs).length ≤ fs.length + 1
  | [] => Nat.le_refl _
  | (g, x) :: r => by
    show (if g = f then (g, v) :: r else (g, x) :: putF f v r).length ≤ _
    by_cases h : g = f
    · rw [if_pos h]
      exact Nat.le_succ _
    · rw [if_neg h]
      exact Nat.succ_le_succ (putF_len f v r)
def reelF (a b c d : V) : List (Str × V) := putF "_naming" d (putF "_speakers" c (putF "cues" b (putF "length" a [])))
theorem reel_length (a b c d : V) : (reelF a b c d).lookup ("length" : Str) = some a := by
  unfold reelF
  rw [lookup_putF, if_neg (by decide +kernel), lookup_putF, if_neg (by decide +kernel), lookup_putF, if_neg (by decide +kernel), lookup_putF, if_pos rfl]
theorem reel_cues (a b c d : V) : (reelF a b c d).lookup ("cues" : Str) = some b := by
  unfold reelF
  rw [lookup_putF, if_neg (by decide +kernel), lookup_putF, if_neg (by decide +kernel), lookup_putF, if_pos rfl]
theorem reel_speak (a b c d : V) : (reelF a b c d).lookup ("_speakers" : Str) = some c := by
  unfold reelF
  rw [lookup_putF, if_neg (by decide +kernel), lookup_putF, if_pos rfl]
theorem reel_naming (a b c d : V) : (reelF a b c d).lookup ("_naming" : Str) = some d := by
  unfold reelF
  rw [lookup_putF, if_pos rfl]
theorem cues3 (a b c : V) : (putF "_speakers" c (putF "cues" b (putF "length" a []))).lookup ("cues" : Str) = some b := by
  rw [lookup_putF, if_neg (by decide +kernel), lookup_putF, if_pos rfl]
theorem cues2 (a b : V) : (putF "cues" b (putF "length" a [])).lookup ("cues" : Str) = some b := by
  rw [lookup_putF, if_pos rfl]
theorem ne_ins {H : Hp} {x p C dx : Addr} {fs : List (Str × V)} {o : HO} (hx : H x = some (.ins C dx fs)) (hp : H p = some o) (ho : ∀ z, o ≠ .ins C dx z) : p ≠ x := fun e => by
  rw [e, hx] at hp
  exact ho fs (Option.some.inj hp).symm
theorem few_put {f : Str} {v : V} {fs : List (Str × V)} {n : Nat} (h : fs.length ≤ n) (h2 : n + 1 ≤ 100) : (putF f v fs).length < 1000 := by
  have := putF_len f v fs
  omega
theorem len_cues {L L' : List (Addr × Cue)} (h : cuesC L' = cuesC L) : L'.length = L.length := by
  have := congrArg List.length h
  rw [List.length_map, List.length_map] at this
  exact this
/-- a def with one default, as it stands behind the top -/
structure FunV (K : PySem.W.Frag) (x qual : Str) (st : Stmt) (f : Addr) (fd : FuncData) : Prop where
  ex : ∃ (oc : Value) (od : Option Addr) (TD : Addr) (kV doc pm : Value) (an : Option Addr) (cdv ct : Value) (osl : Array (Option Value)) (o : Obj) (d0 : Value) (n : Nat),
    fd = PySem.W.fnOf x qual (defArgs st) (defBody st) (defScope st) (.ref TD) kV doc pm an cdv ct ∧ K.lookup f = some ⟨oc, od, .func fd, osl⟩ ∧ PySem.W.codeIn K cdv qual = true ∧ K.lookup TD = some o ∧ o.data = .seq #[d0] n
theorem FunV.okX {P : Program} {w : World} {K : PySem.W.Frag} {mg : Str → Option Value} {base : Heap} {x qual : Str} {st : Stmt} {f : Addr} {fd : FuncData} {N ps : List Str} {k : Nat} {sp : Sp} (F : FunV K x qual st f fd) (S : FnScope N ps (defScope st)) (len : ∀ vs H Q E, sp vs H Q E → vs.length = ps.length)
    (hbody : ∀ (cdv : Value) (A : Around) (outer : List Env) (s : Shared) (H : Hp) (vs : List V) (Q : VK) (E : XK), Room k (A.deeper (envOfC qual (defScope st) s.heap.objs.size f cdv)) → sp vs H Q E →
      ∃ t, PSs (cxOf (L2.CX P w) P w K mg base N qual (defScope st) f cdv A outer s H E) (defBody st) t ∧ t { nx := fun _ H' => Q .non H', rt := Q } (start N vs) H) : FnOk P w K mg base (L2.CX P w) (k + 1) f fd ps sp := by
  obtain ⟨oc, od, TD, kV, doc, pm, an, cdv, ct, osl, o, d0, n, rfl, lk, hcd, _⟩ := F.ex
  exact fn_of lk hcd S len fun A outer s H vs Q E hr hsp => hbody cdv A outer s H vs Q E hr hsp
theorem reel_binds {K : PySem.W.Frag} {f : Addr} {fd : FuncData} (F : FunV K "__init__" "Reel.__init__" s_Reel___init__ f fd) : Binds K fd ["self", "length", "cues"] [] := by
  obtain ⟨oc, od, TD, kV, doc, pm, an, cdv, ct, osl, o, d0, n, rfl, lk, hcd, lT, oT⟩ := F.ex
  intro s us X hl
  rw [List.append_nil] at hl ⊢
  obtain ⟨a, b, c, rfl⟩ : ∃ a b c, us = [a, b, c] := match us, hl with | [a, b, c], _ => ⟨a, b, c, rfl⟩
  have e : ∃ k, bindArgs (PySem.W.fnOf "__init__" "Reel.__init__" (defArgs s_Reel___init__) (defBody s_Reel___init__) (defScope s_Reel___init__) (.ref TD) kV doc pm an cdv ct) ⟨[a, b, c], []⟩ = seqItems? (.ref TD) >>= k ∧
      k (some #[d0]) = pure ((["self", "length", "cues"] : List Str).zip [a, b, c]) := ⟨_, rfl, rfl⟩
  obtain ⟨k, e1, e2⟩ := e
  refine BindsTo.of_looks fun M => ?_
  rw [e1]
  exact looks_items X lT oT (.of_pure e2)
/-- a def whose one default is the empty tuple -/
structure FunVE (K : PySem.W.Frag) (x qual : Str) (st : Stmt) (f : Addr) (fd : FuncData) (aE : Addr) : Prop where
  ex : ∃ (oc : Value) (od : Option Addr) (TD : Addr) (kV doc pm : Value) (an : Option Addr) (cdv ct : Value) (osl : Array (Option Value)) (o : Obj) (n : Nat),
    fd = PySem.W.fnOf x qual (defArgs st) (defBody st) (defScope st) (.ref TD) kV doc pm an cdv ct ∧ K.lookup f = some ⟨oc, od, .func fd, osl⟩ ∧ PySem.W.codeIn K cdv qual = true ∧ K.lookup TD = some o ∧ o.data = .seq #[.ref aE] n
  df : DfT K aE
theorem FunVE.v {K : PySem.W.Frag} {x qual : Str} {st : Stmt} {f aE : Addr} {fd : FuncData} (F : FunVE K x qual st f fd aE) : FunV K x qual st f fd := by
  obtain ⟨oc, od, TD, kV, doc, pm, an, cdv, ct, osl, o, n, h⟩ := F.ex
  exact ⟨⟨oc, od, TD, kV, doc, pm, an, cdv, ct, osl, o, .ref aE, n, h⟩⟩
theorem reel_binds1 {K : PySem.W.Frag} {f aE : Addr} {fd : FuncData} (F : FunVE K "__init__" "Reel.__init__" s_Reel___init__ f fd aE) : Binds K fd ["self", "length", "cues"] [.ref aE] := by
  obtain ⟨oc, od, TD, kV, doc, pm, an, cdv, ct, osl, o, n, rfl, lk, hcd, lT, oT⟩ := F.ex
  intro s us X hl
  have hl2 : us.length = 2 := by
    rw [List.length_append] at hl
    exact Nat.succ.inj hl
  obtain ⟨a, b, rfl⟩ : ∃ a b, us = [a, b] := match us, hl2 with | [a, b], _ => ⟨a, b, rfl⟩
  have e : ∃ k, bindArgs (PySem.W.fnOf "__init__" "Reel.__init__" (defArgs s_Reel___init__) (defBody s_Reel___init__) (defScope s_Reel___init__) (.ref TD) kV doc pm an cdv ct) ⟨[a, b], []⟩ = seqItems? (.ref TD) >>= k ∧
      k (some #[.ref aE]) = pure ((["self", "length", "cues"] : List Str).zip ([a, b] ++ [.ref aE])) := ⟨_, rfl, rfl⟩
  obtain ⟨k, e1, e2⟩ := e
  refine BindsTo.of_looks fun M => ?_
  rw [e1]
  exact looks_items X lT oT (.of_pure e2)
/-- what the top has written of Reel -/
structure RC (K : PySem.W.Frag) (mg : Str → Option Value) (CR fI : Addr) : Prop where
  cl : Cls K CR
  made : Mk K CR fI
  g : mg "Reel" = some (.ref CR)
  nL : NoAttr K CR "length"
  nC : NoAttr K CR "cues"
  nS : NoAttr K CR "_speakers"
  nN : NoAttr K CR "_naming"
  kl : PySem.W.findIn K (.ref CR) "__class__" = some (some (.builtin "object.__class__"))
  gt : PySem.W.specialIn K (.builtin "object.__class__") "__get__" = some (some (.builtin "getset_descriptor.__get__"))
  tk : PySem.W.takesIn K (.builtin "object.__class__") = some true
  mr : PySem.W.mroIn K CR (.type "object") = some true
/-- lists and tuples stay -/
def KS (H H' : Hp) : Prop := ∀ a xs, (H a = some (.lst xs) → H' a = some (.lst xs)) ∧ (H a = some (.tup xs) → H' a = some (.tup xs))
theorem KS.of_kb {x C dx : Addr} {fs : List (Str × V)} {H H' : Hp} (hx : H x = some (.ins C dx fs)) (k : KB x H H') : KS H H' := fun a xs =>
  ⟨fun h => k _ _ (ne_ins hx h fun z e => by cases e) h, fun h => k _ _ (ne_ins hx h fun z e => by cases e) h⟩
theorem Th.ks {l : Bool} : ∀ {ms : List Nat} {H H' : Hp} {x : V} {d : PyData}, Th l ms H x d → KS H H' → Th l ms H' x d
  | [], _, _, _, _, h, _ => h
  | m :: r, H, H', x, d, h, s => by
    rcases h with h | ⟨a, xs, ds, h1, h2, h3, h4⟩
    · exact .inl h
    · refine .inr ⟨a, xs, ds, h1, h2, paired_imp (fun _ _ q => q.ks s) h3, ?_⟩
      rcases h4 with ⟨e, h⟩ | ⟨e1, e, h⟩
      · exact .inl ⟨e, (s _ _).2 h⟩
      · exact .inr ⟨e1, e, (s _ _).1 h⟩
structure SpeakS (cs : List Cue) (zs : List Str) : Prop where
  nd : zs.Nodup
  st : sortedS zs = true
  mem : ∀ k, k ∈ zs ↔ k ∈ cs.map (·.nm)
def nameB (c : Cue) : Bool := Txt.startswith c.tx (c.nm ++ Str.ofString ":")
def namesAt (cs : List Cue) (i : Nat) : Bool :=
  match cs[i]? with
  | some c => nameB c
  | none => false
def namingTo (cs : List Cue) (n : Nat) : List Nat := (List.range n).filter (namesAt cs)
/-- the reel at x -/
def ReelAt (H : Hp) (CR x : Addr) (len : Int) (L : List (Addr × Cue)) : Prop := ∃ (dx t sp nm : Addr) (zs : List Str), H x = some (.ins CR dx (reelF (.int len) (.ref t) (.ref sp) (.ref nm))) ∧ H t = some (.tup (refsC L)) ∧ (∀ e ∈ L, At H e) ∧
  H sp = some (.tup (zs.map V.str)) ∧ SpeakS (cuesC L) zs ∧ H nm = some (.tup ((namingTo (cuesC L) L.length).map fun n => V.int (n : Nat)))
theorem ReelAt.keep {H H' : Hp} {CR x : Addr} {len : Int} {L : List (Addr × Cue)} (h : ReelAt H CR x len L) (s : Same H H') : ReelAt H' CR x len L := by
  obtain ⟨dx, t, sp, nm, zs, h1, h2, h3, h4, h5, h6⟩ := h
  exact ⟨dx, t, sp, nm, zs, s _ _ h1, s _ _ h2, fun e he => (h3 e he).keep s, s _ _ h4, h5, s _ _ h6⟩
noncomputable def spReelA (K : PySem.W.Frag) (CR CB CM CLn : Addr) : Sp := fun vs H Q E => ∃ (x dx : Addr) (lx cx : V) (ld cd : PyData), vs = [.ref x, lx, cx] ∧ H x = some (.ins CR dx []) ∧ Th true [1] H lx ld ∧ ArgC K H cx cd ∧
  (inside lx 1 2000 = false → ∀ H' q, KB x H H' → H' q = none → E (.ref CLn) (some q) (upd H' q (.xd [(("length" : Str), lx)]))) ∧
  (∀ len, lx = .int len → 1 ≤ len → len ≤ 2000 →
    (seqD cd = none → ∀ H' q, KB x H H' → H' q = none → E (.ref CB) (some q) (upd H' q (.xd [(("number" : Str), .int (-1))]))) ∧
    (∀ ds k, seqD cd = some ds → judgeD len 0 ds = some k → ∀ H' q, KB x H H' → H' q = none → E (.ref CB) (some q) (upd H' q (.xd [(("number" : Str), .int (k : Nat))]))) ∧
    (∀ ds, seqD cd = some ds → judgeD len 0 ds = none → 40 < ds.length → ∀ H' q, KB x H H' → H' q = none → E (.ref CM) (some q) (upd H' q (.xd [(("word" : Str), .str (Str.ofString "cue"))]))) ∧
    (∀ ds, seqD cd = some ds → judgeD len 0 ds = none → ds.length ≤ 40 → ∀ H' L, KB x H H' → ReelAt H' CR x len L → (cuesC L).map some = ds.map cueD → (∀ c ∈ cuesC L, CueG c) → Q .non H'))
section
variable {P : Program} {w : World} {K : PySem.W.Frag} {mg : Str → Option Value} {base : Heap} {CB CM CR CLn fI : Addr}
theorem ok_reelA {f : Addr} {fd : FuncData} (F : FunV K "__init__" "Reel.__init__" s_Reel___init__ f fd) (m_enumerate : mg "enumerate" = none) (m_tuple : mg "tuple" = none) (m_sorted : mg "sorted" = none) (m_set : mg "set" = none)
    {t : Tok} (g_MOST_TICKS : mg "MOST_TICKS" = some (.int 2000 t)) (T : RC K mg CR fI) (xL : XI P w K mg base "BadLength" "length" CLn) (c_is_within : Cal P w K mg base 2 "is_within" spWithinA) (c_judged_cues : CalX P w K mg base 4 "judged_cues" (spJudgedA K CB CM)) :
    FnOk P w K mg base (L2.CX P w) 5 f fd ["self", "length", "cues"] (spReelA K CR CB CM CLn) := by
  obtain ⟨fIL, fdL, XL, FL, bL⟩ := xL.ex
  refine F.okX sc_Reel___init__ (fun vs H Q E h => ?_) (fun cdv A outer s H vs Q E hr h => ?_)
  · obtain ⟨x, dx, lx, cx, ld, cd, rfl, _⟩ := h
    rfl
  · obtain ⟨x, dx, lx, cx, ld, cd, rfl, hx, hl, hc, qL, qq⟩ := h
    refine ⟨_, (pss_cons (ps_if (pt_not (pt_val (pe_c c_is_within hr (by decide) rfl (pa_cons (pv 1) (pa_cons (pe_int) (pa_cons (pe_glob (v := .int 2000) rfl g_MOST_TICKS ⟨_, rfl⟩) pa_nil))))))
    (pss_one (ps_raise rfl (takes_of rfl rfl rfl rfl) (pmk_oex XL.ox XL.iC XL.tI FL (hr.mono (by decide)) bL .nil pass0 rfl XL.gC (pa_cons (pv 1) pa_nil))))
    pss_nil)
    (pss_cons (ps_fld (pv 0) (pv 1) rfl)
    (pss_cons (ps_fld (tv := tCallSD (spJudgedA K CB CM) [] (WE fun cls d _ H => E cls d H) (tCons (tVar 1) (tCons (tVar 2) tNil))) (pv 0) (by
          refine pe_cX (k := 4) (j := 4) (sp := spJudgedA K CB CM) ?_ ?_ ?_ ?_ ?_ ?_
          · exact c_judged_cues
          · exact hr
          · decide
          · rfl
          · exact (fun σ => passAt (takes_of rfl rfl rfl rfl) σ)
          · exact (pa_cons (pv 1) (pa_cons (pv 2) pa_nil))) rfl)
    (pss_cons (ps_fld (pv 0) (pe_callTy call_tuple_of (by rfl) m_tuple (by decide +kernel) (pa_cons (pe_callB (cr_sortedSetT rfl) (by rfl) m_sorted (by decide +kernel) (pa_cons (pe_callTy (cr_setT rfl) (by rfl) m_set (by decide +kernel) (pa_cons (pe_lc (own := [("cue", 3)]) rfl sc_Reel___init__.nd (pi_tup (pe_fld (pv 0) rfl)) (blkOk_by (N := N_Reel___init__) (sc := defScope s_Reel___init__) (by decide +kernel)) (fun _ _ _ _ _ => (pg_name (i := 3) sc_Reel___init__.nd rfl (Or.inl rfl))) (fun _ _ _ _ _ => pts_nil) (fun _ _ _ _ _ => (pe_ix (show IxR _ (rIxT K) from ix_tup) (pv 3) (pe_int) (fun _ _ => rfl)))) pa_nil)) pa_nil)) pa_nil)) rfl)
    (pss_one (ps_fld (pv 0) (pe_callTy call_tuple_of (by rfl) m_tuple (by decide +kernel) (pa_cons (pe_lc (own := [("number", 4), ("cue", 3)]) (g := gTup K 2 (gCons (gName 4) (gCons (gName 3) gNil))) rfl sc_Reel___init__.nd (pi_enT (by rfl) m_enumerate (pa_cons (pe_fld (pv 0) rfl) pa_nil)) (blkOk_by (N := N_Reel___init__) (sc := defScope s_Reel___init__) (by decide +kernel)) (fun _ _ _ _ _ => by exact (pg_tup rfl (pgs_cons (pg_name (i := 4) sc_Reel___init__.nd rfl (Or.inl rfl)) (pgs_cons (pg_name (i := 3) sc_Reel___init__.nd rfl (Or.inl rfl)) pgs_nil)))) (fun _ _ _ _ _ => pts_one (pt_val (show PE _ _ (tBM K "str" _ _ _) from pe_bm PySem.F.plainAttrs_str PySem.F.slot_str_startswith PySem.F.type_str_startswith mt_startswith (pe_ix (show IxR _ (rIxT K) from ix_tup) (pv 3) (pe_int) (fun _ _ => rfl)) (pa_cons (pe_op op_add_str (pe_ix (show IxR _ (rIxT K) from ix_tup) (pv 3) (pe_int) (fun _ _ => rfl)) (pe_str)) pa_nil)))) (fun _ _ _ _ _ => (pv 4))) pa_nil)) rfl)))))), ?_⟩
    refine ⟨_, rfl, lx, 1, 2000, rfl, hl.any, _, rfl, ?_⟩
    cases hI : inside lx 1 2000 with
    | false => exact ⟨_, rfl, mk_fin XL.ox XL.no fun q hq => qL hI H q (KB.refl x H) hq⟩
    | true =>
    obtain ⟨len, rfl, l1, l2⟩ : ∃ len, lx = .int len ∧ 1 ≤ len ∧ len ≤ 2000 := by
      cases lx with
      | int i =>
        have : (decide (1 ≤ i) && decide (i ≤ 2000)) = true := hI
        rw [Bool.and_eq_true] at this
        exact ⟨i, rfl, of_decide_eq_true this.1, of_decide_eq_true this.2⟩
      | _ => cases hI
    obtain ⟨qs, qb, qm, qy⟩ := qq len rfl l1 l2
    refine ⟨_, rfl, _, rfl, x, CR, dx, [], rfl, hx, T.cl, T.nL, (by decide : 0 < 1000), ?_⟩
    have k1 : KB x H (upd H x (.ins CR dx (putF "length" (.int len) []))) := (KB.refl x H).set
    refine ⟨_, rfl, _, rfl, cx, cd, len, rfl, hc.imp (fun h => h.ks (.of_kb hx k1)) (fun h => h), fun hn H' q s2 hq => qs hn H' q (k1.trans (.of_same s2)) hq, fun ds k hs hk H' q s2 hq => qb ds k hs hk H' q (k1.trans (.of_same s2)) hq, fun ds hs hk hm H' q s2 hq => qm ds hs hk hm H' q (k1.trans (.of_same s2)) hq, fun ds hs hj hle H2 t2 L2 s2 h2 hcs hat hg => ?_⟩
    have k2 := k1.trans (.of_same s2)
    have hx2 := s2 x _ upd_same
    have nt2 : t2 ≠ x := ne_ins hx2 h2 fun z e => by cases e
    have nL2 : ∀ e ∈ L2, e.1 ≠ x := fun e he => ne_ins hx2 (hat e he) fun z q => by cases q
    have lds : L2.length = ds.length := by
      have := congrArg List.length hcs
      rw [List.length_map, List.length_map, List.length_map] at this
      exact this
    have lL2 : L2.length ≤ 40 := by omega
    refine ⟨_, rfl, x, CR, dx, _, rfl, hx2, T.cl, T.nC, few_put (n := 0) (Nat.le_refl 0) (by decide), ?_⟩
    have k3 : KB x H2 (upd H2 x (.ins CR dx (putF "cues" (.ref t2) (putF "length" (.int len) [])))) := (KB.refl x H2).set
    have h3 := k3 t2 _ nt2 h2
    have at3 : ∀ e ∈ L2, At (upd H2 x (.ins CR dx (putF "cues" (.ref t2) (putF "length" (.int len) [])))) e := fun e he => k3 _ _ (nL2 e he) (hat e he)
    generalize hH3 : (upd H2 x (.ins CR dx (putF "cues" (.ref t2) (putF "length" (.int len) [])))) = H3 at k3 h3 at3 ⊢
    have hx3 : H3 x = some (.ins CR dx (putF "cues" (.ref t2) (putF "length" (.int len) []))) := by rw [← hH3]; exact upd_same
    have k03 := k2.trans k3
    -- the speakers
    refine ⟨_, rfl, x, CR, dx, _, _, rfl, hx3, T.cl, T.nC, cues2 _ _, t2, rfl, ⟨_, SqT.of h3⟩, fun D hD => ?_⟩
    refine lc_it walk_tup (fun i H' => Same H3 H' ∧ H' D = some (.lst ((((cuesC L2).take i).map (·.nm)).map V.str))) ⟨same_new hD, upd_same⟩ (fun i H' _ hq => SqT.of (hq.1 _ _ h3)) ?_ ?_
    · rintro i y Ha Hb hi ⟨hs, hd⟩ ⟨rfl, hy⟩
      have hi' : i < L2.length := by rw [List.length_map] at hi; exact hi
      obtain ⟨e, he, rfl⟩ : ∃ e, L2[i]? = some e ∧ y = V.ref e.1 := by
        rw [List.getElem?_map, List.getElem?_eq_getElem hi'] at hy
        exact ⟨L2[i], List.getElem?_eq_getElem hi', (Option.some.inj hy).symm⟩
      have hA := hs _ _ (at3 e (List.mem_of_getElem? he))
      have he2 : (cuesC L2)[i]? = some e.2 := by rw [List.getElem?_map, he]; rfl
      refine ⟨rfl, _, rfl, e.1, _, 2, _, rfl, rfl, SqT.of hA, atI_nat (j := 2) rfl, _, hd, ?_, same_over hs hD, ?_⟩
      · rw [List.length_map, List.length_map, List.length_take, List.length_map]
        exact small_line (by omega)
      · rw [upd_same, List.take_add_one, he2, List.map_append, List.map_append]
        rfl
    rintro H4 ⟨s4, hd⟩
    have lr : (refsC L2).length = (cuesC L2).length := by rw [List.length_map, List.length_map]
    have lc2 : (cuesC L2).length = L2.length := List.length_map ..
    rw [lr, List.take_length] at hd
    have l64 : ((cuesC L2).map (·.nm)).length < 64 := by rw [List.length_map, lc2]; omega
    refine ⟨D, _, rfl, SqL.of hd, by omega, fun p hp => ⟨p, _, rfl, upd_same, l64, fun zs p2 z1 z2 z3 z4 hp2 => ⟨p2, _, rfl, .inl ⟨SqL.of upd_same, fun l hl => ?_⟩⟩⟩⟩
    have s5 := ((s4.trans (same_new hp)).trans (same_new hp2)).trans (same_new (o := .tup (zs.map V.str)) hl)
    have hx5 := s5 _ _ hx3
    generalize hH5 : (upd _ l (.tup (zs.map V.str))) = H5 at s5 hx5 ⊢
    have hl5 : H5 l = some (.tup (zs.map V.str)) := by rw [← hH5]; exact upd_same
    have nlx : l ≠ x := ne_ins hx5 hl5 fun z e => by cases e
    refine ⟨_, rfl, x, CR, dx, _, rfl, hx5, T.cl, T.nS, few_put (n := 1) (putF_len _ _ _) (by decide), ?_⟩
    have k6 := (KB.of_same s5 : KB x H3 _).set (o := .ins CR dx (putF "_speakers" (.ref l) (putF "cues" (.ref t2) (putF "length" (.int len) []))))
    have h6 := k6 t2 _ nt2 h3
    have at6 := fun e (he : e ∈ L2) => k6 _ _ (nL2 e he) (at3 e he)
    have hl6 : (upd H5 x (.ins CR dx (putF "_speakers" (.ref l) (putF "cues" (.ref t2) (putF "length" (.int len) []))))) l = some (.tup (zs.map V.str)) := by
      rw [upd_ne nlx]
      exact hl5
    generalize hH6 : (upd _ x (.ins CR dx (putF "_speakers" (.ref l) (putF "cues" (.ref t2) (putF "length" (.int len) []))))) = H6 at k6 h6 at6 hl6 ⊢
    have hx6 : H6 x = some (.ins CR dx (putF "_speakers" (.ref l) (putF "cues" (.ref t2) (putF "length" (.int len) [])))) := by rw [← hH6]; exact upd_same
    -- who is named
    refine ⟨_, rfl, x, CR, dx, _, _, rfl, hx6, T.cl, T.nC, cues3 _ _ _, t2, _, rfl, SqT.of h6, fun D2 hD2 => ?_⟩
    refine lc_it walk_enT (fun i H' => Same H6 H' ∧ H' D2 = some (.lst ((namingTo (cuesC L2) i).map fun n => V.int (n : Nat)))) ⟨same_new hD2, upd_same⟩ (fun i H' _ hq => SqT.of (hq.1 _ _ h6)) ?_ ?_
    · rintro i y Ha Hb hi ⟨hs, hd2⟩ ⟨T2, v, rfl, hT2, hv, rfl⟩
      have hi' : i < L2.length := by rw [List.length_map] at hi; exact hi
      obtain ⟨e, he, rfl⟩ : ∃ e, L2[i]? = some e ∧ v = V.ref e.1 := by
        rw [List.getElem?_map, List.getElem?_eq_getElem hi'] at hv
        exact ⟨L2[i], List.getElem?_eq_getElem hi', (Option.some.inj hv).symm⟩
      have hme := List.mem_of_getElem? he
      have sT := same_new (o := .tup [.int (i : Nat), V.ref e.1]) hT2
      have hA := sT _ _ (hs _ _ (at6 e hme))
      have hd3 := sT _ _ hd2
      have s7 := hs.trans sT
      have he2 : (cuesC L2)[i]? = some e.2 := by rw [List.getElem?_map, he]; rfl
      have na : namesAt (cuesC L2) i = nameB e.2 := by
        unfold namesAt
        rw [he2]
      have up : namingTo (cuesC L2) (i + 1) = namingTo (cuesC L2) i ++ (if nameB e.2 = true then [i] else []) := by
        unfold namingTo
        rw [List.range_succ, List.filter_append]
        congr 1
        show (List.filter (namesAt (cuesC L2)) [i]) = _
        rw [List.filter_cons, na]
        rfl
      have few : (namingTo (cuesC L2) i).length ≤ i := by
        have := List.length_filter_le (namesAt (cuesC L2)) (List.range i)
        rw [List.length_range] at this
        exact this
      refine ⟨T2, _, rfl, SqT.of upd_same, rfl, _, _, rfl, _, _, rfl, rfl, rfl, _, rfl, e.1, _, 3, _, rfl, rfl, SqT.of hA, atI_nat (j := 3) rfl, rfl, _, rfl, e.1, _, 2, _, rfl, rfl, SqT.of hA, atI_nat (j := 2) rfl, _, _, rfl, rfl, ?_, _, _, rfl, rfl, _, rfl, ite2 (fun nb => ?_) (fun nb => ?_)⟩
      · have W := hg e.2 (List.mem_of_getElem? he2)
        have m8 := W.nm.most
        rw [cp_len] at m8
        have c1 : (Str.ofString ":").length = 1 := by decide +kernel
        rw [c1]
        exact Nat.le_of_lt (small1000 (by omega))
      · refine ⟨_, rfl, _, hd3, small_line (by rw [List.length_map]; omega), same_over s7 hD2, ?_⟩
        have nb' : nameB e.2 = true := nb
        rw [upd_same, up, if_pos nb', List.map_append]
        rfl
      · refine ⟨s7, ?_⟩
        have nb' : ¬ nameB e.2 = true := nb
        rw [up, if_neg nb', List.append_nil]
        exact hd3
    rintro H7 ⟨s7, hd2⟩
    have lr3 : (refsC L2).length = L2.length := List.length_map ..
    rw [lr3] at hd2
    refine ⟨D2, _, rfl, .inl ⟨SqL.of hd2, fun l2 hl2 => ?_⟩⟩
    have s8 := s7.trans (same_new (o := .tup ((namingTo (cuesC L2) L2.length).map fun n => V.int (n : Nat))) hl2)
    have hx8 := s8 _ _ hx6
    have hl8 : (upd H7 l2 (.tup ((namingTo (cuesC L2) L2.length).map fun n => V.int (n : Nat)))) l2 = some (.tup ((namingTo (cuesC L2) L2.length).map fun n => V.int (n : Nat))) := upd_same
    have nl2 : l2 ≠ x := ne_ins hx8 hl8 fun z e => by cases e
    refine ⟨_, rfl, x, CR, dx, _, rfl, hx8, T.cl, T.nN, few_put (n := 2) (Nat.le_trans (putF_len _ _ _) (Nat.succ_le_succ (putF_len _ _ _))) (by decide), ?_⟩
    have k9 : KB x H6 _ := (KB.of_same s8).set (o := .ins CR dx (reelF (.int len) (.ref t2) (.ref l) (.ref l2)))
    refine qy ds hs hj hle _ L2 ((k03.trans k6).trans k9) ⟨dx, t2, l, l2, zs, upd_same, k9 _ _ nt2 h6, fun e he => k9 _ _ (nL2 e he) (at6 e he), k9 _ _ nlx hl6, ⟨z1, z2, z3⟩, ?_⟩ hcs hg
    show (upd _ x _) l2 = _
    rw [upd_ne nl2]
    exact hl8
end
end Sea
namespace Sea
open PySem PySem.Spec PyProof.Rows L2
/-! the data of cues -/
def cuP (c : Cue) : PyData := .tuple [.int c.s, .int c.e, .str c.nm, .str c.tx]
def cusP (cs : List Cue) : PyData := .tuple (cs.map cuP)
/-- what a text's signs are -/
def AscS (z : Str) : Prop := ∀ c ∈ cp z, c < 1114112
theorem asc_ok {z : Str} (h : AscS z) : (PyData.str z).canLay0 = true := by
  show (z.cps.all (· < 0x110000)) = true
  rw [Array.all_eq_true_iff_forall_mem]
  intro c hc
  exact decide_eq_true (h c (Array.mem_toList_iff.mpr hc))
theorem cue_lay {c : Cue} (h1 : AscS c.nm) (h2 : AscS c.tx) : (cuP c).canLay0 = true := by
  show (PyData.canLay0 (.int c.s) && (PyData.canLay0 (.int c.e) && (PyData.canLay0 (.str c.nm) && (PyData.canLay0 (.str c.tx) && true)))) = true
  rw [asc_ok h1, asc_ok h2]
  rfl
theorem cues_lay : ∀ {cs : List Cue}, (∀ c ∈ cs, AscS c.nm ∧ AscS c.tx) → PyData.canLayAll0 (cs.map cuP) = true
  | [], _ => rfl
  | c :: r, h => by
    show (PyData.canLay0 (cuP c) && PyData.canLayAll0 (r.map cuP)) = true
    rw [cue_lay (h c List.mem_cons_self).1 (h c List.mem_cons_self).2, cues_lay fun d hd => h d (List.mem_cons_of_mem _ hd)]
    rfl
theorem cues_depth : ∀ cs : List Cue, PyData.depthAll (cs.map cuP) ≤ 1
  | [] => Nat.zero_le _
  | c :: r => by
    show max (PyData.depth (cuP c)) (PyData.depthAll (r.map cuP)) ≤ 1
    have h1 : PyData.depth (cuP c) = 1 := rfl
    have h2 := cues_depth r
    omega
theorem cues_shaped {cs : List Cue} (h : ∀ c ∈ cs, AscS c.nm ∧ AscS c.tx) : SeqAt.shaped (cusP cs) = true := by
  show (PyData.canLayAll0 (cs.map cuP) && decide (PyData.depthAll (cs.map cuP) + 1 ≤ 64)) = true
  have := cues_depth cs
  rw [cues_lay h, decide_eq_true (by omega)]
  rfl
theorem strs_shaped {ss : List Str} (h : ∀ z ∈ ss, AscS z) : SeqAt.shaped (.list (ss.map .str)) = true := by
  have h1 : ∀ ss : List Str, (∀ z ∈ ss, AscS z) → PyData.canLayAll0 (ss.map .str) = true := fun ss => by
    induction ss with
    | nil => intro _; rfl
    | cons a r ih =>
      intro h
      show (PyData.canLay0 (.str a) && PyData.canLayAll0 (r.map .str)) = true
      rw [asc_ok (h a List.mem_cons_self), ih fun z hz => h z (List.mem_cons_of_mem _ hz)]
      rfl
  have h2 : ∀ ss : List Str, PyData.depthAll (ss.map .str) = 0 := fun ss => by
    induction ss with
    | nil => rfl
    | cons a r ih =>
      show max (PyData.depth (.str a)) (PyData.depthAll (r.map .str)) = 0
      rw [ih]
      rfl
  show (PyData.canLayAll0 (ss.map .str) && decide (PyData.depthAll (ss.map .str) + 1 ≤ 64)) = true
  rw [h1 ss h, h2, decide_eq_true (by decide)]
  rfl
theorem cue_eqv (c d : Cue) : PyData.eqv (cuP c) (cuP d) = decide (c = d) := by
  show ((c.s == d.s) && ((c.e == d.e) && ((c.nm == d.nm) && ((c.tx == d.tx) && true)))) = _
  obtain ⟨a1, a2, a3, a4⟩ := c
  obtain ⟨b1, b2, b3, b4⟩ := d
  by_cases h : (⟨a1, a2, a3, a4⟩ : Cue) = ⟨b1, b2, b3, b4⟩
  · cases h
    simp
  · rw [decide_eq_false h, Bool.eq_false_iff]
    intro q
    simp only [Bool.and_true, Bool.and_eq_true, beq_iff_eq] at q
    exact h (by rw [q.1, q.2.1, q.2.2.1, q.2.2.2])
open Classical in
theorem cues_eqv : ∀ cs ds : List Cue, PyData.eqvAll (cs.map cuP) (ds.map cuP) = decide (cs = ds)
  | [], [] => rfl
  | [], d :: r => (decide_eq_false (by simp)).symm
  | c :: r, [] => (decide_eq_false (by simp)).symm
  | c :: r, d :: q => by
    show (PyData.eqv (cuP c) (cuP d) && PyData.eqvAll (r.map cuP) (q.map cuP)) = _
    rw [cue_eqv, cues_eqv r q]
    by_cases h1 : c = d
    · by_cases h2 : r = q
      · subst h1 h2
        simp
      · rw [decide_eq_false h2, Bool.and_false, decide_eq_false (fun e => h2 (List.cons.inj e).2)]
    · rw [decide_eq_false h1, Bool.false_and, decide_eq_false (fun e => h1 (List.cons.inj e).1)]
theorem strs_eqv : ∀ cs ds : List Str, PyData.eqvAll (cs.map .str) (ds.map .str) = decide (cs = ds)
  | [], [] => rfl
  | [], d :: r => (decide_eq_false (by simp)).symm
  | c :: r, [] => (decide_eq_false (by simp)).symm
  | c :: r, d :: q => by
    show ((c == d) && PyData.eqvAll (r.map .str) (q.map .str)) = _
    rw [strs_eqv r q]
    by_cases h1 : c = d
    · by_cases h2 : r = q
      · subst h1 h2
        simp
      · rw [decide_eq_false h2, Bool.and_false, decide_eq_false (fun e => h2 (List.cons.inj e).2)]
    · rw [beq_eq_false_iff_ne.mpr h1, Bool.false_and, decide_eq_false (fun e => h1 (List.cons.inj e).1)]
theorem dp_cues {K : PySem.W.Frag} {H : Hp} : ∀ {L : List (Addr × Cue)}, (∀ e ∈ L, At H e) → DpAll K H (refsC L) ((cuesC L).map cuP)
  | [], _ => .nil
  | e :: r, h => .cons (.tup (SqT.of (h e List.mem_cons_self)) (.cons (.int _) (.cons (.int _) (.cons (.str _) (.cons (.str _) .nil))))) (dp_cues fun d hd => h d (List.mem_cons_of_mem _ hd))
theorem dp_strs {K : PySem.W.Frag} {H : Hp} : ∀ ss : List Str, DpAll K H (ss.map V.str) (ss.map .str)
  | [] => .nil
  | a :: r => .cons (.str a) (dp_strs r)

/-! what a reel tells -/
theorem asc_nmG {c : Cue} (W : CueG c) : AscS c.nm := fun k hk => by
  have := W.nm.sign k hk
  omega
theorem asc_txG {c : Cue} (W : CueG c) : AscS c.tx := fun k hk => by
  have := W.tx.sign k hk
  omega
def spLenR (CR : Addr) : Sp := fun vs H Q _ => ∃ (x : Addr) (len : Int) (L : List (Addr × Cue)), vs = [.ref x] ∧ ReelAt H CR x len L ∧ Q (.int (L.length : Nat)) H
def spItemR (CR CB : Addr) : Sp := fun vs H Q E => ∃ (x : Addr) (len : Int) (L : List (Addr × Cue)) (k : V), vs = [.ref x, k] ∧ ReelAt H CR x len L ∧ AnyV H k ∧
  (∀ (i : Nat) e, k = .int (i : Nat) → L[i]? = some e → Q (.ref e.1) H) ∧ (inside k 0 ((L.length : Nat) - 1) = false → ∀ H' q, Same H H' → H' q = none → E (.ref CB) (some q) (upd H' q (.xd [(("number" : Str), k)])))
def spIterR (CR : Addr) (n : Nat) : Sp := fun vs H Q _ => ∃ (x : Addr) (len : Int) (L : List (Addr × Cue)), vs = [.ref x] ∧ ReelAt H CR x len L ∧ ∀ it t, H t = some (.tup (refsC L)) → H it = none → n ≤ it → Q (.ref it) (upd H it (TuO t it))
def spReelEq (CR : Addr) : Sp := fun vs H Q _ => ∃ (a b : Addr) (la lb : Int) (La Lb : List (Addr × Cue)), vs = [.ref a, .ref b] ∧ ReelAt H CR a la La ∧ ReelAt H CR b lb Lb ∧ (∀ c ∈ cuesC La, CueG c) ∧ (∀ c ∈ cuesC Lb, CueG c) ∧
  Q (.bl (decide (la = lb ∧ cuesC La = cuesC Lb))) H
def spReelEqT : Sp := fun vs H Q _ => ∃ (a b : Addr) (ys : List V), vs = [.ref a, .ref b] ∧ H b = some (.tup ys) ∧ Q (.bl false) H
def spSpeak (CR : Addr) : Sp := fun vs H Q _ => ∃ (x : Addr) (len : Int) (L : List (Addr × Cue)), vs = [.ref x] ∧ ReelAt H CR x len L ∧ ∀ p zs, H p = some (.tup (zs.map V.str)) → SpeakS (cuesC L) zs → Q (.ref p) H
def spNamingR (CR : Addr) : Sp := fun vs H Q _ => ∃ (x : Addr) (len : Int) (L : List (Addr × Cue)), vs = [.ref x] ∧ ReelAt H CR x len L ∧ ∀ p, H p = some (.tup ((namingTo (cuesC L) L.length).map fun n => V.int (n : Nat))) → Q (.ref p) H
section
variable {P : Program} {w : World} {K : PySem.W.Frag} {mg : Str → Option Value} {base : Heap} {CR CB fR : Addr}
theorem ok_lenR {f : Addr} {fd : FuncData} (F : Fun K "__len__" "Reel.__len__" s_Reel___len__ f fd) (T : RC K mg CR fR) (m_len : mg "len" = none) : FnOk P w K mg base CX0 1 f fd ["self"] (spLenR CR) := by
  refine F.ok sc_Reel___len__ (fun vs H Q E h => ?_) (fun cdv A outer s H vs Q E hr h => ?_)
  · obtain ⟨x, len, L, rfl, _⟩ := h
    rfl
  · obtain ⟨x, len, L, rfl, ⟨dx, t, sp, nm, zs, hx, ht, _⟩, q⟩ := h
    refine ⟨_, (pss_one (ps_ret (pe_callB call_len (by rfl) m_len (by decide +kernel) (pa_cons (pe_fld (pv 0) rfl) pa_nil)))), ?_⟩
    exact ⟨_, rfl, x, CR, dx, _, _, rfl, hx, T.cl, T.nC, reel_cues _ _ _ _, _, L.length, rfl, .inr ⟨_, SqT.of ht, (List.length_map ..).symm⟩, q⟩
theorem ok_itemR {f : Addr} {fd : FuncData} (F : Fun K "__getitem__" "Reel.__getitem__" s_Reel___getitem__ f fd) (T : RC K mg CR fR) (m_len : mg "len" = none) (xB : XI P w K mg base "BadCue" "number" CB) (c_is_within : Cal P w K mg base 2 "is_within" spWithinA) :
    FnOk P w K mg base (L2.CX P w) 3 f fd ["self", "at"] (spItemR CR CB) := by
  obtain ⟨fIB, fdB, XB, FB, bB⟩ := xB.ex
  refine F.okX sc_Reel___getitem__ (fun vs H Q E h => ?_) (fun cdv A outer s H vs Q E hr h => ?_)
  · obtain ⟨x, len, L, k, rfl, _⟩ := h
    rfl
  · obtain ⟨x, len, L, k, rfl, ⟨dx, t, sp, nm, zs, hx, ht, _⟩, hk, qy, qn⟩ := h
    refine ⟨_, (pss_cons (ps_if (pt_not (pt_val (pe_c c_is_within hr (by decide) rfl (pa_cons (pv 1) (pa_cons (pe_int) (pa_cons (pe_op op_sub (pe_callB call_len (by rfl) m_len (by decide +kernel) (pa_cons (pe_fld (pv 0) rfl) pa_nil)) (pe_int)) pa_nil))))))
    (pss_one (ps_raise rfl (takes_of rfl rfl rfl rfl) (pmk_oex XB.ox XB.iC XB.tI FB (hr.mono (by decide)) bB .nil pass0 rfl XB.gC (pa_cons (pv 1) pa_nil))))
    pss_nil)
    (pss_one (ps_ret (pe_ix ix_tup (pe_fld (pv 0) rfl) (pv 1) (fun _ _ => rfl))))), ?_⟩
    refine ⟨_, rfl, _, rfl, x, CR, dx, _, _, rfl, hx, T.cl, T.nC, reel_cues _ _ _ _, _, L.length, rfl, .inr ⟨_, SqT.of ht, (List.length_map ..).symm⟩, _, _, rfl, rfl, k, 0, _, rfl, hk, _, rfl, ?_⟩
    cases hI : inside k 0 ((L.length : Nat) - 1) with
    | false => exact ⟨_, rfl, mk_fin XB.ox XB.no fun q hq => qn hI H q (Same.refl H) hq⟩
    | true =>
    obtain ⟨i, rfl, hi⟩ : ∃ i : Nat, k = .int (i : Nat) ∧ i < L.length := by
      cases k with
      | int j =>
        have : (decide (0 ≤ j) && decide (j ≤ (L.length : Nat) - 1)) = true := hI
        rw [Bool.and_eq_true] at this
        have h1 := of_decide_eq_true this.1
        have h2 := of_decide_eq_true this.2
        exact ⟨j.toNat, by rw [Int.toNat_of_nonneg h1], by omega⟩
      | _ => cases hI
    have he : L[i]? = some L[i] := List.getElem?_eq_getElem hi
    exact ⟨_, rfl, x, CR, dx, _, _, rfl, hx, T.cl, T.nC, reel_cues _ _ _ _, _, rfl, t, _, _, _, rfl, rfl, SqT.of ht, atI_nat (by rw [List.getElem?_map, he]; rfl), qy i L[i] rfl he⟩
theorem ok_iterR {f : Addr} {fd : FuncData} (F : Fun K "__iter__" "Reel.__iter__" s_Reel___iter__ f fd) (T : RC K mg CR fR) (m_iter : mg "iter" = none) : FnS P w K mg base 1 f fd ["self"] (spIterR CR) := by
  refine FunS.ok F sc_Reel___iter__ (fun n vs H Q E h => ?_) (fun cdv A outer s H vs Q E hr h => ?_)
  · obtain ⟨x, len, L, rfl, _⟩ := h
    rfl
  · obtain ⟨x, len, L, rfl, ⟨dx, t, sp, nm, zs, hx, ht, _⟩, q⟩ := h
    refine ⟨_, (pss_one (ps_ret (pe_callB call_iterT (by rfl) m_iter (by decide +kernel) (pa_cons (pe_fld (pv 0) rfl) pa_nil)))), ?_⟩
    exact ⟨_, rfl, x, CR, dx, _, _, rfl, hx, T.cl, T.nC, reel_cues _ _ _ _, t, _, rfl, SqT.of ht, fun it hn hle => q it t ht hn hle⟩
theorem ok_reel_eqA {f : Addr} {fd : FuncData} (F : Fun K "__eq__" "Reel.__eq__" s_Reel___eq__ f fd) (T : RC K mg CR fR) (m_isinstance : mg "isinstance" = none) : FnOk P w K mg base CX0 1 f fd ["self", "other"] (spReelEq CR) := by
  refine F.ok sc_Reel___eq__ (fun vs H Q E h => ?_) (fun cdv A outer s H vs Q E hr h => ?_)
  · obtain ⟨a, b, la, lb, La, Lb, rfl, _⟩ := h
    rfl
  · obtain ⟨a, b, la, lb, La, Lb, rfl, ⟨dx, t, c, d, zs, hx, ht, hat, _⟩, ⟨dy, u, c', d', ys, hy, hu, hbt, _⟩, ga, gb, q⟩ := h
    have sa : ∀ c ∈ cuesC La, AscS c.nm ∧ AscS c.tx := fun c hc => ⟨asc_nmG (ga c hc), asc_txG (ga c hc)⟩
    have sb : ∀ c ∈ cuesC Lb, AscS c.nm ∧ AscS c.tx := fun c hc => ⟨asc_nmG (gb c hc), asc_txG (gb c hc)⟩
    refine ⟨_, (pss_one (ps_ret (pe_and (pe_callB call_isi (by rfl) m_isinstance (by decide +kernel) (pa_cons (pv 1) (pa_cons (pe_glob (v := .ref CR) rfl T.g rfl) pa_nil))) (pe_and (pe_cmpR op_eq (pe_fld (pv 0) rfl) (pe_fld (pv 1) rfl) (nomark _)) (pe_one (pe_cmpR (op_eqD hr.units) (pe_fld (pv 0) rfl) (pe_fld (pv 1) rfl) (nomark _))))))), ?_⟩
    refine ⟨_, rfl, _, _, _, _, true, rfl, .own CR, .base (.ins hy T.cl T.kl T.gt T.tk T.mr), if_pos (beq_self_eq_true _), true, rfl, iteT ?_⟩
    refine ⟨_, rfl, a, CR, dx, _, _, rfl, hx, T.cl, T.nL, reel_length _ _ _ _, _, rfl, b, CR, dy, _, _, rfl, hy, T.cl, T.nL, reel_length _ _ _ _, rfl, ?_⟩
    by_cases hl : la = lb
    · rw [decide_eq_true (congrArg V.int hl)]
      refine ⟨true, rfl, iteT ⟨_, rfl, a, CR, dx, _, _, rfl, hx, T.cl, T.nC, reel_cues _ _ _ _, _, rfl, b, CR, dy, _, _, rfl, hy, T.cl, T.nC, reel_cues _ _ _ _, cusP (cuesC La), cusP (cuesC Lb), .tup (SqT.of ht) (dp_cues hat), .tup (SqT.of hu) (dp_cues hbt), cues_shaped sa, cues_shaped sb, ?_⟩⟩
      have e : PyData.eqv (cusP (cuesC La)) (cusP (cuesC Lb)) = decide (la = lb ∧ cuesC La = cuesC Lb) := by
        show PyData.eqvAll _ _ = _
        rw [cues_eqv]
        by_cases h : cuesC La = cuesC Lb
        · rw [decide_eq_true h, decide_eq_true ⟨hl, h⟩]
        · rw [decide_eq_false h, decide_eq_false fun z => h z.2]
      rw [e]
      exact q
    · rw [decide_eq_false (fun z => hl (V.int.inj z))]
      rw [decide_eq_false (fun z : la = lb ∧ _ => hl z.1)] at q
      exact ⟨false, rfl, iteF q⟩
theorem ok_reel_eqT {f : Addr} {fd : FuncData} (F : Fun K "__eq__" "Reel.__eq__" s_Reel___eq__ f fd) (T : RC K mg CR fR) (m_isinstance : mg "isinstance" = none) (kT : PySem.W.kitOne K (.type "tuple") (.ref CR) = some false) : FnOk P w K mg base CX0 1 f fd ["self", "other"] spReelEqT := by
  refine F.ok sc_Reel___eq__ (fun vs H Q E h => ?_) (fun cdv A outer s H vs Q E hr h => ?_)
  · obtain ⟨a, b, ys, rfl, _⟩ := h
    rfl
  · obtain ⟨a, b, ys, rfl, hb, q⟩ := h
    refine ⟨_, (pss_one (ps_ret (pe_and (pe_callB call_isi (by rfl) m_isinstance (by decide +kernel) (pa_cons (pv 1) (pa_cons (pe_glob (v := .ref CR) rfl T.g rfl) pa_nil))) (pe_and (pe_cmpR op_eq (pe_fld (pv 0) rfl) (pe_fld (pv 1) rfl) (nomark _)) (pe_one (pe_cmpR (op_eqD hr.units) (pe_fld (pv 0) rfl) (pe_fld (pv 1) rfl) (nomark _))))))), ?_⟩
    exact ⟨_, rfl, _, _, _, _, false, rfl, .own CR, .base (.tup hb), kT, false, rfl, iteF q⟩
theorem ok_speakR {f : Addr} {fd : FuncData} (F : Fun K "speakers" "Reel.speakers" s_Reel_speakers f fd) (T : RC K mg CR fR) : FnOk P w K mg base CX0 1 f fd ["self"] (spSpeak CR) := by
  refine F.ok sc_Reel_speakers (fun vs H Q E h => ?_) (fun cdv A outer s H vs Q E hr h => ?_)
  · obtain ⟨x, len, L, rfl, _⟩ := h
    rfl
  · obtain ⟨x, len, L, rfl, ⟨dx, t, sp, nm, zs, hx, ht, hat, hs, hz, hn⟩, q⟩ := h
    exact ⟨_, (pss_one (ps_ret (pe_fld (pv 0) rfl))), _, rfl, x, CR, dx, _, _, rfl, hx, T.cl, T.nS, reel_speak _ _ _ _, q sp zs hs hz⟩
theorem ok_namingR {f : Addr} {fd : FuncData} (F : Fun K "naming" "Reel.naming" s_Reel_naming f fd) (T : RC K mg CR fR) : FnOk P w K mg base CX0 1 f fd ["self"] (spNamingR CR) := by
  refine F.ok sc_Reel_naming (fun vs H Q E h => ?_) (fun cdv A outer s H vs Q E hr h => ?_)
  · obtain ⟨x, len, L, rfl, _⟩ := h
    rfl
  · obtain ⟨x, len, L, rfl, ⟨dx, t, sp, nm, zs, hx, ht, hat, hs, hz, hn⟩, q⟩ := h
    exact ⟨_, (pss_one (ps_ret (pe_fld (pv 0) rfl))), _, rfl, x, CR, dx, _, _, rfl, hx, T.cl, T.nN, reel_naming _ _ _ _, q nm hn⟩
end
end Sea
namespace Sea
open PySem PySem.Spec PyProof.Rows L2
/-! words of a text, taken apart at blanks and joined again -/
abbrev B1 : Str := Str.ofString " "
theorem app_cp (a b : Str) : cp (a ++ b) = cp a ++ cp b := by
  show (a.cps ++ b.cps).toList = _
  rw [Array.toList_append]
theorem app_len (a b : Str) : (a ++ b).length = a.length + b.length := by
  rw [← cp_len, ← cp_len, ← cp_len, app_cp, List.length_append]
theorem split_words : ∀ (n : Nat) (l : List Nat), l.length ≤ n → l ≠ [] → (∀ c ∈ l, 32 ≤ c ∧ c ≤ 126 ∧ c ≠ 37) → l[0]? ≠ some 32 → l[l.length - 1]? ≠ some 32 → twin l = false →
    ∃ ws : List (List Nat), ws ≠ [] ∧ (∀ v ∈ ws, Wd v) ∧ 32 :: l = flat ws := by
  intro n
  induction n with
  | zero =>
    intro l hl hne
    exact absurd (List.length_eq_zero_iff.mp (Nat.le_zero.mp hl)) hne
  | succ n ih =>
    intro l hl hne hs h0 hlast tw
    cases l with
    | nil => exact absurd rfl hne
    | cons c r =>
      have c32 : c ≠ 32 := fun e => h0 (by rw [e]; rfl)
      have sc : Sgn c := by
        have := hs c List.mem_cons_self
        exact ⟨by omega, this.2.1, this.2.2⟩
      cases r with
      | nil => exact ⟨[[c]], by simp, fun v hv => by rw [List.mem_singleton.mp hv]; exact ⟨by simp, fun d hd => by rw [List.mem_singleton.mp hd]; exact sc⟩, rfl⟩
      | cons d q =>
        have last2 : (d :: q)[(d :: q).length - 1]? ≠ some 32 := fun e => hlast (by
          rw [List.length_cons, Nat.add_sub_cancel, List.length_cons, List.getElem?_cons_succ]
          rw [List.length_cons, Nat.add_sub_cancel] at e
          exact e)
        have tw2 : twin (d :: q) = false := by
          have : ((c == 32 && d == 32) || twin (d :: q)) = false := tw
          exact (Bool.or_eq_false_iff.mp this).2
        by_cases d32 : d = 32
        · subst d32
          cases q with
          | nil => exact absurd rfl last2
          | cons e p =>
            have e32 : (e :: p)[0]? ≠ some 32 := fun z => by
              have e1 : e = 32 := Option.some.inj z
              have : ((32 == 32 && e == 32) || twin (e :: p)) = false := tw2
              rw [e1] at this
              cases this
            have last3 : (e :: p)[(e :: p).length - 1]? ≠ some 32 := fun z => last2 (by
              rw [List.length_cons, Nat.add_sub_cancel, List.length_cons, List.getElem?_cons_succ]
              rw [List.length_cons, Nat.add_sub_cancel] at z
              exact z)
            have tw3 : twin (e :: p) = false := by
              have : ((32 == 32 && e == 32) || twin (e :: p)) = false := tw2
              exact (Bool.or_eq_false_iff.mp this).2
            obtain ⟨ws, w1, w2, w3⟩ := ih (e :: p) (by simp only [List.length_cons] at hl ⊢; omega) (by simp) (fun z hz => hs z (List.mem_cons_of_mem _ (List.mem_cons_of_mem _ hz))) e32 last3 tw3
            refine ⟨[c] :: ws, by simp, fun v hv => ?_, ?_⟩
            · rcases List.mem_cons.mp hv with h | h
              · rw [h]
                exact ⟨by simp, fun z hz => by rw [List.mem_singleton.mp hz]; exact sc⟩
              · exact w2 v h
            · rw [flat_cons, ← w3]
              rfl
        · obtain ⟨ws, w1, w2, w3⟩ := ih (d :: q) (by simp only [List.length_cons] at hl ⊢; omega) (by simp) (fun z hz => hs z (List.mem_cons_of_mem _ hz)) (fun z => d32 (Option.some.inj z)) last2 tw2
          cases ws with
          | nil => exact absurd rfl w1
          | cons v vs =>
            rw [flat_cons] at w3
            have w4 : d :: q = v ++ flat vs := (List.cons.inj w3).2
            refine ⟨(c :: v) :: vs, by simp, fun y hy => ?_, ?_⟩
            · rcases List.mem_cons.mp hy with h | h
              · rw [h]
                refine ⟨by simp, fun z hz => ?_⟩
                rcases List.mem_cons.mp hz with g | g
                · rw [g]
                  exact sc
                · exact (w2 v List.mem_cons_self).2 z g
              · exact w2 y (List.mem_cons_of_mem _ h)
            · rw [flat_cons, w4]
              rfl
theorem space_is {c : Nat} (h1 : 32 ≤ c) (h2 : c ≤ 126) : Unicode.isSpace c = decide (c = 32) := by
  have all : ∀ m, m ∈ List.range 127 → 32 ≤ m → Unicode.isSpace m = decide (m = 32) := by decide +kernel
  exact all c (List.mem_range.mpr (by omega)) h1
theorem Sgn.off {c : Nat} (h : Sgn c) : Unicode.isSpace c = false := by
  rw [space_is (by have := h.1; omega) h.2.1]
  exact decide_eq_false h.nb
theorem fold_wd : ∀ (l : List Nat) (ws : List (List Nat)) (u : List Nat), (∀ c ∈ l, 32 ≤ c ∧ c ≤ 126 ∧ c ≠ 37) → (∀ v ∈ ws, Wd v) → (∀ c ∈ u, Sgn c) →
    (∀ v ∈ TL.wfin (l.foldl TL.wstep (ws, u)), Wd v) ∧ ((TL.wfin (l.foldl TL.wstep (ws, u))).map (·.length)).sum ≤ (ws.map (·.length)).sum + u.length + l.length
  | [], ws, u, _, h1, h2 => by
    show (∀ v ∈ TL.wfin (ws, u), Wd v) ∧ ((TL.wfin (ws, u)).map (·.length)).sum ≤ _
    unfold TL.wfin
    by_cases hu : u = []
    · rw [if_pos hu]
      refine ⟨h1, ?_⟩
      show (ws.map (·.length)).sum ≤ _
      omega
    · rw [if_neg hu]
      refine ⟨fun v hv => ?_, ?_⟩
      · rcases List.mem_append.mp hv with h | h
        · exact h1 v h
        · rw [List.mem_singleton.mp h]
          exact ⟨hu, h2⟩
      · show ((ws ++ [u]).map (·.length)).sum ≤ _
        rw [List.map_append, List.sum_append]
        show (ws.map (·.length)).sum + (u.length + 0) ≤ _
        omega
  | c :: r, ws, u, hl, h1, h2 => by
    have hc := hl c List.mem_cons_self
    have hr := fun d hd => hl d (List.mem_cons_of_mem c hd)
    rw [List.foldl_cons, List.length_cons]
    by_cases h32 : c = 32
    · have sp : Unicode.isSpace c = true := by rw [space_is hc.1 hc.2.1]; exact decide_eq_true h32
      by_cases hu : u = []
      · have e : TL.wstep (ws, u) c = (ws, u) := (if_pos sp).trans (if_pos hu)
        rw [e]
        obtain ⟨q1, q2⟩ := fold_wd r ws u hr h1 h2
        exact ⟨q1, by omega⟩
      · have e : TL.wstep (ws, u) c = (ws ++ [u], []) := (if_pos sp).trans (if_neg hu)
        rw [e]
        obtain ⟨q1, q2⟩ := fold_wd r (ws ++ [u]) [] hr (fun v hv => by
          rcases List.mem_append.mp hv with h | h
          · exact h1 v h
          · rw [List.mem_singleton.mp h]
            exact ⟨hu, h2⟩) (fun _ h => nomatch h)
        refine ⟨q1, ?_⟩
        rw [List.map_append, List.sum_append] at q2
        have e2 : ([u].map (·.length)).sum = u.length := by show u.length + 0 = _; omega
        rw [e2] at q2
        have e3 : ([] : List Nat).length = 0 := rfl
        rw [e3] at q2
        omega
    · have sp : ¬ Unicode.isSpace c = true := by rw [space_is hc.1 hc.2.1]; exact fun z => h32 (of_decide_eq_true z)
      have e : TL.wstep (ws, u) c = (ws, u ++ [c]) := if_neg sp
      rw [e]
      obtain ⟨q1, q2⟩ := fold_wd r ws (u ++ [c]) hr h1 (fun d hd => by
        rcases List.mem_append.mp hd with h | h
        · exact h2 d h
        · rw [List.mem_singleton.mp h]
          exact ⟨by omega, hc.2.1, hc.2.2⟩)
      refine ⟨q1, ?_⟩
      rw [List.length_append] at q2
      have e3 : ([c] : List Nat).length = 1 := rfl
      rw [e3] at q2
      omega
theorem fold_flat : ∀ (r : List (List Nat)) (ws : List (List Nat)) (u : List Nat), u ≠ [] → (∀ v ∈ r, Wd v) → TL.wfin ((flat r).foldl TL.wstep (ws, u)) = ws ++ u :: r
  | [], ws, u, hu, _ => by
    show TL.wfin (ws, u) = _
    exact if_neg hu
  | v :: r, ws, u, hu, h => by
    obtain ⟨vne, vs⟩ := h v List.mem_cons_self
    rw [flat_cons, List.foldl_cons, List.foldl_append]
    have sp : Unicode.isSpace 32 = true := by decide +kernel
    have e : TL.wstep (ws, u) 32 = (ws ++ [u], []) := (if_pos sp).trans (if_neg hu)
    rw [e, TL.wfold_word v (ws ++ [u]) [] (fun c hc => (vs c hc).off)]
    rw [List.nil_append, fold_flat r (ws ++ [u]) v vne (fun y hy => h y (List.mem_cons_of_mem _ hy)), List.append_assoc]
    rfl
theorem words_cp (z : Str) : (Txt.words z).map cp = TL.wfin ((cp z).foldl TL.wstep ([], [])) := TL.words_tl z
theorem words_wd {z : Str} (h : AscP z) : (∀ v ∈ (Txt.words z).map cp, Wd v) ∧ ((Txt.words z).map (·.length)).sum ≤ z.length := by
  obtain ⟨q1, q2⟩ := fold_wd (cp z) [] [] h (fun _ h => nomatch h) (fun _ h => nomatch h)
  rw [← words_cp] at q1 q2
  refine ⟨q1, ?_⟩
  rw [List.map_map] at q2
  have e : (Txt.words z).map (List.length ∘ cp) = (Txt.words z).map (·.length) := List.map_congr_left fun y _ => cp_len y
  have e1 : (Txt.words z).map ((fun x : List Nat => x.length) ∘ cp) = (Txt.words z).map (·.length) := e
  rw [e1] at q2
  have e2 : (([] : List (List Nat)).map (·.length)).sum = 0 := rfl
  have e3 : ([] : List Nat).length = 0 := rfl
  rw [e2, e3, cp_len] at q2
  omega
theorem cp_inj' {a b : Str} (h : cp a = cp b) : a = b := cp_inj h
/-- a text without odd signs is one exactly if its words, joined again, are it -/
theorem text_words {z : Str} (h : AscP z) (h1 : 1 ≤ z.length) (h2 : z.length ≤ 60) : (z = Txt.join B1 (Txt.words z)) ↔ Good (cp z) := by
  obtain ⟨w1, _⟩ := words_wd h
  constructor
  · intro e
    have e1 : cp z = (flat ((Txt.words z).map cp)).drop 1 := by
      conv => lhs; rw [e]
      rw [TL.join_eq, join_cp]
    have ne : (Txt.words z).map cp ≠ [] := fun q => by
      rw [q] at e1
      have := congrArg List.length e1
      rw [cp_len] at this
      simp only [flat_nil, List.drop_nil, List.length_nil] at this
      omega
    rw [e1]
    refine join_good w1 ne ?_
    have := congrArg List.length e1
    rw [List.length_drop, cp_len] at this
    omega
  · intro g
    obtain ⟨ws, a1, a2, a3⟩ := split_words _ (cp z) (Nat.le_refl _) (fun e => by have := g.some; rw [e] at this; cases this) g.sign g.head g.last g.twin
    have ew : (Txt.words z).map cp = ws := by
      rw [words_cp]
      cases ws with
      | nil => exact absurd rfl a1
      | cons w r =>
        rw [flat_cons] at a3
        have e4 : cp z = w ++ flat r := (List.cons.inj a3).2
        obtain ⟨wne, wsg⟩ := a2 w List.mem_cons_self
        rw [e4, List.foldl_append, TL.wfold_word w [] [] (fun c hc => (wsg c hc).off), List.nil_append, fold_flat r [] w wne (fun y hy => a2 y (List.mem_cons_of_mem _ hy))]
        rfl
    refine cp_inj ?_
    rw [TL.join_eq, join_cp, ew, ← a3]
    rfl
end Sea
namespace Sea
open PySem PySem.Spec PyProof.Rows L2
/-! the law's own judging of things -/
def Sq2 (H : Hp) (a : Addr) (xs : List V) : Prop := H a = some (.tup xs) ∨ H a = some (.lst xs)
theorem Sq2.keep {H H' : Hp} {a : Addr} {xs : List V} (h : Sq2 H a xs) (s : Same H H') : Sq2 H' a xs := h.imp (s _ _) (s _ _)
theorem Sq2.ix {K : PySem.W.Frag} {H : Hp} {a : Addr} {xs : List V} {i : Int} {v : V} {Q : VK} (h : Sq2 H a xs) (e : atI xs i = some v) (q : Q v H) : rIx K (.ref a) (.int i) H Q := by
  rcases h with h | h
  · exact .inr (.inl ⟨a, xs, i, v, rfl, rfl, SqT.of h, e, q⟩)
  · exact .inl ⟨a, xs, i, v, rfl, rfl, SqL.of h, e, q⟩
theorem isi_seqA {K : PySem.W.Frag} {H : Hp} {x : V} (h : AnyV H x) : (Plain x ∧ ∃ t, TyX K H x t ∧ PySem.W.kitAny K t [.type "list", .type "tuple"] = some false) ∨
    (∃ a xs, x = .ref a ∧ Sq2 H a xs ∧ ∃ t, TyX K H x t ∧ PySem.W.kitAny K t [.type "list", .type "tuple"] = some true) := by
  have noB : ∀ {t : String}, kitB t "list" = some false → kitB t "tuple" = some false → PySem.W.kitAny K (.type t) [.type "list", .type "tuple"] = some false := fun {t} h1 h2 =>
    kitAny_cons (b := false) (kit_ty h1) (fun _ => kitAny_cons (b := false) (kit_ty h2) (fun _ => rfl) (fun z => nomatch z)) (fun z => nomatch z)
  rcases h with hp | ⟨a, xs, rfl, ha | ha⟩
  · refine .inl ⟨hp, ?_⟩
    cases x with
    | int i => exact ⟨_, .base (.int i), noB (by decide +kernel) (by decide +kernel)⟩
    | bl b => exact ⟨_, .base (.bl b), noB (by decide +kernel) (by decide +kernel)⟩
    | non => exact ⟨_, .base .non, noB (by decide +kernel) (by decide +kernel)⟩
    | str z => exact ⟨_, .base (.str z), noB (by decide +kernel) (by decide +kernel)⟩
    | ref a => exact hp.elim
    | byt z => exact hp.elim
    | flt z => exact hp.elim
    | ty z => exact hp.elim
  · exact .inr ⟨a, xs, rfl, .inr ha, _, .base (.lst ha), kitAny_cons (b := true) (kit_ty (by decide +kernel)) (fun z => nomatch z) (fun _ => rfl)⟩
  · exact .inr ⟨a, xs, rfl, .inl ha, _, .base (.tup ha), kitAny_cons (b := false) (kit_ty (by decide +kernel)) (fun _ => kitAny_cons (b := true) (kit_ty (by decide +kernel)) (fun z => nomatch z) (fun _ => rfl)) (fun z => nomatch z)⟩
/-- isinstance(x, str) -/
theorem isi_strA {K : PySem.W.Frag} {H : Hp} {x : V} (h : AnyV H x) : (∃ z, x = .str z) ∨ ((∀ z, x ≠ .str z) ∧ ∃ t, TyX K H x t ∧ PySem.W.kitOne K t (.type "str") = some false) := by
  rcases h with hp | ⟨a, xs, rfl, ha | ha⟩
  · cases x with
    | int i => exact .inr ⟨fun z e => (by cases e), _, .base (.int i), kit_ty (by decide +kernel)⟩
    | bl b => exact .inr ⟨fun z e => (by cases e), _, .base (.bl b), kit_ty (by decide +kernel)⟩
    | non => exact .inr ⟨fun z e => (by cases e), _, .base .non, kit_ty (by decide +kernel)⟩
    | str z => exact .inl ⟨z, rfl⟩
    | ref a => exact hp.elim
    | byt z => exact hp.elim
    | flt z => exact hp.elim
    | ty z => exact hp.elim
  · exact .inr ⟨fun z e => (by cases e), _, .base (.lst ha), kit_ty (by decide +kernel)⟩
  · exact .inr ⟨fun z e => (by cases e), _, .base (.tup ha), kit_ty (by decide +kernel)⟩
noncomputable def spTextL : Sp := fun vs H Q _ => ∃ x, vs = [x] ∧ AnyV H x ∧ (∀ z, x = .str z → z.length ≤ 2000 ∧ AscP z) ∧ ∀ H', Same H H' → Q (.bl (textV x)) H'
noncomputable def spCueL : Sp := fun vs H Q _ => ∃ (x : V) (d : PyData) (lo len : Int), vs = [x, .int lo, .int len] ∧ Th true [5, 1] H x d ∧ 0 ≤ lo ∧ ∀ H', Same H H' → Q (.bl (okD lo len d)) H'
section
variable {P : Program} {w : World} {K : PySem.W.Frag} {mg : Str → Option Value} {base : Heap}
theorem ok_is_numberL {f : Addr} {fd : FuncData} (F : Fun K "_law_is_number" "_law_is_number" s__law_is_number f fd)
    (m_isinstance : mg "isinstance" = none) (m_int : mg "int" = none) (m_bool : mg "bool" = none) : FnOk P w K mg base CX0 1 f fd ["_law_thing", "_law_low", "_law_high"] spWithinA := by
  refine F.ok sc__law_is_number (fun vs H Q E h => ?_) (fun cdv A outer s H vs Q E hr h => ?_)
  · obtain ⟨x, lo, hi, rfl, _⟩ := h
    rfl
  · obtain ⟨x, lo, hi, rfl, hp, q⟩ := h
    refine ⟨_, (pss_one (ps_ret (pe_and (pe_callB call_isi (by rfl) m_isinstance (by decide +kernel) (pa_cons (pv 0) (pa_cons (pe_bltn (v := .ty "int") (by rfl) m_int (by decide +kernel) rfl) pa_nil))) (pe_and (pe_not (pe_callB call_isi (by rfl) m_isinstance (by decide +kernel) (pa_cons (pv 0) (pa_cons (pe_bltn (v := .ty "bool") (by rfl) m_bool (by decide +kernel) rfl) pa_nil)))) (pe_one (pe_chain op_le op_le (pv 1) (pv 0) (pv 2))))))), ?_⟩
    cases x with
    | int i =>
      refine ⟨_, rfl, _, _, _, _, true, rfl, .ty _, .base (.int i), kit_ty (by decide +kernel), true, rfl, iteT ⟨_, rfl, _, _, _, _, false, rfl, .ty _, .base (.int i), kit_ty (by decide +kernel), ?_⟩⟩
      refine ⟨false, rfl, _, rfl, iteT ⟨_, rfl, _, rfl, _, _, rfl, rfl, _, rfl, ?_⟩⟩
      refine ite2 (fun e => ?_) (fun e => ?_)
      · refine ⟨_, rfl, _, _, rfl, rfl, ?_⟩
        have q' : Q (.bl (decide (lo ≤ i) && decide (i ≤ hi))) H := q
        rw [e, Bool.true_and] at q'
        exact q'
      · have q' : Q (.bl (decide (lo ≤ i) && decide (i ≤ hi))) H := q
        rw [Bool.eq_false_iff.mpr e, Bool.false_and] at q'
        exact q'
    | bl b => exact ⟨_, rfl, _, _, _, _, true, rfl, .ty _, .base (.bl b), kit_ty (by decide +kernel), true, rfl, iteT ⟨_, rfl, _, _, _, _, true, rfl, .ty _, .base (.bl b), kit_ty (by decide +kernel), true, rfl, _, rfl, iteF q⟩⟩
    | non => exact ⟨_, rfl, _, _, _, _, false, rfl, .ty _, .base .non, kit_ty (by decide +kernel), false, rfl, iteF q⟩
    | str z => exact ⟨_, rfl, _, _, _, _, false, rfl, .ty _, .base (.str z), kit_ty (by decide +kernel), false, rfl, iteF q⟩
    | ref a =>
      rcases hp with hp | ⟨a', xs, ea, hl | hl⟩
      · exact hp.elim
      · cases ea
        exact ⟨_, rfl, _, _, _, _, false, rfl, .ty _, .base (.lst hl), kit_ty (by decide +kernel), false, rfl, iteF q⟩
      · cases ea
        exact ⟨_, rfl, _, _, _, _, false, rfl, .ty _, .base (.tup hl), kit_ty (by decide +kernel), false, rfl, iteF q⟩
    | byt z => rcases hp with hp | ⟨a', xs, ea, _⟩ <;> first | exact hp.elim | cases ea
    | flt z => rcases hp with hp | ⟨a', xs, ea, _⟩ <;> first | exact hp.elim | cases ea
    | ty z => rcases hp with hp | ⟨a', xs, ea, _⟩ <;> first | exact hp.elim | cases ea
theorem ok_name_goodL {f : Addr} {fd : FuncData} (F : Fun K "_law_name_good" "_law_name_good" s__law_name_good f fd) (m_isinstance : mg "isinstance" = none) (m_str : mg "str" = none) (m_len : mg "len" = none) (m_all : mg "all" = none) :
    FnOk P w K mg base CX0 1 f fd ["_law_thing"] spNameA := by
  refine F.ok sc__law_name_good (fun vs H Q E h => ?_) (fun cdv A outer s H vs Q E hr h => ?_)
  · obtain ⟨x, rfl, _⟩ := h
    rfl
  · obtain ⟨x, rfl, hany, hsz, q⟩ := h
    refine ⟨_, (pss_cons (ps_if (PW.pt (pw_or (pt_not (pt_val (pe_callB call_isi (by rfl) m_isinstance (by decide +kernel) (pa_cons (pv 0) (pa_cons (pe_bltn (v := .ty "str") (by rfl) m_str (by decide +kernel) rfl) pa_nil))))) (pw_or (pt_cmpR op_lt (pe_callB call_len (by rfl) m_len (by decide +kernel) (pa_cons (pv 0) pa_nil)) (pe_int) (nomark _)) (pw_or1 (pt_cmpR op_gt (pe_callB call_len (by rfl) m_len (by decide +kernel) (pa_cons (pv 0) pa_nil)) (pe_int) (nomark _))))))
    (pss_one (ps_ret (pe_bl)))
    pss_nil)
    (pss_one (ps_ret (pe_callB (cr_all rfl) (by rfl) m_all (by decide +kernel) (pa_cons (pe_lc (own := [("_law_sign", 1)]) rfl sc__law_name_good.nd (pi_str (pv 0)) (blkOk_by (N := N__law_name_good) (sc := defScope s__law_name_good) (by decide +kernel)) (fun _ _ _ _ _ => (pg_name (i := 1) sc__law_name_good.nd rfl (Or.inl rfl))) (fun _ _ _ _ _ => pts_nil) (fun _ _ _ _ _ => (pe_cmpR op_in_sign (pv 1) (pe_str) rfl))) pa_nil))))), ?_⟩
    rcases isi_strA (K := K) hany with ⟨z, rfl⟩ | ⟨hne, t, ty, kk⟩
    · have hz : z.length ≤ 2000 := hsz z rfl
      have hzl := small3 hz
      have no : ∀ H', Same H H' → ¬ NameW (cp z) → Q (.bl false) H' := fun H' hs hg => by
        have q' := q H' hs
        rw [nameV_no hg] at q'
        exact q'
      refine ⟨_, rfl, _, _, _, _, true, rfl, .ty _, .base (.str z), kit_ty (by decide +kernel), true, rfl, ?_⟩
      refine ⟨_, rfl, _, z.length, rfl, ⟨hzl, rfl⟩, _, _, rfl, rfl, _, rfl, ite2 (fun h1 => ?_) (fun h1 => ⟨_, rfl, _, z.length, rfl, ⟨hzl, rfl⟩, _, _, rfl, rfl, _, rfl, ite2 (fun h2 => ?_) (fun h2 => ?_)⟩)⟩
      · refine no H (Same.refl H) fun g => ?_
        have := g.some
        rw [cp_len] at this
        have := of_decide_eq_true h1
        omega
      · refine no H (Same.refl H) fun g => ?_
        have := g.most
        rw [cp_len] at this
        have := of_decide_eq_true h2
        omega
      · have h1' : ¬ ((z.length : Nat) : Int) < 1 := fun e => h1 (decide_eq_true e)
        have h2' : ¬ (8 : Int) < ((z.length : Nat) : Int) := fun e => h2 (decide_eq_true e)
        refine ⟨_, rfl, z, rfl, fun D hD => ?_⟩
        refine lc_it walk_str (fun i H' => Same H H' ∧ H' D = some (.lst ((((cp z).take i).map fun c => decide (c ∈ cp LET)).map V.bl))) ⟨same_new hD, by rw [List.take_zero]; exact upd_same⟩ (fun _ _ _ _ => trivial) ?_ ?_
        · rintro i x Ha Hb hi ⟨hs, hd⟩ ⟨rfl, c, hc, rfl⟩
          have hc' : (cp z)[i]? = some c := by rw [Array.getElem?_toList]; exact hc
          refine ⟨rfl, _, rfl, c, LET, rfl, rfl, _, hd, ?_, same_over hs hD, ?_⟩
          · rw [List.length_map, List.length_map, List.length_take]
            have hi' : i < z.length := hi
            exact small_line (by omega)
          · rw [upd_same, List.take_add_one, hc', List.map_append, List.map_append]
            rfl
        · rintro H' ⟨hs, hd⟩
          have e0 : (cp z).take z.cps.size = cp z := List.take_of_length_le (by rw [cp_len]; exact Nat.le_refl _)
          rw [e0] at hd
          have q' := q H' hs
          have e : ((cp z).map fun c => decide (c ∈ cp LET)).all id = nameV (.str z) := by
            rw [all_reps]
            by_cases g : NameW (cp z)
            · rw [nameV_yes g]
              exact List.all_eq_true.mpr fun c hc => decide_eq_true (in_let.mpr (g.sign c hc))
            · rw [nameV_no g, Bool.eq_false_iff]
              intro t
              refine g ⟨?_, ?_, fun c hc => in_let.mp (of_decide_eq_true (List.all_eq_true.mp t c hc))⟩
              · rw [cp_len]
                omega
              · rw [cp_len]
                omega
          refine ⟨D, _, rfl, SqL.of hd, ?_⟩
          rw [e]
          exact q'
    · have e : nameV x = false := by
        cases x with
        | str z => exact absurd rfl (hne z)
        | _ => rfl
      have q' := q H (Same.refl H)
      rw [e] at q'
      exact ⟨_, rfl, _, _, _, _, false, rfl, .ty _, ty, kk, false, rfl, q'⟩
theorem ok_text_goodL {f : Addr} {fd : FuncData} (F : Fun K "_law_text_good" "_law_text_good" s__law_text_good f fd) (m_isinstance : mg "isinstance" = none) (m_str : mg "str" = none) (m_len : mg "len" = none) :
    FnOk P w K mg base CX0 1 f fd ["_law_thing"] spTextL := by
  refine F.ok sc__law_text_good (fun vs H Q E h => ?_) (fun cdv A outer s H vs Q E hr h => ?_)
  · obtain ⟨x, rfl, _⟩ := h
    rfl
  · obtain ⟨x, rfl, hany, hsz, q⟩ := h
    refine ⟨_, (pss_cons (ps_if (PW.pt (pw_or (pt_not (pt_val (pe_callB call_isi (by rfl) m_isinstance (by decide +kernel) (pa_cons (pv 0) (pa_cons (pe_bltn (v := .ty "str") (by rfl) m_str (by decide +kernel) rfl) pa_nil))))) (pw_or (pt_cmpR op_lt (pe_callB call_len (by rfl) m_len (by decide +kernel) (pa_cons (pv 0) pa_nil)) (pe_int) (nomark _)) (pw_or1 (pt_cmpR op_gt (pe_callB call_len (by rfl) m_len (by decide +kernel) (pa_cons (pv 0) pa_nil)) (pe_int) (nomark _))))))
    (pss_one (ps_ret (pe_bl)))
    pss_nil)
    (pss_one (ps_ret (pe_cmpR op_eq (pv 0) (pe_join (pe_str) (pe_words (pv 0))) (nomark _))))), ?_⟩
    rcases isi_strA (K := K) hany with ⟨z, rfl⟩ | ⟨hne, t, ty, kk⟩
    · obtain ⟨hz, ha⟩ := hsz z rfl
      have hzl := small3 hz
      have no : ¬ Good (cp z) → Q (.bl false) H := fun hg => by
        have q' := q H (Same.refl H)
        rw [textV_no (fun z' e => by cases e; exact hg)] at q'
        exact q'
      refine ⟨_, rfl, _, _, _, _, true, rfl, .ty _, .base (.str z), kit_ty (by decide +kernel), true, rfl, ?_⟩
      refine ⟨_, rfl, _, z.length, rfl, ⟨hzl, rfl⟩, _, _, rfl, rfl, _, rfl, ite2 (fun h1 => ?_) (fun h1 => ⟨_, rfl, _, z.length, rfl, ⟨hzl, rfl⟩, _, _, rfl, rfl, _, rfl, ite2 (fun h2 => ?_) (fun h2 => ?_)⟩)⟩
      · refine no fun g => ?_
        have := g.some
        rw [cp_len] at this
        have := of_decide_eq_true h1
        omega
      · refine no fun g => ?_
        have := g.most
        rw [cp_len] at this
        have := of_decide_eq_true h2
        omega
      · have h1' : ¬ ((z.length : Nat) : Int) < 1 := fun e => h1 (decide_eq_true e)
        have h2' : ¬ (60 : Int) < ((z.length : Nat) : Int) := fun e => h2 (decide_eq_true e)
        have l60 : z.length ≤ 60 := by omega
        obtain ⟨w1, w2⟩ := words_wd ha
        have wl : (Txt.words z).length ≤ z.length := by
          have : ∀ l : List Str, (∀ v ∈ l.map cp, Wd v) → l.length ≤ (l.map (·.length)).sum := fun l => by
            induction l with
            | nil => intro _; exact Nat.le_refl _
            | cons a r ih =>
              intro h
              have h1 := (h (cp a) (by simp)).1
              have h2 := ih fun v hv => h v (by rw [List.map_cons]; exact List.mem_cons_of_mem _ hv)
              have h3 : 1 ≤ a.length := by
                rw [← cp_len]
                exact List.length_pos_iff.mpr h1
              rw [List.length_cons, List.map_cons, List.sum_cons]
              omega
          exact Nat.le_trans (this _ w1) w2
        have b1 : (Str.ofString " ").length = 1 := by decide +kernel
        refine ⟨_, rfl, ⟨_, rfl⟩, _, rfl, ⟨_, rfl⟩, z, rfl, rfl, (by rw [sizeLine_eq]; omega), fun p hp => ?_⟩
        refine ⟨_, p, Txt.words z, rfl, rfl, .inl (SqL.of upd_same), ?_, rfl, ?_⟩
        · rw [b1]
          omega
        · have e : decide (V.str z = V.str (Txt.join (Str.ofString " ") (Txt.words z))) = textV (.str z) := by
            by_cases g : Good (cp z)
            · rw [textV_yes g]
              exact decide_eq_true (congrArg V.str ((text_words ha (by omega) l60).mpr g))
            · rw [textV_no (fun z' e => by cases e; exact g)]
              exact decide_eq_false fun e => g ((text_words ha (by omega) l60).mp (V.str.inj e))
          rw [e]
          exact q _ (same_new hp)
    · have e : textV x = false := textV_no fun z e => absurd e (hne z)
      have q' := q H (Same.refl H)
      rw [e] at q'
      exact ⟨_, rfl, _, _, _, _, false, rfl, .ty _, ty, kk, false, rfl, q'⟩
end
end Sea
/-! a walk over a list or a tuple, whichever it is -/
namespace Sea
open PySem PySem.Spec PyProof.Rows L2
def iLT (K : PySem.W.Frag) (tl : TE) : TI := fun σ H R => tl σ H fun x H1 => ∃ a, x = .ref a ∧ (((∃ xs, SqL K H1 a xs) ∧ R (Itl K a) H1) ∨ ((∃ xs, SqT K H1 a xs) ∧ R (Itt K a) H1))
section
variable {X : Cx}
theorem pi_lt {tg l : Expr} {tl : TE} (hl : PE X l tl) : PI X tg l (iLT X.K tl) := by
  refine ⟨fun pins s σ H R I h => ?_⟩
  refine thn (hl.run pins s σ H _ I h) fun v s1 ⟨x, H1, I1, r1, q1⟩ => ?_
  obtain ⟨a, e, q1⟩ := q1
  subst e
  cases r1
  rcases q1 with ⟨⟨xs, hq⟩, q⟩ | ⟨⟨xs, hq⟩, q⟩
  · obtain ⟨its, rv, p, hz⟩ := I1.list hq
    refine wpAny_pyIter_list p.isList ?_
    refine ⟨s1.heap.objs.size, [s1.heap.objs.size], _, _, H1, rfl, I1.kept (t' := s1.toks) fun b o e => Heap.get?_push_of_some _ e, turn_list a _, ⟨_, Heap.get?_push_size _ rfl, rfl, rfl⟩, fun b hb => ?_, q⟩
    have e : b = s1.heap.objs.size := by simpa using hb
    subst e
    exact I1.fpOk (Nat.le_refl _) (I1.hok.fresh (Nat.le_refl _))
  · obtain ⟨its, rv, p, hz⟩ := I1.tuple hq
    refine wpAny_pyIter_tuple (show s1.heap.IsTuple a its.toArray from p) ?_
    refine ⟨s1.heap.objs.size, [s1.heap.objs.size], _, _, H1, rfl, I1.kept (t' := s1.toks) fun b o e => Heap.get?_push_of_some _ e, turn_tuple a _, ⟨_, Heap.get?_push_size _ rfl, rfl, rfl⟩, fun b hb => ?_, q⟩
    have e : b = s1.heap.objs.size := by simpa using hb
    subst e
    exact I1.fpOk (Nat.le_refl _) (I1.hok.fresh (Nat.le_refl _))
end
end Sea
namespace Sea
open PySem PySem.Spec PyProof.Rows L2
/-! whether a cue stands; things as lists and as tuples -/
theorem Sq2.lenv {K : PySem.W.Frag} {H : Hp} {a : Addr} {xs : List V} (h : Sq2 H a xs) : LenV K (.ref a) H xs.length := by
  rcases h with h | h
  · exact .inr ⟨_, SqT.of h, rfl⟩
  · exact .inl ⟨_, SqL.of h, rfl⟩
theorem okD_noseq {lo len : Int} {d : PyData} (h : seqD d = none) : okD lo len d = false := by
  rw [Bool.eq_false_iff]
  intro t
  obtain ⟨c, e, _⟩ := okD_good t
  have e2 := cueD_parts e
  rw [h] at e2
  cases e2
theorem okD_few {lo len : Int} {d : PyData} {ds : List PyData} (h : seqD d = some ds) (hl : ds.length ≠ 4) : okD lo len d = false := by
  rw [Bool.eq_false_iff]
  intro t
  obtain ⟨c, e, _⟩ := okD_good t
  have e2 := cueD_parts e
  rw [h] at e2
  have e3 := congrArg List.length (Option.some.inj e2)
  exact hl e3
theorem okD_parts {l : Bool} {ms : List Nat} {H : Hp} {lo len : Int} {d : PyData} {va vb vc ve : V} {da db dc de : PyData} (hs : seqD d = some [da, db, dc, de]) (ra : Th l ms H va da) (rb : Th l ms H vb db) (rc : Th l ms H vc dc) (re : Th l ms H ve de)
    (t : okD lo len d = true) : ∃ i j n z, va = .int i ∧ vb = .int j ∧ vc = .str n ∧ ve = .str z ∧ cueD d = some ⟨i, j, n, z⟩ ∧ GoodC lo len ⟨i, j, n, z⟩ := by
  obtain ⟨c, e, g⟩ := okD_good t
  have e2 := cueD_parts e
  rw [hs] at e2
  have e3 := Option.some.inj e2
  obtain ⟨e31, e32⟩ := List.cons.inj e3
  obtain ⟨e41, e42⟩ := List.cons.inj e32
  obtain ⟨e51, e52⟩ := List.cons.inj e42
  obtain ⟨e61, e62⟩ := List.cons.inj e52
  subst e31 e41 e51 e61
  exact ⟨c.s, c.e, c.nm, c.tx, ra.int, rb.int, rc.str.1, re.str.1, e, g⟩
theorem Th.strS {l : Bool} {ms : List Nat} {H : Hp} {x : V} {d : PyData} (h : Th l ms H x d) : ∀ z, x = .str z → z.length ≤ 100 ∧ AscP z := by
  intro z e
  subst e
  have := is_str h
  subst this
  exact h.str.2
theorem Th.seq {l : Bool} {m : Nat} {r : List Nat} {H : Hp} {x : V} {d : PyData} (h : Th l (m :: r) H x d) : (Sc x d ∧ seqD d = none) ∨ ∃ (a : Addr) (xs : List V) (ds : List PyData), x = .ref a ∧ ds.length ≤ m ∧ xs.length = ds.length ∧ Paired (Th l r H) xs ds ∧ seqD d = some ds ∧ Sq2 H a xs := by
  rcases h with h | ⟨a, xs, ds, h1, h2, h3, ⟨e, h⟩ | ⟨_, e, h⟩⟩
  · exact .inl ⟨h, h.seq⟩
  · rw [e]
    exact .inr ⟨a, xs, ds, h1, h2, paired_len h3, h3, rfl, .inl h⟩
  · rw [e]
    exact .inr ⟨a, xs, ds, h1, h2, paired_len h3, h3, rfl, .inr h⟩
section
variable {P : Program} {w : World} {K : PySem.W.Frag} {mg : Str → Option Value} {base : Heap}
theorem ok_cue_goodL {f : Addr} {fd : FuncData} (F : Fun K "_law_cue_good" "_law_cue_good" s__law_cue_good f fd) (m_isinstance : mg "isinstance" = none) (m_list : mg "list" = none) (m_tuple : mg "tuple" = none) (m_len : mg "len" = none)
    (c__law_is_number : Cal P w K mg base 1 "_law_is_number" spWithinA) (c__law_name_good : Cal P w K mg base 1 "_law_name_good" spNameA) (c__law_text_good : Cal P w K mg base 1 "_law_text_good" spTextL) :
    FnOk P w K mg base CX0 2 f fd ["_law_cue", "_law_low", "_law_length"] spCueL := by
  refine F.ok sc__law_cue_good (fun vs H Q E h => ?_) (fun cdv A outer s H vs Q E hr h => ?_)
  · obtain ⟨x, d, lo, len, rfl, _⟩ := h
    rfl
  · obtain ⟨x, d, lo, len, rfl, hx, hlo, q⟩ := h
    refine ⟨_, (pss_cons (ps_if (PW.pt (pw_or (pt_not (pt_val (pe_callB call_isiT (by rfl) m_isinstance (by decide +kernel) (pa_cons (pv 0) (pa_cons (pe_tup (pa_cons (pe_bltn (v := .ty "list") (by rfl) m_list (by decide +kernel) rfl) (pa_cons (pe_bltn (v := .ty "tuple") (by rfl) m_tuple (by decide +kernel) rfl) pa_nil))) pa_nil))))) (pw_or1 (pt_cmpR op_ne (pe_callB call_len (by rfl) m_len (by decide +kernel) (pa_cons (pv 0) pa_nil)) (pe_int) (nomark _)))))
    (pss_one (ps_ret (pe_bl)))
    pss_nil)
    (pss_cons (ps_if (PW.pt (pw_or (pt_not (pt_val (pe_c c__law_is_number hr (by decide) rfl (pa_cons (pe_ix ix_seq (pv 0) (pe_int) (fun _ _ => rfl)) (pa_cons (pv 1) (pa_cons (pv 2) pa_nil)))))) (pw_or1 (pt_not (pt_val (pe_c c__law_is_number hr (by decide) rfl (pa_cons (pe_ix ix_seq (pv 0) (pe_int) (fun _ _ => rfl)) (pa_cons (pe_int) (pa_cons (pv 2) pa_nil)))))))))
    (pss_one (ps_ret (pe_bl)))
    pss_nil)
    (pss_one (ps_ret (pe_and (pe_cmpR op_lt (pe_ix ix_seq (pv 0) (pe_int) (fun _ _ => rfl)) (pe_ix ix_seq (pv 0) (pe_int) (fun _ _ => rfl)) (nomark _)) (pe_and (pe_c c__law_name_good hr (by decide) rfl (pa_cons (pe_ix ix_seq (pv 0) (pe_int) (fun _ _ => rfl)) pa_nil)) (pe_one (pe_c c__law_text_good hr (by decide) rfl (pa_cons (pe_ix ix_seq (pv 0) (pe_int) (fun _ _ => rfl)) pa_nil))))))))), ?_⟩
    refine ⟨_, rfl, (by show 2 ≤ sizeLine; decide), fun p hp => ?_⟩
    have sp := same_new (o := .tup [V.ty "list", V.ty "tuple"]) hp
    have no : ∀ {H'}, Same H H' → okD lo len d = false → Q (.bl false) H' := fun {H'} s e => by
      have q' := q H' s
      rw [e] at q'
      exact q'
    rcases hx.seq with ⟨hx, hn⟩ | ⟨a, xs, ds, rfl, hm, le, hpr, hs, hq⟩
    · rcases isi_seqA (K := K) (H := upd H p (.tup [V.ty "list", V.ty "tuple"])) (.inl hx.plain) with ⟨hpl, t, ty, kk⟩ | ⟨a, xs, rfl, _⟩
      · exact ⟨_, p, _, _, _, false, rfl, upd_same, .cons (.ty _) (.cons (.ty _) .nil), ty, kk, false, rfl, no sp (okD_noseq hn)⟩
      · exact hx.plain.elim
    have hq1 := hq.keep sp
    rcases isi_seqA (K := K) (H := upd H p (.tup [V.ty "list", V.ty "tuple"])) (x := .ref a) (.inr ⟨a, xs, rfl, hq1.symm⟩) with ⟨hpl, _⟩ | ⟨a', xs', e, _, t, ty, kk⟩
    · exact hpl.elim
    refine ⟨_, p, _, _, _, true, rfl, upd_same, .cons (.ty _) (.cons (.ty _) .nil), ty, kk, true, rfl, _, rfl, _, xs.length, rfl, hq1.lenv, rfl, _, rfl, ?_⟩
    by_cases e4 : xs.length = 4
    rotate_left
    · have : decide (V.int (xs.length : Nat) = V.int 4) = false := decide_eq_false fun z => e4 (by have := V.int.inj z; omega)
      rw [this]
      exact no sp (okD_few hs (by omega))
    have : decide (V.int (xs.length : Nat) = V.int 4) = true := decide_eq_true (by rw [e4]; rfl)
    rw [this]
    obtain ⟨va, vb, vc, ve, da, db, dc, de, rfl, rfl, ra, rb, rc, re⟩ := paired4 hpr e4
    have good := fun t => okD_parts (lo := lo) (len := len) hs ra rb rc re t
    generalize hH1 : (upd H p (.tup [V.ty "list", V.ty "tuple"])) = H1 at sp hq1 ⊢
    have no1 : ∀ {H'}, Same H H' → (okD lo len d = true → False) → Q (.bl false) H' := fun {H'} s t => no s (Bool.eq_false_iff.mpr t)
    refine ⟨_, rfl, hq1.ix (atI_nat (j := 0) rfl) ⟨_, rfl, _, rfl, va, lo, len, rfl, (ra.keep sp).any, _, rfl, ?_⟩⟩
    cases ia : inside va lo len with
    | false =>
      refine no1 sp fun g => ?_
      obtain ⟨i, j, n, z, e, _, _, _, _, gg⟩ := good g
      rw [e] at ia
      have : (decide (lo ≤ i) && decide (i ≤ len)) = false := ia
      have h1 : lo ≤ i := gg.lo
      have h2 : i < j := gg.lt
      have h3 : j ≤ len := gg.hi
      rw [decide_eq_true h1, decide_eq_true (by omega : i ≤ len)] at this
      cases this
    | true =>
    refine ⟨_, rfl, hq1.ix (atI_nat (j := 1) rfl) ⟨_, rfl, vb, 0, len, rfl, (rb.keep sp).any, _, rfl, ?_⟩⟩
    cases ib : inside vb 0 len with
    | false =>
      refine no1 sp fun g => ?_
      obtain ⟨i, j, n, z, _, e, _, _, _, gg⟩ := good g
      rw [e] at ib
      have : (decide (0 ≤ j) && decide (j ≤ len)) = false := ib
      have h1 : lo ≤ i := gg.lo
      have h2 : i < j := gg.lt
      have h3 : j ≤ len := gg.hi
      rw [decide_eq_true h3, decide_eq_true (by omega : 0 ≤ j)] at this
      cases this
    | true =>
    obtain ⟨i, rfl, hi1, hi2⟩ : ∃ i, va = .int i ∧ lo ≤ i ∧ i ≤ len := by
      cases va with
      | int i =>
        have : (decide (lo ≤ i) && decide (i ≤ len)) = true := ia
        rw [Bool.and_eq_true] at this
        exact ⟨i, rfl, of_decide_eq_true this.1, of_decide_eq_true this.2⟩
      | _ => cases ia
    obtain ⟨j, rfl, hj1, hj2⟩ : ∃ j, vb = .int j ∧ 0 ≤ j ∧ j ≤ len := by
      cases vb with
      | int i =>
        have : (decide (0 ≤ i) && decide (i ≤ len)) = true := ib
        rw [Bool.and_eq_true] at this
        exact ⟨i, rfl, of_decide_eq_true this.1, of_decide_eq_true this.2⟩
      | _ => cases ib
    obtain ⟨i', ei, eda⟩ := isInt_int ra rfl
    obtain ⟨j', ej, edb⟩ := isInt_int rb rfl
    cases ei
    cases ej
    subst eda edb
    refine ⟨_, rfl, hq1.ix (atI_nat (j := 0) rfl) ⟨_, rfl, hq1.ix (atI_nat (j := 1) rfl) ⟨_, _, rfl, rfl, _, rfl, ite2 (fun hlt => ?_) (fun hlt => ?_)⟩⟩⟩
    rotate_left
    · refine no1 sp fun g => ?_
      obtain ⟨i', j', n, z, e1, e2, _, _, _, gg⟩ := good g
      cases e1
      cases e2
      exact hlt (decide_eq_true gg.lt)
    have hij := of_decide_eq_true hlt
    refine ⟨_, rfl, hq1.ix (atI_nat (j := 2) rfl) ⟨vc, rfl, (rc.keep sp).any, fun z e => Nat.le_trans (rc.lenS z e) (by decide), fun H2 s2 => ⟨_, rfl, ?_⟩⟩⟩
    have s12 := sp.trans s2
    cases ic : nameV vc with
    | false =>
      refine iteF (no1 s12 fun g => ?_)
      obtain ⟨i, j, n, z, _, _, e, _, _, gg⟩ := good g
      rw [e, nameV_yes gg.nm] at ic
      cases ic
    | true =>
    obtain ⟨n, rfl, hn⟩ := nameV_good ic
    have en := is_str rc
    subst en
    have hq2 := hq1.keep s2
    refine iteT ⟨_, rfl, hq2.ix (atI_nat (j := 3) rfl) ⟨ve, rfl, (re.keep s12).any, fun z e => ⟨Nat.le_trans (re.strS z e).1 (by decide), (re.strS z e).2⟩, fun H3 s3 => ?_⟩⟩
    have s13 := s12.trans s3
    cases ie : textV ve with
    | false =>
      refine no1 s13 fun g => ?_
      obtain ⟨i, j, n, z, _, _, _, e, _, gg⟩ := good g
      rw [e, textV_yes gg.tx] at ie
      cases ie
    | true =>
    obtain ⟨z, rfl, hz⟩ := textV_good ie
    have ez := is_str re
    subst ez
    have ec : cueD d = some ⟨i, j, n, z⟩ := by
      unfold cueD
      rw [hs]
    have q' := q H3 s13
    rw [okD_of ec ⟨hn, hz, hi1, hij, hj2⟩] at q'
    exact q'
end
end Sea
namespace Sea
open PySem PySem.Spec PyProof.Rows L2
/-! things as lists and as tuples -/
mutual
def tupD : PyData → PyData
  | .list xs => .tuple (tupDs xs)
  | .tuple xs => .tuple (tupDs xs)
  | .dict kvs => .dict kvs
  | .none => .none
  | .bool b => .bool b
  | .int i => .int i
  | .str z => .str z
def tupDs : List PyData → List PyData
  | [] => []
  | x :: xs => tupD x :: tupDs xs
end
theorem tupDs_len : ∀ ds : List PyData, (tupDs ds).length = ds.length
  | [] => rfl
  | d :: r => congrArg (· + 1) (tupDs_len r)
theorem tupDs_map : ∀ ds : List PyData, tupDs ds = ds.map tupD
  | [] => rfl
  | d :: r => congrArg (tupD d :: ·) (tupDs_map r)
theorem tupD_seq {d : PyData} {ds : List PyData} (h : seqD d = some ds) : tupD d = .tuple (ds.map tupD) := by
  cases d with
  | tuple xs => rw [← tupDs_map]; cases h; rfl
  | list xs => rw [← tupDs_map]; cases h; rfl
  | _ => cases h
theorem tupD_sc {x : V} {d : PyData} (h : Sc x d) : tupD d = d := by
  cases d with
  | tuple ds => exact h.elim
  | list ds => exact h.elim
  | dict ds => exact h.elim
  | _ => rfl
theorem tupD_int {d : PyData} {i : Int} (h : tupD d = .int i) : d = .int i := by
  cases d with
  | int j => exact h
  | tuple ds => cases h
  | list ds => cases h
  | dict ds => cases h
  | none => cases h
  | bool b => cases h
  | str z => cases h
theorem tupD_str {d : PyData} {i : Str} (h : tupD d = .str i) : d = .str i := by
  cases d with
  | int j => cases h
  | tuple ds => cases h
  | list ds => cases h
  | dict ds => cases h
  | none => cases h
  | bool b => cases h
  | str z => exact h
theorem cueD_tup {d : PyData} {c : Cue} : cueD d = some c ↔ tupD d = cuP c := by
  constructor
  · intro h
    rw [tupD_seq (cueD_parts h)]
    rfl
  · intro h
    have hs : ∃ ds, seqD d = some ds := by
      cases d with
      | tuple ds => exact ⟨ds, rfl⟩
      | list ds => exact ⟨ds, rfl⟩
      | int j => cases h
      | dict ds => cases h
      | none => cases h
      | bool b => cases h
      | str z => cases h
    obtain ⟨ds, hs⟩ := hs
    rw [tupD_seq hs] at h
    have h2 : ds.map tupD = [.int c.s, .int c.e, .str c.nm, .str c.tx] := PyData.tuple.inj h
    have l4 : ds.length = 4 := by
      have := congrArg List.length h2
      rw [List.length_map] at this
      exact this
    obtain ⟨a, b, n, t, rfl⟩ : ∃ a b n t, ds = [a, b, n, t] := match ds, l4 with | [a, b, n, t], _ => ⟨a, b, n, t, rfl⟩
    obtain ⟨e1, h2⟩ := List.cons.inj h2
    obtain ⟨e2, h2⟩ := List.cons.inj h2
    obtain ⟨e3, h2⟩ := List.cons.inj h2
    obtain ⟨e4, h2⟩ := List.cons.inj h2
    have e1 := tupD_int e1
    have e2 := tupD_int e2
    have e3 := tupD_str e3
    have e4 := tupD_str e4
    subst e1 e2 e3 e4
    unfold cueD
    rw [hs]
theorem cueD_same {d d' : PyData} (h : tupD d' = tupD d) : cueD d' = cueD d := by
  cases e : cueD d with
  | some c => exact cueD_tup.mpr (h.trans (cueD_tup.mp e))
  | none =>
    cases e' : cueD d' with
    | none => rfl
    | some c =>
      rw [cueD_tup.mpr (h.symm.trans (cueD_tup.mp e'))] at e
      cases e
/-- what of H' is new since H -/
def NewH (H H' : Hp) : Hp := fun a =>
  match H a with
  | some _ => none
  | none => H' a
theorem new_at {H H' : Hp} {a : Addr} (h : H a = none) : NewH H H' a = H' a := by
  unfold NewH
  rw [h]
theorem new_old {H H' : Hp} {a : Addr} {o : HO} (h : NewH H H' a = some o) : H a = none ∧ H' a = some o := by
  cases e : H a with
  | none => rw [new_at e] at h; exact ⟨rfl, h⟩
  | some q =>
    unfold NewH at h
    rw [e] at h
    cases h
theorem new_sub {H H' : Hp} : Same (NewH H H') H' := fun a o h => (new_old h).2
theorem new_mono {H G H' G' : Hp} (h1 : ∀ a, G a = none → H a = none) (h2 : ∀ a o, G a = none → G' a = some o → H' a = some o) : Same (NewH G G') (NewH H H') := fun a o h => by
  obtain ⟨q1, q2⟩ := new_old h
  rw [new_at (h1 _ q1)]
  exact h2 _ _ q1 q2
theorem same_none {H H' : Hp} {a : Addr} (s : Same H H') (h : H' a = none) : H a = none := by
  cases e : H a with
  | none => rfl
  | some o => rw [s _ _ e] at h; cases h
def spListsN (ms : List Nat) : Sp := fun vs H Q _ => ∃ (x : V) (d : PyData), vs = [x] ∧ Th true ms H x d ∧ ∀ (H' : Hp) (y : V) (d' : PyData), Same H H' → Th true ms (NewH H H') y d' → tupD d' = tupD d → Q y H'
def spTuplesN (ms : List Nat) : Sp := fun vs H Q _ => ∃ (x : V) (d : PyData), vs = [x] ∧ Th true ms H x d ∧ ∀ (H' : Hp) (y : V), Same H H' → Th false ms H' y (tupD d) → Q y H'
theorem paired_app {α β : Type} {R : α → β → Prop} : ∀ {l : List α} {r : List β} {a : α} {b : β}, Paired R l r → R a b → Paired R (l ++ [a]) (r ++ [b])
  | _, _, _, _, .nil, h => .cons h .nil
  | _, _, _, _, .cons a t, h => .cons a (paired_app t h)
section
variable {P : Program} {w : World} {K : PySem.W.Frag} {mg : Str → Option Value} {base : Heap}
theorem ok_listsN {f : Addr} {fd : FuncData} (F : Fun K "_law_lists" "_law_lists" s__law_lists f fd) (m_isinstance : mg "isinstance" = none) (m_list : mg "list" = none) (m_tuple : mg "tuple" = none) {k : Nat} {sp : Sp} {ms : List Nat}
    (small : ∀ m ∈ ms, m ≤ 1000) (c__law_lists : Cal P w K mg base k "_law_lists" sp) (hyp : ∀ m r, ms = m :: r → sp = spListsN r) : FnOk P w K mg base CX0 (k + 1) f fd ["_law_thing"] (spListsN ms) := by
  refine F.ok sc__law_lists (fun vs H Q E h => ?_) (fun cdv A outer s H vs Q E hr h => ?_)
  · obtain ⟨x, d, rfl, _⟩ := h
    rfl
  · obtain ⟨x, d, rfl, hx, q⟩ := h
    refine ⟨_, (pss_cons (ps_if (pt_val (pe_callB call_isiT (by rfl) m_isinstance (by decide +kernel) (pa_cons (pv 0) (pa_cons (pe_tup (pa_cons (pe_bltn (v := .ty "list") (by rfl) m_list (by decide +kernel) rfl) (pa_cons (pe_bltn (v := .ty "tuple") (by rfl) m_tuple (by decide +kernel) rfl) pa_nil))) pa_nil))))
    (pss_one (ps_ret (pe_lc (own := [("_law_part", 1)]) rfl sc__law_lists.nd (pi_lt (pv 0)) (blkOk_by (N := N__law_lists) (sc := defScope s__law_lists) (by decide +kernel)) (fun _ _ _ _ _ => (pg_name (i := 1) sc__law_lists.nd rfl (Or.inl rfl))) (fun _ _ _ _ _ => pts_nil) (fun _ _ _ _ _ => (pe_c c__law_lists hr (Nat.le_refl _) rfl (pa_cons (pv 1) pa_nil))))))
    pss_nil)
    (pss_one (ps_ret (pv 0)))), ?_⟩
    refine ⟨_, rfl, (by show 2 ≤ sizeLine; decide), fun p hp => ?_⟩
    have sp0 := same_new (o := .tup [V.ty "list", V.ty "tuple"]) hp
    have plain : Sc x d → _ := fun hsc => q _ x d sp0 hsc.th rfl
    have ways : Sc x d ∨ ∃ (m : Nat) (r : List Nat) (a : Addr) (xs : List V) (ds : List PyData), ms = m :: r ∧ x = .ref a ∧ ds.length ≤ m ∧ xs.length = ds.length ∧ Paired (Th true r H) xs ds ∧ seqD d = some ds ∧ Sq2 H a xs := by
      cases ms with
      | nil => exact .inl hx
      | cons m r =>
        rcases hx.seq with ⟨h, _⟩ | ⟨a, xs, ds, h⟩
        · exact .inl h
        · exact .inr ⟨m, r, a, xs, ds, rfl, h⟩
    rcases ways with hsc | ⟨m, r, a, xs, ds, em, rfl, hm, le, hpr, hs, hq⟩
    · rcases isi_seqA (K := K) (H := upd H p (.tup [V.ty "list", V.ty "tuple"])) (.inl hsc.plain) with ⟨hpl, t, ty, kk⟩ | ⟨a, xs, rfl, _⟩
      · exact ⟨_, p, _, _, _, false, rfl, upd_same, .cons (.ty _) (.cons (.ty _) .nil), ty, kk, false, rfl, _, rfl, plain hsc⟩
      · exact hsc.plain.elim
    have es := hyp m r em
    subst em es
    have hq1 := hq.keep sp0
    rcases isi_seqA (K := K) (H := upd H p (.tup [V.ty "list", V.ty "tuple"])) (x := .ref a) (.inr ⟨a, xs, rfl, hq1.symm⟩) with ⟨hpl, _⟩ | ⟨a', xs', e, _, t, ty, kk⟩
    · exact hpl.elim
    refine ⟨_, p, _, _, _, true, rfl, upd_same, .cons (.ty _) (.cons (.ty _) .nil), ty, kk, true, rfl, _, rfl, a, rfl, ?_⟩
    generalize hH1 : (upd H p (.tup [V.ty "list", V.ty "tuple"])) = H1 at sp0 hq1 ⊢
    have m1000 := small m List.mem_cons_self
    rcases hq1 with hq1 | hq1
    · refine .inr ⟨⟨_, SqT.of hq1⟩, fun D hD => ?_⟩
      refine lc_it walk_tup (fun i H' => Same H1 H' ∧ ∃ (ys : List V) (es : List PyData), H' D = some (.lst ys) ∧ Paired (Th true r (NewH (upd H1 D (.lst [])) H')) ys es ∧ es.map tupD = (ds.take i).map tupD) ⟨same_new hD, [], [], upd_same, .nil, rfl⟩ (fun i H' _ hv => SqT.of (hv.1 _ _ hq1)) ?_ ?_
      · rintro i x Ha Hb hi ⟨ha, ys, es, hd, hpy, hes⟩ ⟨rfl, hy⟩
        obtain ⟨dy, hdy, ry⟩ := paired_get' hpr hy
        have hi2 : i < ds.length := (List.getElem?_eq_some_iff.mp hdy).1
        have hDa : ∀ b, Hb b = none → (upd H1 D (.lst [])) b = none := fun b hb => by
          have n1 : b ≠ D := fun z => by rw [z, hd] at hb; cases hb
          rw [upd_ne n1]
          exact same_none ha hb
        refine ⟨rfl, _, rfl, x, dy, rfl, ry.keep (sp0.trans ha), fun H2 y d' s2 t2 e2 => ⟨ys, s2 _ _ hd, ?_, same_over (ha.trans s2) hD, ys ++ [y], es ++ [d'], upd_same, ?_, ?_⟩⟩
        · rw [paired_len hpy]
          have := congrArg List.length hes
          rw [List.length_map, List.length_map, List.length_take] at this
          exact small_line (by omega)
        · have k1 : Same (NewH (upd H1 D (.lst [])) Hb) (NewH (upd H1 D (.lst [])) (upd H2 D (.lst (ys ++ [y])))) := new_mono (fun b hb => hb) fun b o hb ho => by
            have n1 : b ≠ D := fun z => by rw [z, upd_same] at hb; cases hb
            rw [upd_ne n1]
            exact s2 _ _ ho
          have k2 : Same (NewH Hb H2) (NewH (upd H1 D (.lst [])) (upd H2 D (.lst (ys ++ [y])))) := new_mono hDa fun b o hb ho => by
            have n1 : b ≠ D := fun z => by rw [z, hd] at hb; cases hb
            rw [upd_ne n1]
            exact ho
          exact paired_app (paired_imp (fun u v h => h.keep k1) hpy) (t2.keep k2)
        · rw [List.map_append, hes, List.take_add_one, hdy, List.map_append]
          show _ ++ [tupD d'] = _ ++ [tupD dy]
          rw [e2]
      · rintro H' ⟨ha, ys, es, hd, hpy, hes⟩
        rw [le, List.take_length] at hes
        have nD : H D = none := same_none sp0 hD
        have el : es.length = ds.length := by
          have := congrArg List.length hes
          rw [List.length_map, List.length_map] at this
          exact this
        have k1 : Same (NewH (upd H1 D (.lst [])) H') (NewH H H') := new_mono (fun b hb => by
          have n1 : b ≠ D := fun z => by rw [z, upd_same] at hb; cases hb
          rw [upd_ne n1] at hb
          exact same_none sp0 hb) fun b o hb ho => ho
        refine q H' (.ref D) (.list es) (sp0.trans ha) (.inr ⟨D, ys, es, rfl, by omega, paired_imp (fun u v h => h.keep k1) hpy, .inr ⟨rfl, rfl, ?_⟩⟩) ?_
        · rw [new_at nD]
          exact hd
        · rw [tupD_seq hs, tupD_seq (ds := es) rfl, hes]
    · refine .inl ⟨⟨_, SqL.of hq1⟩, fun D hD => ?_⟩
      refine lc_it walk_list (fun i H' => Same H1 H' ∧ ∃ (ys : List V) (es : List PyData), H' D = some (.lst ys) ∧ Paired (Th true r (NewH (upd H1 D (.lst [])) H')) ys es ∧ es.map tupD = (ds.take i).map tupD) ⟨same_new hD, [], [], upd_same, .nil, rfl⟩ (fun i H' _ hv => SqL.of (hv.1 _ _ hq1)) ?_ ?_
      · rintro i x Ha Hb hi ⟨ha, ys, es, hd, hpy, hes⟩ ⟨rfl, hy⟩
        obtain ⟨dy, hdy, ry⟩ := paired_get' hpr hy
        have hi2 : i < ds.length := (List.getElem?_eq_some_iff.mp hdy).1
        have hDa : ∀ b, Hb b = none → (upd H1 D (.lst [])) b = none := fun b hb => by
          have n1 : b ≠ D := fun z => by rw [z, hd] at hb; cases hb
          rw [upd_ne n1]
          exact same_none ha hb
        refine ⟨rfl, _, rfl, x, dy, rfl, ry.keep (sp0.trans ha), fun H2 y d' s2 t2 e2 => ⟨ys, s2 _ _ hd, ?_, same_over (ha.trans s2) hD, ys ++ [y], es ++ [d'], upd_same, ?_, ?_⟩⟩
        · rw [paired_len hpy]
          have := congrArg List.length hes
          rw [List.length_map, List.length_map, List.length_take] at this
          exact small_line (by omega)
        · have k1 : Same (NewH (upd H1 D (.lst [])) Hb) (NewH (upd H1 D (.lst [])) (upd H2 D (.lst (ys ++ [y])))) := new_mono (fun b hb => hb) fun b o hb ho => by
            have n1 : b ≠ D := fun z => by rw [z, upd_same] at hb; cases hb
            rw [upd_ne n1]
            exact s2 _ _ ho
          have k2 : Same (NewH Hb H2) (NewH (upd H1 D (.lst [])) (upd H2 D (.lst (ys ++ [y])))) := new_mono hDa fun b o hb ho => by
            have n1 : b ≠ D := fun z => by rw [z, hd] at hb; cases hb
            rw [upd_ne n1]
            exact ho
          exact paired_app (paired_imp (fun u v h => h.keep k1) hpy) (t2.keep k2)
        · rw [List.map_append, hes, List.take_add_one, hdy, List.map_append]
          show _ ++ [tupD d'] = _ ++ [tupD dy]
          rw [e2]
      · rintro H' ⟨ha, ys, es, hd, hpy, hes⟩
        rw [le, List.take_length] at hes
        have nD : H D = none := same_none sp0 hD
        have el : es.length = ds.length := by
          have := congrArg List.length hes
          rw [List.length_map, List.length_map] at this
          exact this
        have k1 : Same (NewH (upd H1 D (.lst [])) H') (NewH H H') := new_mono (fun b hb => by
          have n1 : b ≠ D := fun z => by rw [z, upd_same] at hb; cases hb
          rw [upd_ne n1] at hb
          exact same_none sp0 hb) fun b o hb ho => ho
        refine q H' (.ref D) (.list es) (sp0.trans ha) (.inr ⟨D, ys, es, rfl, by omega, paired_imp (fun u v h => h.keep k1) hpy, .inr ⟨rfl, rfl, ?_⟩⟩) ?_
        · rw [new_at nD]
          exact hd
        · rw [tupD_seq hs, tupD_seq (ds := es) rfl, hes]
theorem ok_tuplesN {f : Addr} {fd : FuncData} (F : Fun K "_law_tuples" "_law_tuples" s__law_tuples f fd) (m_isinstance : mg "isinstance" = none) (m_list : mg "list" = none) (m_tuple : mg "tuple" = none) {k : Nat} {sp : Sp} {ms : List Nat}
    (small : ∀ m ∈ ms, m ≤ 1000) (c__law_tuples : Cal P w K mg base k "_law_tuples" sp) (hyp : ∀ m r, ms = m :: r → sp = spTuplesN r) : FnOk P w K mg base CX0 (k + 1) f fd ["_law_thing"] (spTuplesN ms) := by
  refine F.ok sc__law_tuples (fun vs H Q E h => ?_) (fun cdv A outer s H vs Q E hr h => ?_)
  · obtain ⟨x, d, rfl, _⟩ := h
    rfl
  · obtain ⟨x, d, rfl, hx, q⟩ := h
    refine ⟨_, (pss_cons (ps_if (pt_val (pe_callB call_isiT (by rfl) m_isinstance (by decide +kernel) (pa_cons (pv 0) (pa_cons (pe_tup (pa_cons (pe_bltn (v := .ty "list") (by rfl) m_list (by decide +kernel) rfl) (pa_cons (pe_bltn (v := .ty "tuple") (by rfl) m_tuple (by decide +kernel) rfl) pa_nil))) pa_nil))))
    (pss_one (ps_ret (pe_callTy call_tuple_of (by rfl) m_tuple (by decide +kernel) (pa_cons (pe_lc (own := [("_law_part", 1)]) rfl sc__law_tuples.nd (pi_lt (pv 0)) (blkOk_by (N := N__law_tuples) (sc := defScope s__law_tuples) (by decide +kernel)) (fun _ _ _ _ _ => (pg_name (i := 1) sc__law_tuples.nd rfl (Or.inl rfl))) (fun _ _ _ _ _ => pts_nil) (fun _ _ _ _ _ => (pe_c c__law_tuples hr (Nat.le_refl _) rfl (pa_cons (pv 1) pa_nil)))) pa_nil))))
    pss_nil)
    (pss_one (ps_ret (pv 0)))), ?_⟩
    refine ⟨_, rfl, (by show 2 ≤ sizeLine; decide), fun p hp => ?_⟩
    have sp0 := same_new (o := .tup [V.ty "list", V.ty "tuple"]) hp
    have plain : Sc x d → _ := fun hsc => q _ x sp0 (by rw [tupD_sc hsc]; exact hsc.th)
    have ways : Sc x d ∨ ∃ (m : Nat) (r : List Nat) (a : Addr) (xs : List V) (ds : List PyData), ms = m :: r ∧ x = .ref a ∧ ds.length ≤ m ∧ xs.length = ds.length ∧ Paired (Th true r H) xs ds ∧ seqD d = some ds ∧ Sq2 H a xs := by
      cases ms with
      | nil => exact .inl hx
      | cons m r =>
        rcases hx.seq with ⟨h, _⟩ | ⟨a, xs, ds, h⟩
        · exact .inl h
        · exact .inr ⟨m, r, a, xs, ds, rfl, h⟩
    rcases ways with hsc | ⟨m, r, a, xs, ds, em, rfl, hm, le, hpr, hs, hq⟩
    · rcases isi_seqA (K := K) (H := upd H p (.tup [V.ty "list", V.ty "tuple"])) (.inl hsc.plain) with ⟨hpl, t, ty, kk⟩ | ⟨a, xs, rfl, _⟩
      · exact ⟨_, p, _, _, _, false, rfl, upd_same, .cons (.ty _) (.cons (.ty _) .nil), ty, kk, false, rfl, _, rfl, plain hsc⟩
      · exact hsc.plain.elim
    have es := hyp m r em
    subst em es
    have hq1 := hq.keep sp0
    rcases isi_seqA (K := K) (H := upd H p (.tup [V.ty "list", V.ty "tuple"])) (x := .ref a) (.inr ⟨a, xs, rfl, hq1.symm⟩) with ⟨hpl, _⟩ | ⟨a', xs', e, _, t, ty, kk⟩
    · exact hpl.elim
    refine ⟨_, p, _, _, _, true, rfl, upd_same, .cons (.ty _) (.cons (.ty _) .nil), ty, kk, true, rfl, _, rfl, a, rfl, ?_⟩
    generalize hH1 : (upd H p (.tup [V.ty "list", V.ty "tuple"])) = H1 at sp0 hq1 ⊢
    have m1000 := small m List.mem_cons_self
    rcases hq1 with hq1 | hq1
    · refine .inr ⟨⟨_, SqT.of hq1⟩, fun D hD => ?_⟩
      refine lc_it walk_tup (fun i H' => Same H1 H' ∧ ∃ ys : List V, H' D = some (.lst ys) ∧ Paired (Th false r H') ys ((ds.take i).map tupD)) ⟨same_new hD, [], upd_same, .nil⟩ (fun i H' _ hv => SqT.of (hv.1 _ _ hq1)) ?_ ?_
      · rintro i x Ha Hb hi ⟨ha, ys, hd, hpy⟩ ⟨rfl, hy⟩
        obtain ⟨dy, hdy, ry⟩ := paired_get' hpr hy
        have hi2 : i < ds.length := (List.getElem?_eq_some_iff.mp hdy).1
        refine ⟨rfl, _, rfl, x, dy, rfl, ry.keep (sp0.trans ha), fun H2 y s2 t2 => ⟨ys, s2 _ _ hd, ?_, same_over (ha.trans s2) hD, ys ++ [y], upd_same, ?_⟩⟩
        · rw [paired_len hpy, List.length_map, List.length_take]
          exact small_line (by omega)
        · have ko : KT H2 (upd H2 D (.lst (ys ++ [y]))) := (KT.refl H2).over (s2 _ _ hd)
          rw [List.take_add_one, hdy, List.map_append]
          exact paired_app (paired_imp (fun u v h => (h.keep s2).kt ko) hpy) (t2.kt ko)
      · rintro H' ⟨ha, ys, hd, hpy⟩
        rw [le, List.take_length] at hpy
        have le2 := paired_len hpy
        rw [List.length_map] at le2
        refine ⟨D, _, rfl, .inl ⟨SqL.of hd, fun l hl => ?_⟩⟩
        have s3 := same_new (o := .tup ys) hl
        refine q _ (.ref l) ((sp0.trans ha).trans s3) ?_
        rw [tupD_seq hs]
        exact .inr ⟨l, ys, ds.map tupD, rfl, (by rw [List.length_map]; omega), paired_imp (fun u v h => h.keep s3) hpy, .inl ⟨rfl, upd_same⟩⟩
    · refine .inl ⟨⟨_, SqL.of hq1⟩, fun D hD => ?_⟩
      refine lc_it walk_list (fun i H' => Same H1 H' ∧ ∃ ys : List V, H' D = some (.lst ys) ∧ Paired (Th false r H') ys ((ds.take i).map tupD)) ⟨same_new hD, [], upd_same, .nil⟩ (fun i H' _ hv => SqL.of (hv.1 _ _ hq1)) ?_ ?_
      · rintro i x Ha Hb hi ⟨ha, ys, hd, hpy⟩ ⟨rfl, hy⟩
        obtain ⟨dy, hdy, ry⟩ := paired_get' hpr hy
        have hi2 : i < ds.length := (List.getElem?_eq_some_iff.mp hdy).1
        refine ⟨rfl, _, rfl, x, dy, rfl, ry.keep (sp0.trans ha), fun H2 y s2 t2 => ⟨ys, s2 _ _ hd, ?_, same_over (ha.trans s2) hD, ys ++ [y], upd_same, ?_⟩⟩
        · rw [paired_len hpy, List.length_map, List.length_take]
          exact small_line (by omega)
        · have ko : KT H2 (upd H2 D (.lst (ys ++ [y]))) := (KT.refl H2).over (s2 _ _ hd)
          rw [List.take_add_one, hdy, List.map_append]
          exact paired_app (paired_imp (fun u v h => (h.keep s2).kt ko) hpy) (t2.kt ko)
      · rintro H' ⟨ha, ys, hd, hpy⟩
        rw [le, List.take_length] at hpy
        have le2 := paired_len hpy
        rw [List.length_map] at le2
        refine ⟨D, _, rfl, .inl ⟨SqL.of hd, fun l hl => ?_⟩⟩
        have s3 := same_new (o := .tup ys) hl
        refine q _ (.ref l) ((sp0.trans ha).trans s3) ?_
        rw [tupD_seq hs]
        exact .inr ⟨l, ys, ds.map tupD, rfl, (by rw [List.length_map]; omega), paired_imp (fun u v h => h.keep s3) hpy, .inl ⟨rfl, upd_same⟩⟩
end
end Sea
/-! C(e, ..) where what is raised is wished for at the caller's slots -/
namespace Sea
open PySem PySem.Spec PyProof.Rows L2
section
variable {X : Cx} {CX : CXT} {k : Nat} {f C : Addr} {fd : FuncData} {ps : List Str} {sp : Sp} {dvs : List V} {ds : List Value} {E : L2.St → XK} {x : Str} {p pos : Pos} {e : Expr} {es : List Expr} {t : TA}
def tMakeS (C : Addr) (sp : Sp) (dvs : List V) (E : L2.St → XK) (t : TA) : TE := fun σ H Q => t σ H fun vs H1 => ∀ x dx, H1 x = none → H1 dx = none → dx ≠ x →
  sp (.ref x :: (vs ++ dvs)) (upd (upd H1 dx (.own x)) x (.ins C dx [])) (fun v H2 => v = .non ∧ Q (.ref x) H2) (E σ)
theorem run_makeS {pins : List (Addr × Obj)} {σ : L2.St} {H : Hp} {s : Shared} {Q : VK} {us : List Value} {vs : List V} (M : Mk X.K C f) (F : FnOk X.prog X.w X.K X.mg X.base CX k f fd ps sp) (hr : Room (k + 1) X.A) (hb : Binds X.K fd ps ds) (hd : Vals dvs ds)
    (hx : PassesAt CX X σ (E σ)) (I : Inv X pins σ H s) (r : Vals vs us)
    (h : ∀ x dx, H x = none → H dx = none → dx ≠ x → sp (.ref x :: (vs ++ dvs)) (upd (upd H dx (.own x)) x (.ins C dx [])) (fun v H2 => v = .non ∧ Q (.ref x) H2) (E σ)) :
    wpAny (model X.prog X.w) X.A (call (.ref C) us) (EP X pins σ Q) X.xe s := by
  have hq := h (s.heap.objs.size + 1) s.heap.objs.size (I.hok.fresh (Nat.le_succ _)) (I.hok.fresh (Nat.le_refl _)) (Nat.ne_of_lt (Nat.lt_succ_self _))
  have I2 := Inv.made (C := C) I
  have r2 : Vals (V.ref (s.heap.objs.size + 1) :: (vs ++ dvs)) (Value.ref (s.heap.objs.size + 1) :: (us ++ ds)) := .cons rfl (r.append hd)
  have hl : (Value.ref (s.heap.objs.size + 1) :: us ++ ds).length = ps.length := by
    have e := r2.length
    rw [F.len _ _ _ _ hq] at e
    exact e.symm
  refine wpAny_call (make_map (f := f) I.kIn M.makes M.init (beq_iff_eq.mp M.fn) (codeAny_mono (F.run _ X.stack _ _ ⟨Value.ref (s.heap.objs.size + 1) :: us, []⟩ (Value.ref (s.heap.objs.size + 1) :: (us ++ ds)) _ _ (E σ) (hr.make C us [])
    (I2.env0.make C us []) (hb _ (Value.ref (s.heap.objs.size + 1) :: us) I2.kIn hl) r2 hq) fun r s' hq' => ?_))
  cases r with
  | error e => exact hx pins _ _ e s' I2 hq'
  | ok fl =>
    cases fl with
    | ret u =>
      obtain ⟨v, H', I3, rv, ev, q3⟩ := I2.after hq'
      subst ev
      exact ⟨rv, ⟨V.ref (s.heap.objs.size + 1), H', I3, rfl, q3⟩⟩
    | next => exact False.elim hq'
    | brk => exact False.elim hq'
    | cont => exact False.elim hq'
theorem pe_makeS (M : Mk X.K C f) (F : FnOk X.prog X.w X.K X.mg X.base CX k f fd ps sp) (hr : Room (k + 1) X.A) (hg : Gl X x) (hm : X.mg x = some (.ref C)) (hb : Binds X.K fd ps ds) (hd : Vals dvs ds) (hx : ∀ σ, PassesAt CX X σ (E σ))
    (ha : PA X (e :: es) t) (hdb : (x == ("__debug__" : Str)) = false := by decide) (he : starEach (e :: es) X.env = (false, eval e X.env) :: starEach es X.env := by rfl) (hpl : (backTo pos (starEach es X.env)).any (·.1) = false := by rfl) :
    PE X (.Call (.Name x p) (e :: es) [] pos) (tMakeS C sp dvs E t) := by
  refine ⟨fun pins s σ H Q I h => ?_⟩
  refine wpAny_Call_Name_kw (ld_glob I hg hm ?_ hdb)
  refine PySem.W.callWith_K (h₀ := X.base) I.ok.mod.kin M.kp (thn (ha.run pos pins s σ H _ I h) fun us s1 ⟨vs, H1, I1, r, q⟩ => ⟨I1.kIn, ?_⟩) he hpl
  exact run_makeS M F hr hb hd (hx σ) I1 r q
end
end Sea
namespace Sea
open PySem PySem.Spec PyProof.Rows L2
/-! what is due of a length and cues, and how the program refuses them -/
def lenOf : V → Int
  | .int i => i
  | _ => 0
abbrev sBL : Str := Str.ofString "BadLength"
abbrev sBC : Str := Str.ofString "BadCue"
abbrev sTM : Str := Str.ofString "TooMany"
/-- what is due: which error, what it is told with -/
noncomputable def dueK (lx : V) (cd : PyData) : Option (Nat × V) :=
  if inside lx 1 2000 = false then some (0, lx) else
    match seqD cd with
    | none => some (1, .int (-1))
    | some ds =>
      match judgeD (lenOf lx) 0 ds with
      | some k => some (1, .int (k : Nat))
      | none => if 40 < ds.length then some (2, .str (Str.ofString "cue")) else none
/-- as the law tells it -/
def dueVs (ld : PyData) : Option (Nat × V) → List V
  | some (0, _) => [.str sBL, .str ld.shown]
  | some (1, v) => [.str sBC, v]
  | some (_, v) => [.str sTM, v]
  | none => [.str (Str.ofString "none")]
def refVs (ld : PyData) : Option (Nat × V) → List V
  | none => [.str (Str.ofString "none")]
  | some p => dueVs ld (some p) ++ [.bl false]
theorem inside_is {lx : V} {a b : Int} (h : inside lx a b = true) : ∃ i, lx = .int i ∧ a ≤ i ∧ i ≤ b := by
  cases lx with
  | int i =>
    have : (decide (a ≤ i) && decide (i ≤ b)) = true := h
    rw [Bool.and_eq_true] at this
    exact ⟨i, rfl, of_decide_eq_true this.1, of_decide_eq_true this.2⟩
  | _ => cases h
theorem due_len {lx : V} {cd : PyData} (h : inside lx 1 2000 = false) : dueK lx cd = some (0, lx) := if_pos h
theorem due_not {i : Int} {cd : PyData} (h : inside (.int i) 1 2000 = true) (hs : seqD cd = none) : dueK (.int i) cd = some (1, .int (-1)) := by
  unfold dueK
  rw [if_neg (by rw [h]; simp), hs]
theorem due_cue {i : Int} {cd : PyData} {ds : List PyData} {k : Nat} (h : inside (.int i) 1 2000 = true) (hs : seqD cd = some ds) (hj : judgeD i 0 ds = some k) : dueK (.int i) cd = some (1, .int (k : Nat)) := by
  unfold dueK
  rw [if_neg (by rw [h]; simp), hs]
  show (match judgeD i 0 ds with | some k => _ | none => _) = _
  rw [hj]
theorem due_many {i : Int} {cd : PyData} {ds : List PyData} (h : inside (.int i) 1 2000 = true) (hs : seqD cd = some ds) (hj : judgeD i 0 ds = none) (hl : 40 < ds.length) : dueK (.int i) cd = some (2, .str (Str.ofString "cue")) := by
  unfold dueK
  rw [if_neg (by rw [h]; simp), hs]
  show (match judgeD i 0 ds with | some k => _ | none => _) = _
  rw [hj]
  exact if_pos hl
theorem due_none {i : Int} {cd : PyData} {ds : List PyData} (h : inside (.int i) 1 2000 = true) (hs : seqD cd = some ds) (hj : judgeD i 0 ds = none) (hl : ds.length ≤ 40) : dueK (.int i) cd = none := by
  unfold dueK
  rw [if_neg (by rw [h]; simp), hs]
  show (match judgeD i 0 ds with | some k => _ | none => _) = _
  rw [hj]
  exact if_neg (by omega)
theorem Th.reprF {l : Bool} {ms : List Nat} {H : Hp} {x : V} {d : PyData} (h : Th l ms H x d) (hm : sizeB ms ≤ sizeLine) (hl : ms.length ≤ 50) :
    d.showable = true ∧ d.hasDict = false ∧ d.depth ≤ 50 ∧ d.shown.length ≤ sizeLine ∧ (∀ i, d = .int i → i.natAbs.log2 < 1920) := by
  obtain ⟨a1, a2, a3, a4⟩ := h.show
  refine ⟨a1, a2, Nat.le_trans a3 hl, Nat.le_trans a4 hm, fun i e => ?_⟩
  subst e
  exact of_decide_eq_true a1
def rRepr (K : PySem.W.Frag) : List V → Hp → VK → Prop := fun xs H Q => ∃ (x : V) (d : PyData), xs = [x] ∧ Dp K H x d ∧ d.showable = true ∧ d.hasDict = false ∧ d.depth ≤ 50 ∧ d.shown.length ≤ sizeLine ∧ (∀ i, d = .int i → i.natAbs.log2 < 1920) ∧ Q (.str d.shown) H
theorem size1 : sizeB [1] ≤ sizeLine := by rw [sizeLine_eq]; decide
theorem size0 : sizeB [] ≤ sizeLine := by rw [sizeLine_eq]; decide
theorem size3 : sizeB [60, 5, 1] ≤ sizeLine := by rw [sizeLine_eq]; decide
noncomputable def spDueL : Sp := fun vs H Q _ => ∃ (lx cx : V) (ld cd : PyData), vs = [lx, cx] ∧ Th true [1] H lx ld ∧ Th true [60, 5, 1] H cx cd ∧ ∀ H' t, Same H H' → H' t = some (.tup (dueVs ld (dueK lx cd))) → Q (.ref t) H'
noncomputable def spRefuseL : Sp := fun vs H Q _ => ∃ (lx cx : V) (ld cd : PyData), vs = [lx, cx] ∧ Th true [1] H lx ld ∧ Th true [60, 5, 1] H cx cd ∧ ∀ H' t, Same H H' → H' t = some (.tup (refVs ld (dueK lx cd))) → Q (.ref t) H'
noncomputable def spUnderL : Sp := fun vs H Q _ => ∃ (lx cx : V) (ld cd : PyData), vs = [lx, cx] ∧ Th true [1] H lx ld ∧ Th true [60, 5, 1] H cx cd ∧ dueK lx cd ≠ none ∧ ∀ H', Same H H' → Q (.bl true) H'
def spNoCue (CR : Addr) : Sp := fun vs H Q _ => ∃ (x : Addr) (len : Int) (L : List (Addr × Cue)) (k : V) (d : PyData), vs = [.ref x, k] ∧ ReelAt H CR x len L ∧ Sc k d ∧ inside k 0 ((L.length : Nat) - 1) = false ∧ ∀ H', Same H H' → Q (.bl true) H'
/-- Reel(lx, cx) -/
theorem reel_reads {K : PySem.W.Frag} {CR CB CM CLn : Addr} {H1 : Hp} {lx cx : V} {ld cd : PyData} {Qr : Addr → Hp → Prop} {E : XK} (hl : Th true [1] H1 lx ld) (hc : ArgC K H1 cx cd)
    (bad0 : ∀ H2 q, dueK lx cd = some (0, lx) → Same H1 H2 → H2 q = none → E (.ref CLn) (some q) (upd H2 q (.xd [(("length" : Str), lx)])))
    (bad1 : ∀ v H2 q, dueK lx cd = some (1, v) → Plain v → Same H1 H2 → H2 q = none → E (.ref CB) (some q) (upd H2 q (.xd [(("number" : Str), v)])))
    (bad2 : ∀ v H2 q, dueK lx cd = some (2, v) → Plain v → Same H1 H2 → H2 q = none → E (.ref CM) (some q) (upd H2 q (.xd [(("word" : Str), v)])))
    (good : ∀ len ds H2 x L, lx = .int len → 1 ≤ len → len ≤ 2000 → seqD cd = some ds → judgeD len 0 ds = none → ds.length ≤ 40 → dueK lx cd = none → Same H1 H2 → ReelAt H2 CR x len L → (cuesC L).map some = ds.map cueD → (∀ c ∈ cuesC L, CueG c) → Qr x H2) :
    ∀ x dx, H1 x = none → H1 dx = none → dx ≠ x → spReelA K CR CB CM CLn (.ref x :: ([lx, cx] ++ [])) (upd (upd H1 dx (.own x)) x (.ins CR dx [])) (fun v H2 => v = .non ∧ Qr x H2) E := by
  intro x dx hx hdx ne
  have sN : Same H1 (upd (upd H1 dx (.own x)) x (.ins CR dx [])) := fun c o e => by
    rw [upd_ne (ne_of_none e hx), upd_ne (ne_of_none e hdx)]
    exact e
  have sk : ∀ {H2}, KB x (upd (upd H1 dx (.own x)) x (.ins CR dx [])) H2 → Same H1 H2 := fun {H2} k c o e => k c o (ne_of_none e hx) (sN _ _ e)
  refine ⟨x, dx, lx, cx, ld, cd, rfl, upd_same, hl.keep sN, hc.keep sN, fun hI H' q kb hq => bad0 H' q (due_len hI) (sk kb) hq, fun len e h1 h2 => ?_⟩
  have hI : inside (.int len) 1 2000 = true := by
    show (decide (1 ≤ len) && decide (len ≤ 2000)) = true
    rw [decide_eq_true h1, decide_eq_true h2]
    rfl
  subst e
  exact ⟨fun hs H' q kb hq => bad1 _ H' q (due_not hI hs) trivial (sk kb) hq, fun ds k hs hj H' q kb hq => bad1 _ H' q (due_cue hI hs hj) trivial (sk kb) hq, fun ds hs hj hm H' q kb hq => bad2 _ H' q (due_many hI hs hj hm) trivial (sk kb) hq,
    fun ds hs hj hm H' L kb hR hcs hg => ⟨rfl, good len ds H' x L rfl h1 h2 hs hj hm (due_none hI hs hj hm) (sk kb) hR hcs hg⟩⟩
/-- the classes of errors, one against the other -/
structure EX3 (K : PySem.W.Frag) (CL CB CM CE : Addr) : Prop where
  ll : PySem.W.exmOne K (.ref CL) (.ref CL) = some true
  bl : PySem.W.exmOne K (.ref CB) (.ref CL) = some false
  bb : PySem.W.exmOne K (.ref CB) (.ref CB) = some true
  ml : PySem.W.exmOne K (.ref CM) (.ref CL) = some false
  mb : PySem.W.exmOne K (.ref CM) (.ref CB) = some false
  mm : PySem.W.exmOne K (.ref CM) (.ref CM) = some true
  le : PySem.W.exmOne K (.ref CL) (.ref CE) = some true
  be : PySem.W.exmOne K (.ref CB) (.ref CE) = some true
  me : PySem.W.exmOne K (.ref CM) (.ref CE) = some true
  kl : PySem.W.kitAny K (.ref CL) [.ref CB, .ref CM] = some false
  kb : PySem.W.kitAny K (.ref CB) [.ref CL, .ref CM] = some false
  km : PySem.W.kitAny K (.ref CM) [.ref CL, .ref CB] = some false
  vl : PySem.W.kitOne K (.ref CL) (.type "ValueError") = some true
  vb : PySem.W.kitOne K (.ref CB) (.type "ValueError") = some true
  vm : PySem.W.kitOne K (.ref CM) (.type "ValueError") = some true
section
variable {P : Program} {w : World} {K : PySem.W.Frag} {mg : Str → Option Value} {base : Heap} {CB CM CR CLn CE fR fI : Addr}
theorem ok_dueL {f : Addr} {fd : FuncData} (F : Fun K "_law_due" "_law_due" s__law_due f fd) (m_isinstance : mg "isinstance" = none) (m_list : mg "list" = none) (m_tuple : mg "tuple" = none) (m_len : mg "len" = none) (m_range : mg "range" = none) (m_repr : mg "repr" = none)
    (c__law_is_number : Cal P w K mg base 1 "_law_is_number" spWithinA) (c__law_cue_good : Cal P w K mg base 2 "_law_cue_good" spCueL) : FnG P w K mg base CX0 3 f fd ["_law_length", "_law_cues"] spDueL := by
  refine FunG.ok F sc__law_due (fun vs H Q E h => ?_) (fun cdv A outer s H vs Q E ga hr h => ?_)
  · obtain ⟨lx, cx, ld, cd, rfl, _⟩ := h
    rfl
  · obtain ⟨lx, cx, ld, cd, rfl, hl, hc, q⟩ := h
    refine ⟨_, (pss_cons (ps_if (pt_not (pt_val (pe_c c__law_is_number hr (by decide) rfl (pa_cons (pv 0) (pa_cons (pe_int) (pa_cons (pe_int) pa_nil))))))
    (pss_one (ps_ret (pe_tup (pa_cons (pe_str) (pa_cons (pe_callB (call_reprD ga hr.units) (by rfl) m_repr (by decide +kernel) (pa_cons (pv 0) pa_nil)) pa_nil)))))
    pss_nil)
    (pss_cons (ps_if (pt_not (pt_val (pe_callB call_isiT (by rfl) m_isinstance (by decide +kernel) (pa_cons (pv 1) (pa_cons (pe_tup (pa_cons (pe_bltn (v := .ty "list") (by rfl) m_list (by decide +kernel) rfl) (pa_cons (pe_bltn (v := .ty "tuple") (by rfl) m_tuple (by decide +kernel) rfl) pa_nil))) pa_nil)))))
    (pss_one (ps_ret (pe_tup (pa_cons (pe_str) (pa_cons (pe_un un_neg (pe_int)) pa_nil)))))
    pss_nil)
    (pss_cons (ps_set (i := 2) sc__law_due.nd rfl (Or.inl rfl) (pe_int))
    (pss_cons (ps_for PassesOwn.never rfl (pi_range1 (by rfl) m_range (pa_cons (pe_callB call_len (by rfl) m_len (by decide +kernel) (pa_cons (pv 1) pa_nil)) pa_nil)) (pg_name (i := 3) sc__law_due.nd rfl (Or.inl rfl))
    (pss_cons (ps_if (pt_not (pt_val (pe_c c__law_cue_good hr (by decide) rfl (pa_cons (pe_ix ix_seq (pv 1) (pv 3) (fun _ _ => rfl)) (pa_cons (pv 2) (pa_cons (pv 0) pa_nil))))))
    (pss_one (ps_ret (pe_tup (pa_cons (pe_str) (pa_cons (pv 3) pa_nil)))))
    pss_nil)
    (pss_one (ps_set (i := 2) sc__law_due.nd rfl (Or.inl rfl) (pe_ix ix_seq (pe_ix ix_seq (pv 1) (pv 3) (fun _ _ => rfl)) (pe_int) (fun _ _ => rfl))))))
    (pss_cons (ps_if (pt_cmpR op_gt (pe_callB call_len (by rfl) m_len (by decide +kernel) (pa_cons (pv 1) pa_nil)) (pe_int) (nomark _))
    (pss_one (ps_ret (pe_tup (pa_cons (pe_str) (pa_cons (pe_str) pa_nil)))))
    pss_nil)
    (pss_one (ps_ret (pe_tup (pa_cons (pe_str) pa_nil))))))))), ?_⟩
    have fin : ∀ {H' : Hp} {t : Addr} {zs : List V} {kk}, Same H H' → H' t = none → dueK lx cd = kk → dueVs ld kk = zs → Q (.ref t) (upd H' t (.tup zs)) := fun {H' t zs kk} s ht e1 e2 => by
      subst e1 e2
      exact q _ t (s.trans (same_new ht)) upd_same
    refine ⟨_, rfl, lx, 1, 2000, rfl, hl.any, _, rfl, ?_⟩
    cases hI : inside lx 1 2000 with
    | false =>
      obtain ⟨r1, r2, r3, r4, r5⟩ := hl.reprF size1 (by decide)
      exact ⟨_, rfl, _, ld, rfl, hl.dp, r1, r2, r3, r4, r5, (by show 2 ≤ sizeLine; decide), fun t ht => fin (Same.refl H) ht (due_len hI) rfl⟩
    | true =>
    obtain ⟨len, rfl, l1, l2⟩ := inside_is hI
    refine ⟨_, rfl, (by show 2 ≤ sizeLine; decide), fun p hp => ?_⟩
    have sp := same_new (o := .tup [V.ty "list", V.ty "tuple"]) hp
    rcases hc.seq with ⟨hsc, hn⟩ | ⟨a, xs, ds, rfl, hm, le, hpr, hs, hq⟩
    · rcases isi_seqA (K := K) (H := upd H p (.tup [V.ty "list", V.ty "tuple"])) (.inl hsc.plain) with ⟨hpl, t, ty, kk⟩ | ⟨a, xs, rfl, _⟩
      · refine ⟨_, p, _, _, _, false, rfl, upd_same, .cons (.ty _) (.cons (.ty _) .nil), ty, kk, false, rfl, 1, rfl, (by show 2 ≤ sizeLine; decide), fun t ht => fin sp ht (due_not hI hn) rfl⟩
      · exact hsc.plain.elim
    have hq1 := hq.keep sp
    rcases isi_seqA (K := K) (H := upd H p (.tup [V.ty "list", V.ty "tuple"])) (x := .ref a) (.inr ⟨a, xs, rfl, hq1.symm⟩) with ⟨hpl, _⟩ | ⟨a', xs', e, _, t, ty, kk⟩
    · exact hpl.elim
    refine ⟨_, p, _, _, _, true, rfl, upd_same, .cons (.ty _) (.cons (.ty _) .nil), ty, kk, true, rfl, ?_⟩
    generalize hH1 : (upd H p (.tup [V.ty "list", V.ty "tuple"])) = H1 at sp hq1 ⊢
    refine ⟨_, rfl, _, xs.length, rfl, hq1.lenv, _, rfl, by omega, by omega, ?_⟩
    refine for_it (walk_range (lo := 0) (n := ((xs.length : Nat) : Int).toNat)) (fun i σ H' => ∃ (lo : Int) (k3 : Option V), σ = [some (.int len), some (.ref a), some (.int lo), k3] ∧ Same H1 H' ∧ 0 ≤ lo ∧ judgeD len 0 ds = (judgeD len lo (ds.drop i)).map (· + i))
      ⟨0, none, rfl, Same.refl H1, Int.le_refl 0, by simp⟩ (fun _ _ _ _ _ => trivial) ?_ ?_
    · rintro i x σ Ha Hb hi ⟨lo, k3, rfl, hss, hlo, hj⟩ ⟨rfl, rfl⟩
      have hi' : i < xs.length := by rw [Int.toNat_natCast] at hi; exact hi
      have ex : xs[i]? = some (xs[i]'hi') := List.getElem?_eq_getElem hi'
      obtain ⟨dy, hdy, ry⟩ := paired_get' hpr ex
      have dr := drop_at hdy
      have at1 : atI xs (0 + (i : Nat)) = some (xs[i]'hi') := by rw [Int.zero_add]; exact atI_nat ex
      have s1b := sp.trans hss
      refine ⟨_, rfl, _, rfl, (hq1.keep hss).ix at1 ⟨_, rfl, _, rfl, _, dy, lo, len, rfl, ry.keep s1b, hlo, fun H2 s2 => ⟨_, rfl, ?_⟩⟩⟩
      cases hok : okD lo len dy with
      | false =>
        refine ⟨_, rfl, (by show 2 ≤ sizeLine; decide), fun t ht => ?_⟩
        have jk : judgeD len 0 ds = some i := by
          rw [hj, dr]
          show ((if okD lo len dy = true then _ else _) : Option Nat).map _ = _
          rw [if_neg (by rw [hok]; simp)]
          show some (0 + i) = _
          rw [Nat.zero_add]
        refine fin (s1b.trans s2) ht (due_cue hI hs jk) ?_
        show [V.str sBC, V.int (i : Nat)] = [V.str sBC, V.int (0 + (i : Nat))]
        rw [Int.zero_add]
      | true =>
        obtain ⟨c, ec, gc⟩ := okD_good hok
        have ed : endD dy = c.e := by
          unfold endD
          rw [ec]
        rcases ry.seq with ⟨hsc, hn⟩ | ⟨b, ys, es, eb, _, le2, hp2, hs2, hq2⟩
        · rw [cueD_parts ec] at hn
          cases hn
        have e3 := Option.some.inj (hs2.symm.trans (cueD_parts ec))
        subst e3
        obtain ⟨va, vb, vc, ve, da, db, dc, de, rfl, e4, ra, rb, rc, re⟩ := paired4 hp2 le2
        obtain ⟨e5, e6⟩ := List.cons.inj e4
        obtain ⟨e7, _⟩ := List.cons.inj e6
        subst e7
        have eb2 := rb.int
        subst eb2
        have hqc := (hq1.keep (hss.trans s2)).ix (K := K) (Q := fun v H => ∃ b, v = .ref b ∧ rIx K v (.int 1) H (fun v H => v = .int c.e ∧ H = H2)) at1 ⟨b, eb, by rw [eb]; exact ((hq2.keep (s1b.trans s2)).ix (atI_nat (j := 1) rfl) ⟨rfl, rfl⟩)⟩
        refine ⟨_, rfl, _, rfl, (hq1.keep (hss.trans s2)).ix at1 ?_⟩
        rw [eb]
        refine (hq2.keep (s1b.trans s2)).ix (atI_nat (j := 1) rfl) ⟨c.e, _, rfl, hss.trans s2, ?_, ?_⟩
        · have h1 : lo ≤ c.s := gc.lo
          have h2 : c.s < c.e := gc.lt
          omega
        · rw [hj, dr]
          show ((if okD lo len dy = true then _ else _) : Option Nat).map _ = _
          rw [if_pos hok, Option.map_map, ed]
          congr 1
          funext n
          show n + 1 + i = n + (i + 1)
          omega
    · rintro σ H' ⟨lo, k3, rfl, hss, hlo, hj⟩
      have ej : judgeD len 0 ds = none := by
        rw [hj, List.drop_eq_nil_of_le (by rw [Int.toNat_natCast]; omega)]
        rfl
      refine ⟨_, rfl, _, xs.length, rfl, (hq1.keep hss).lenv, _, _, rfl, rfl, _, rfl, ite2 (fun h40 => ?_) (fun h40 => ?_)⟩
      · have := of_decide_eq_true h40
        exact ⟨(by show 2 ≤ sizeLine; decide), fun t ht => fin (sp.trans hss) ht (due_many hI hs ej (by omega)) rfl⟩
      · have : ¬ (40 : Int) < ((xs.length : Nat) : Int) := fun z => h40 (decide_eq_true z)
        exact ⟨(by show 1 ≤ sizeLine; decide), fun t ht => fin (sp.trans hss) ht (due_none hI hs ej (by omega)) rfl⟩
end
end Sea
namespace Sea
open PySem PySem.Spec PyProof.Rows L2
/-! how the program refuses -/
theorem ref_of {ld : PyData} {kk : Option (Nat × V)} {p : Nat × V} (h : kk = some p) : refVs ld kk = dueVs ld (some p) ++ [.bl false] := by
  rw [h]
  rfl
section
variable {P : Program} {w : World} {K : PySem.W.Frag} {mg : Str → Option Value} {base : Heap} {CB CM CR CLn CE fR fI : Addr}
theorem ok_refuseL {f : Addr} {fd : FuncData} (F : Fun K "_law_refusal" "_law_refusal" s__law_refusal f fd) (m_isinstance : mg "isinstance" = none) (m_repr : mg "repr" = none)
    (xL : XI P w K mg base "BadLength" "length" CLn) (xB : XI P w K mg base "BadCue" "number" CB) (xM : XI P w K mg base "TooMany" "word" CM) (gE : mg "CaptionError" = some (.ref CE)) (x3 : EX3 K CLn CB CM CE) (T : RC K mg CR fI)
    {fdR : FuncData} (FR : FnOk P w K mg base (L2.CX P w) 5 fI fdR ["self", "length", "cues"] (spReelA K CR CB CM CLn)) (bR : Binds K fdR ["self", "length", "cues"] []) :
    FnG P w K mg base CX0 7 f fd ["_law_length", "_law_cues"] spRefuseL := by
  obtain ⟨fIL, fdL, XL, FL, bL⟩ := xL.ex
  obtain ⟨fIB, fdB, XB, FB, bB⟩ := xB.ex
  obtain ⟨fIM, fdM, XM, FM, bM⟩ := xM.ex
  refine FunG.ok F sc__law_refusal (fun vs H Q E h => ?_) (fun cdv A outer s H vs Q E ga hr h => ?_)
  · obtain ⟨lx, cx, ld, cd, rfl, _⟩ := h
    rfl
  · obtain ⟨lx, cx, ld, cd, rfl, hl, hc, q⟩ := h
    refine ⟨_, (pss_cons (ps_try_cl (Wo := fun _ _ _ _ => False) (tb := fun W => tDrop (tMakeS CR (spReelA K CR CB CM CLn) [] (WE W) (tCons (tVar 0) (tCons (tVar 1) tNil)))) rfl rfl sc__law_refusal.nd takes0
        (fun W pn xe tk _ => by
          refine pss_one (ps_expr ?_)
          refine pe_makeS (CX := L2.CX P w) (ps := ["self", "length", "cues"]) (k := 5) (C := CR) (f := fI) (fd := fdR) (sp := spReelA K CR CB CM CLn) (ds := []) ?_ ?_ ?_ ?_ ?_ ?_ ?_ ?_ ?_
          · exact T.made
          · exact FR
          · exact hr
          · rfl
          · exact T.g
          · exact bR
          · exact .nil
          · exact (fun σ => passAt tk σ)
          · exact (pa_cons (pv 0) (pa_cons (pv 1) pa_nil)))
        (.named (i := 2) ⟨rfl, by decide, .inl XL.gC⟩ rfl rfl (fun a oe cls d pn hz hf => (pss_one (ps_ret (pe_tup (pa_cons (pe_str) (pa_cons (pe_callB (show CallR _ _ (rRepr K) from call_reprD ga hr.units) (by rfl) m_repr (by decide +kernel) (pa_cons (pe_xf XL.xf XL.no hz hf (pv 2)) pa_nil)) (pa_cons (pe_callB (call_ask hz hf) (by rfl) m_isinstance (by decide +kernel) (pa_cons (pv 2) (pa_cons (pe_tup (pa_cons (pe_glob (v := .ref CB) rfl XB.gC rfl) (pa_cons (pe_glob (v := .ref CM) rfl XM.gC rfl) pa_nil))) pa_nil))) pa_nil)))))))
        (.named (i := 2) ⟨rfl, by decide, .inl XB.gC⟩ rfl rfl (fun a oe cls d pn hz hf => (pss_one (ps_ret (pe_tup (pa_cons (pe_str) (pa_cons (pe_xf XB.xf XB.no hz hf (pv 2)) (pa_cons (pe_callB (call_ask hz hf) (by rfl) m_isinstance (by decide +kernel) (pa_cons (pv 2) (pa_cons (pe_tup (pa_cons (pe_glob (v := .ref CLn) rfl XL.gC rfl) (pa_cons (pe_glob (v := .ref CM) rfl XM.gC rfl) pa_nil))) pa_nil))) pa_nil)))))))
        (.named (i := 2) ⟨rfl, by decide, .inl XM.gC⟩ rfl rfl (fun a oe cls d pn hz hf => (pss_one (ps_ret (pe_tup (pa_cons (pe_str) (pa_cons (pe_xf XM.xf XM.no hz hf (pv 2)) (pa_cons (pe_callB (call_ask hz hf) (by rfl) m_isinstance (by decide +kernel) (pa_cons (pv 2) (pa_cons (pe_tup (pa_cons (pe_glob (v := .ref CLn) rfl XL.gC rfl) (pa_cons (pe_glob (v := .ref CB) rfl XB.gC rfl) pa_nil))) pa_nil))) pa_nil)))))))
        (.bare ⟨rfl, by decide, .inl gE⟩ (fun a oe cls d pn hz hf => (pss_one (ps_ret (pe_tup (pa_cons (pe_str) pa_nil))))) .nil)))))
      (pss_one (ps_ret (pe_tup (pa_cons (pe_str) pa_nil))))), ?_⟩
    refine ⟨_, rfl, _, rfl, reel_reads hl (.inl hc) (fun H1 d ek s1 hd => ?_) (fun v H1 d ek pv s1 hd => ?_) (fun v H1 d ek pv s1 hd => ?_) (fun len ds H1 x L e1 l1 l2 hs hj hm ek s1 hR hcs hg => ?_)⟩
    · refine ⟨true, x3.ll, fun _ a ha => ?_, (fun z => nomatch z)⟩
      obtain ⟨r1, r2, r3, r4, r5⟩ := hl.reprF size1 (by decide)
      have sd := s1.trans (same_new (o := .xd [(("length" : Str), lx)]) hd)
      refine ⟨_, rfl, rfl, rfl, d, _, _, rfl, upd_same, rfl, _, ld, rfl, (hl.keep sd).dp, r1, r2, r3, r4, r5, _, rfl, (by show 2 ≤ sizeLine; decide), fun p hp => ?_⟩
      have hd2 : (upd H1 d (.xd [(("length" : Str), lx)])) d = some (.xd [(("length" : Str), lx)]) := upd_same
      refine ⟨CLn, d, _, .ref p, false, rfl, rfl, XL.ask, (same_new hp) _ _ hd2, rfl, .inr ⟨p, _, _, rfl, upd_same, .cons (.own _) (.cons (.own _) .nil), x3.kl⟩, (by show 3 ≤ sizeLine; decide), fun t ht => ?_⟩
      exact q _ t ((sd.trans (same_new hp)).trans (same_new ht)) (by rw [ref_of ek]; exact upd_same)
    · refine ⟨false, x3.bl, (fun z => nomatch z), fun _ => ⟨true, x3.bb, fun _ a ha => ?_, (fun z => nomatch z)⟩⟩
      refine ⟨_, rfl, rfl, rfl, d, _, _, rfl, upd_same, rfl, _, rfl, (by show 2 ≤ sizeLine; decide), fun p hp => ?_⟩
      have hd2 : (upd H1 d (.xd [(("number" : Str), v)])) d = some (.xd [(("number" : Str), v)]) := upd_same
      refine ⟨CB, d, _, .ref p, false, rfl, rfl, XB.ask, (same_new hp) _ _ hd2, rfl, .inr ⟨p, _, _, rfl, upd_same, .cons (.own _) (.cons (.own _) .nil), x3.kb⟩, (by show 3 ≤ sizeLine; decide), fun t ht => ?_⟩
      exact q _ t (((s1.trans (same_new hd)).trans (same_new hp)).trans (same_new ht)) (by rw [ref_of ek]; exact upd_same)
    · refine ⟨false, x3.ml, (fun z => nomatch z), fun _ => ⟨false, x3.mb, (fun z => nomatch z), fun _ => ⟨true, x3.mm, fun _ a ha => ?_, (fun z => nomatch z)⟩⟩⟩
      refine ⟨_, rfl, rfl, rfl, d, _, _, rfl, upd_same, rfl, _, rfl, (by show 2 ≤ sizeLine; decide), fun p hp => ?_⟩
      have hd2 : (upd H1 d (.xd [(("word" : Str), v)])) d = some (.xd [(("word" : Str), v)]) := upd_same
      refine ⟨CM, d, _, .ref p, false, rfl, rfl, XM.ask, (same_new hp) _ _ hd2, rfl, .inr ⟨p, _, _, rfl, upd_same, .cons (.own _) (.cons (.own _) .nil), x3.km⟩, (by show 3 ≤ sizeLine; decide), fun t ht => ?_⟩
      exact q _ t (((s1.trans (same_new hd)).trans (same_new hp)).trans (same_new ht)) (by rw [ref_of ek]; exact upd_same)
    · refine ⟨(by show 1 ≤ sizeLine; decide), fun t ht => ?_⟩
      exact q _ t (s1.trans (same_new ht)) (by rw [ek]; exact upd_same)
theorem ok_underL {f : Addr} {fd : FuncData} (F : Fun K "_law_under_base" "_law_under_base" s__law_under_base f fd) (m_isinstance : mg "isinstance" = none) (m_ValueError : mg "ValueError" = none)
    (xL : XI P w K mg base "BadLength" "length" CLn) (xB : XI P w K mg base "BadCue" "number" CB) (xM : XI P w K mg base "TooMany" "word" CM) (gE : mg "CaptionError" = some (.ref CE)) (x3 : EX3 K CLn CB CM CE) (T : RC K mg CR fI)
    {fdR : FuncData} (FR : FnOk P w K mg base (L2.CX P w) 5 fI fdR ["self", "length", "cues"] (spReelA K CR CB CM CLn)) (bR : Binds K fdR ["self", "length", "cues"] []) :
    FnOk P w K mg base CX0 7 f fd ["_law_length", "_law_cues"] spUnderL := by
  obtain ⟨fIL, fdL, XL, FL, bL⟩ := xL.ex
  obtain ⟨fIB, fdB, XB, FB, bB⟩ := xB.ex
  obtain ⟨fIM, fdM, XM, FM, bM⟩ := xM.ex
  refine F.ok sc__law_under_base (fun vs H Q E h => ?_) (fun cdv A outer s H vs Q E hr h => ?_)
  · obtain ⟨lx, cx, ld, cd, rfl, _⟩ := h
    rfl
  · obtain ⟨lx, cx, ld, cd, rfl, hl, hc, hne, q⟩ := h
    refine ⟨_, (pss_cons (ps_try_cl (Wo := fun _ _ _ _ => False) (tb := fun W => tDrop (tMakeS CR (spReelA K CR CB CM CLn) [] (WE W) (tCons (tVar 0) (tCons (tVar 1) tNil)))) rfl rfl sc__law_under_base.nd takes0
        (fun W pn xe tk _ => by
          refine pss_one (ps_expr ?_)
          refine pe_makeS (CX := L2.CX P w) (ps := ["self", "length", "cues"]) (k := 5) (C := CR) (f := fI) (fd := fdR) (sp := spReelA K CR CB CM CLn) (ds := []) ?_ ?_ ?_ ?_ ?_ ?_ ?_ ?_ ?_
          · exact T.made
          · exact FR
          · exact hr
          · rfl
          · exact T.g
          · exact bR
          · exact .nil
          · exact (fun σ => passAt tk σ)
          · exact (pa_cons (pv 0) (pa_cons (pv 1) pa_nil)))
        (.named (i := 2) ⟨rfl, by decide, .inl gE⟩ rfl rfl (fun a oe cls d pn hz hf => (pss_one (ps_ret (pe_callB (call_ask hz hf) (by rfl) m_isinstance (by decide +kernel) (pa_cons (pv 2) (pa_cons (pe_bltn (v := .ty "ValueError") (by rfl) m_ValueError (by decide +kernel) rfl) pa_nil)))))) .nil))
      (pss_one (ps_ret (pe_bl)))), ?_⟩
    refine ⟨_, rfl, _, rfl, reel_reads hl (.inl hc) (fun H1 d ek s1 hd => ?_) (fun v H1 d ek pv s1 hd => ?_) (fun v H1 d ek pv s1 hd => ?_) (fun len ds H1 x L e1 l1 l2 hs hj hm ek s1 hR hcs hg => ?_)⟩
    · refine ⟨true, x3.le, fun _ a ha => ?_, (fun z => nomatch z)⟩
      exact ⟨_, rfl, CLn, d, _, _, true, rfl, rfl, XL.ask, upd_same, rfl, .inl ⟨_, .ty _, x3.vl⟩, q _ (s1.trans (same_new hd))⟩
    · refine ⟨true, x3.be, fun _ a ha => ?_, (fun z => nomatch z)⟩
      exact ⟨_, rfl, CB, d, _, _, true, rfl, rfl, XB.ask, upd_same, rfl, .inl ⟨_, .ty _, x3.vb⟩, q _ (s1.trans (same_new hd))⟩
    · refine ⟨true, x3.me, fun _ a ha => ?_, (fun z => nomatch z)⟩
      exact ⟨_, rfl, CM, d, _, _, true, rfl, rfl, XM.ask, upd_same, rfl, .inl ⟨_, .ty _, x3.vm⟩, q _ (s1.trans (same_new hd))⟩
    · exact absurd ek hne
theorem ok_no_cueL {f : Addr} {fd : FuncData} (F : Fun K "_law_no_cue" "_law_no_cue" s__law_no_cue f fd) (m_isinstance : mg "isinstance" = none) (m_repr : mg "repr" = none)
    (xL : XI P w K mg base "BadLength" "length" CLn) (xB : XI P w K mg base "BadCue" "number" CB) (xM : XI P w K mg base "TooMany" "word" CM) (gE : mg "CaptionError" = some (.ref CE)) (x3 : EX3 K CLn CB CM CE)
    {fG : Addr} {fdG : FuncData} (FG : FnOk P w K mg base (L2.CX P w) 3 fG fdG ["self", "at"] (spItemR CR CB)) (bG : Binds K fdG ["self", "at"] []) (hG : PySem.W.findIn K (.ref CR) "__getitem__" = some (some (.ref fG))) (iG : PySem.W.isFn K (.ref fG) = true) (nG : PySem.W.fnIn K fG = true) :
    FnG P w K mg base CX0 5 f fd ["_law_reel", "_law_number"] (spNoCue CR) := by
  obtain ⟨fIL, fdL, XL, FL, bL⟩ := xL.ex
  obtain ⟨fIB, fdB, XB, FB, bB⟩ := xB.ex
  obtain ⟨fIM, fdM, XM, FM, bM⟩ := xM.ex
  refine FunG.ok F sc__law_no_cue (fun vs H Q E h => ?_) (fun cdv A outer s H vs Q E ga hr h => ?_)
  · obtain ⟨x, len, L, k, d, rfl, _⟩ := h
    rfl
  · obtain ⟨x, len, L, k, kd, rfl, hR, hk, hin, q⟩ := h
    refine ⟨_, (pss_cons (ps_set (i := 2) sc__law_no_cue.nd rfl (Or.inl rfl) (pe_lst pa_nil))
    (pss_cons (ps_try_cl (Wo := fun _ _ _ _ => False) (tb := fun W => tDrop (tBM K "list" rAppend (tVar 2) (tCons (tIxOwn CR (spItemR CR CB) (WE W) (tVar 0) (tVar 1)) tNil))) rfl rfl sc__law_no_cue.nd takes0
        (fun W pn xe tk _ => by
          refine pss_one (ps_expr ?_)
          refine pe_bm PySem.F.plainAttrs_list PySem.F.slot_list_append PySem.F.type_list_append mt_append (pv 2) (pa_cons ?_ pa_nil)
          refine pe_ixOwn (CX := L2.CX P w) (ps := ["self", "at"]) (n := 3) (k := 3) (C := CR) (f := fG) (fd := fdG) (sp := spItemR CR CB) ?_ ?_ ?_ ?_ ?_ ?_ ?_ ?_ ?_ ?_ ?_
          · exact FG
          · exact hr
          · decide
          · exact hG
          · exact nG
          · exact iG
          · exact bG
          · exact (fun σ => passAt tk σ)
          · exact pv 0
          · exact pv 1
          · exact (fun _ _ => rfl))
        (.named (i := 3) ⟨rfl, by decide, .inl XB.gC⟩ rfl rfl (fun a oe cls d pn hz hf => (pss_one (ps_ret (pe_and (pe_cmpR op_eq (pe_callB (show CallR _ _ (rRepr K) from call_reprD ga hr.units) (by rfl) m_repr (by decide +kernel) (pa_cons (pe_xf XB.xf XB.no hz hf (pv 3)) pa_nil)) (pe_callB (show CallR _ _ (rRepr K) from call_reprD ga hr.units) (by rfl) m_repr (by decide +kernel) (pa_cons (pv 1) pa_nil)) (nomark _)) (pe_one (pe_not (pe_callB (call_ask hz hf) (by rfl) m_isinstance (by decide +kernel) (pa_cons (pv 3) (pa_cons (pe_tup (pa_cons (pe_glob (v := .ref CLn) rfl XL.gC rfl) (pa_cons (pe_glob (v := .ref CM) rfl XM.gC rfl) pa_nil))) pa_nil)))))))))
        (.bare ⟨rfl, by decide, .inl gE⟩ (fun a oe cls d pn hz hf => (pss_one (ps_ret (pe_bl)))) .nil)))
      (pss_one (ps_ret (pe_bl))))), ?_⟩
    refine ⟨Nat.zero_le _, fun D hD => ?_⟩
    have sD := same_new (o := .lst []) hD
    have hR1 := hR.keep sD
    have hk1 : Th true [] (upd H D (.lst [])) k kd := hk
    obtain ⟨r1, r2, r3, r4, r5⟩ := hk1.reprF size0 (by decide)
    obtain ⟨dx, t, sp, nm, zs, hx, ht, hrest⟩ := id hR1
    refine ⟨_, rfl, .inl ⟨rfl, _, SqL.of upd_same⟩, _, rfl, _, rfl, x, dx, _, rfl, hx, x, len, L, k, rfl, hR1, .inl hk.plain, fun i e ek el => ?_, fun _ H1 d s1 hd => ?_⟩
    · exfalso
      subst ek
      have hl := (List.getElem?_eq_some_iff.mp el).1
      have : (decide ((0 : Int) ≤ (i : Nat)) && decide (((i : Nat) : Int) ≤ (L.length : Nat) - 1)) = false := hin
      rw [decide_eq_true (by omega), decide_eq_true (by omega)] at this
      cases this
    · refine ⟨true, x3.bb, fun _ a ha => ?_, (fun z => nomatch z)⟩
      have sd := s1.trans (same_new (o := .xd [(("number" : Str), k)]) hd)
      have hd2 : (upd H1 d (.xd [(("number" : Str), k)])) d = some (.xd [(("number" : Str), k)]) := upd_same
      refine ⟨_, rfl, rfl, rfl, d, _, _, rfl, hd2, rfl, _, kd, rfl, (hk1.keep sd).dp, r1, r2, r3, r4, r5, _, rfl, _, kd, rfl, (hk1.keep sd).dp, r1, r2, r3, r4, r5, rfl, ?_⟩
      rw [decide_eq_true rfl]
      refine ⟨_, rfl, iteT ⟨_, rfl, (by show 2 ≤ sizeLine; decide), fun p hp => ?_⟩⟩
      exact ⟨CB, d, _, .ref p, false, rfl, rfl, XB.ask, (same_new hp) _ _ hd2, rfl, .inr ⟨p, _, _, rfl, upd_same, .cons (.own _) (.cons (.own _) .nil), x3.kb⟩, _, rfl, q _ ((sD.trans sd).trans (same_new hp))⟩
end
end Sea
namespace Sea
open PySem PySem.Spec PyProof.Rows L2
/-! what many laws draw: rarely, a few texts, names -/
theorem kb_none {tp cl p : Addr} {ns : List Int} {H H' : Hp} (k : KB tp H H') (T : Tape H' tp cl ns) (h : H' p = none) : H p = none := by
  cases e : H p with
  | none => rfl
  | some o =>
    have := k p o (T.fresh h).1.symm e
    rw [h] at this
    cases this
theorem KB.new {tp cl p : Addr} {ns : List Int} {H H' : Hp} {o : HO} (k : KB tp H H') (T : Tape H' tp cl ns) (h : H' p = none) : KB tp H (upd H' p o) := k.over (kb_none k T h)
def spRarely : Sp := fun vs H Q _ => ∃ (tp cl : Addr) (ns : List Int) (m : Int), vs = [.ref tp, .int m] ∧ Tape H tp cl ns ∧ m < 1073741824 ∧ ∀ H' b, KB tp H H' → Tape H' tp cl ns → Q (.bl b) H'
/-- one of the few short texts -/
structure FewT (z : Str) : Prop where
  some : 1 ≤ z.length
  most : z.length ≤ 20
  sign : ∀ c ∈ cp z, 97 ≤ c ∧ c ≤ 122 ∨ c = 32
def fewB (z : Str) : Bool := decide (1 ≤ z.length) && (decide (z.length ≤ 20) && (cp z).all fun c => (decide (97 ≤ c) && decide (c ≤ 122)) || decide (c = 32))
theorem few_of {z : Str} (h : fewB z = true) : FewT z := by
  unfold fewB at h
  simp only [Bool.and_eq_true, decide_eq_true_eq, List.all_eq_true, Bool.or_eq_true] at h
  exact ⟨h.1, h.2.1, h.2.2⟩
def FEW : List Str := [Str.ofString "go", Str.ofString "no", Str.ofString "so it is", Str.ofString "ah", Str.ofString "we go on now", Str.ofString "no go"]
theorem few_all : FEW.all fewB = true := by decide +kernel
def spFewText : Sp := fun vs H Q _ => ∃ (tp cl : Addr) (ns : List Int), vs = [.ref tp] ∧ Tape H tp cl ns ∧ ∀ H' z, KB tp H H' → Tape H' tp cl ns → FewT z → Q (.str z) H'
abbrev PL1 : Str := Str.ofString "a b c ab ba aa z zz abc abd acb bcd abca zzz y xy yx xyz abcd abcde bbbbb q qq qa aq"
abbrev PL2 : Str := Str.ofString "m mm am ma cab bac"
abbrev PL3 : Str := Str.ofString "dab bad add odd ode one two ten net tent tenth nine nines e ee ed de"
/-- a short name -/
def shortB (z : Str) : Bool := decide (1 ≤ z.length) && (decide (z.length ≤ 5) && (cp z).all fun c => decide (97 ≤ c) && decide (c ≤ 122))
def POOL : List Str := (Txt.words PL1 ++ Txt.words PL2) ++ Txt.words PL3
theorem pool_ok : POOL.all shortB = true ∧ POOL.length = 48 := by decide +kernel
theorem pool_len : (Txt.words PL1).length = 25 ∧ (Txt.words PL2).length = 6 ∧ (Txt.words PL3).length = 17 ∧ PL1.length ≤ 200 ∧ PL2.length ≤ 200 ∧ PL3.length ≤ 200 := by decide +kernel
structure Short (z : Str) : Prop where
  some : 1 ≤ z.length
  most : z.length ≤ 5
  sign : ∀ c ∈ cp z, 97 ≤ c ∧ c ≤ 122
theorem short_of {z : Str} (h : shortB z = true) : Short z := by
  unfold shortB at h
  simp only [Bool.and_eq_true, decide_eq_true_eq, List.all_eq_true] at h
  exact ⟨h.1, h.2.1, h.2.2⟩
theorem pool_short {z : Str} (h : z ∈ POOL) : Short z := short_of (List.all_eq_true.mp pool_ok.1 z h)
def spNames : Sp := fun vs H Q _ => ∃ (tp cl : Addr) (ns : List Int) (m : Int), vs = [.ref tp, .int m] ∧ Tape H tp cl ns ∧ 1 ≤ m ∧ m ≤ 40 ∧
  ∀ (H' : Hp) (p : Addr) (ss : List Str), KB tp H H' → Tape H' tp cl ns → p ≠ tp → H' p = some (.lst (ss.map V.str)) → (ss.length : Int) = m → (∀ z ∈ ss, Short z) → Q (.ref p) H'
theorem erase_map {α β : Type} (f : α → β) : ∀ (l : List α) (k : Nat), (l.map f).eraseIdx k = (l.eraseIdx k).map f
  | [], _ => rfl
  | _ :: _, 0 => rfl
  | a :: r, k + 1 => by
    show f a :: (r.map f).eraseIdx k = f a :: (r.eraseIdx k).map f
    rw [erase_map f r k]
theorem seq_at {d : Int} {n : Nat} (h0 : 0 ≤ d) (h1 : d < (n : Int)) : seqIndex? d n = some d.toNat := by
  unfold seqIndex?
  simp only []
  rw [if_neg (show ¬ d < 0 by omega), if_pos (by rw [decide_eq_true h0, decide_eq_true h1]; rfl)]
section
variable {P : Program} {w : World} {K : PySem.W.Frag} {mg : Str → Option Value} {base : Heap}
theorem ok_rarely {f : Addr} {fd : FuncData} (F : Fun K "_law_rarely" "_law_rarely" s__law_rarely f fd) (c__law_pick : Cal P w K mg base 1 "_law_pick" spPick) : FnOk P w K mg base CX0 2 f fd ["_law_tape_here", "_law_many"] spRarely := by
  refine F.ok sc__law_rarely (fun vs H Q E h => ?_) (fun cdv A outer s H vs Q E hr h => ?_)
  · obtain ⟨tp, cl, ns, m, rfl, _⟩ := h
    rfl
  · obtain ⟨tp, cl, ns, m, rfl, T, hm, q⟩ := h
    refine ⟨_, (pss_one (ps_ret (pe_cmpR op_eq (pe_c c__law_pick hr (by decide) rfl (pa_cons (pv 0) (pa_cons (pv 1) pa_nil))) (pe_op op_sub (pv 1) (pe_int)) (nomark _)))), ?_⟩
    exact ⟨_, rfl, _, rfl, tp, cl, ns, m, rfl, T, hm, fun H1 d k1 T1 _ _ => ⟨_, rfl, _, _, rfl, rfl, rfl, q H1 _ k1 T1⟩⟩
theorem ok_few_text {f : Addr} {fd : FuncData} (F : Fun K "_law_few_text" "_law_few_text" s__law_few_text f fd) (m_len : mg "len" = none) (c__law_pick : Cal P w K mg base 1 "_law_pick" spPick) : FnOk P w K mg base CX0 2 f fd ["_law_tape_here"] spFewText := by
  refine F.ok sc__law_few_text (fun vs H Q E h => ?_) (fun cdv A outer s H vs Q E hr h => ?_)
  · obtain ⟨tp, cl, ns, rfl, _⟩ := h
    rfl
  · obtain ⟨tp, cl, ns, rfl, T, q⟩ := h
    refine ⟨_, (pss_cons (ps_set (i := 1) sc__law_few_text.nd rfl (Or.inl rfl) (pe_lst (pa_cons (pe_str) (pa_cons (pe_str) (pa_cons (pe_str) (pa_cons (pe_str) (pa_cons (pe_str) (pa_cons (pe_str) pa_nil))))))))
    (pss_one (ps_ret (pe_ix ix_list (pv 1) (pe_c c__law_pick hr (by decide) rfl (pa_cons (pv 0) (pa_cons (pe_callB call_len (by rfl) m_len (by decide +kernel) (pa_cons (pv 1) pa_nil)) pa_nil))) (fun _ _ => rfl))))), ?_⟩
    refine ⟨(by show 6 ≤ sizeLine; decide), fun p hp => ?_⟩
    have np := (T.fresh hp).1
    refine ⟨_, rfl, _, rfl, _, rfl, _, 6, rfl, .inl ⟨_, SqL.of upd_same, rfl⟩, tp, cl, ns, _, rfl, T.new hp, by decide, fun H1 d k1 T1 d0 d1 => ?_⟩
    obtain ⟨n, rfl⟩ : ∃ n : Nat, d = (n : Int) := ⟨d.toNat, by omega⟩
    have hn : n < FEW.length := by
      show n < 6
      omega
    have e : (FEW.map V.str)[n]? = some (V.str FEW[n]) := by rw [List.getElem?_map, List.getElem?_eq_getElem hn]; rfl
    exact ⟨p, FEW.map V.str, _, _, rfl, rfl, SqL.of (k1 _ _ np.symm upd_same), atI_nat e, q H1 _ (((KB.refl tp H).over hp).trans k1) T1 (few_of (List.all_eq_true.mp few_all _ (List.getElem_mem hn)))⟩
theorem ok_names {f : Addr} {fd : FuncData} (F : Fun K "_law_names" "_law_names" s__law_names f fd) (m_range : mg "range" = none) (m_len : mg "len" = none) (c__law_pick : Cal P w K mg base 1 "_law_pick" spPick) :
    FnOk P w K mg base CX0 2 f fd ["_law_tape_here", "_law_many"] spNames := by
  refine F.ok sc__law_names (fun vs H Q E h => ?_) (fun cdv A outer s H vs Q E hr h => ?_)
  · obtain ⟨tp, cl, ns, m, rfl, _⟩ := h
    rfl
  · obtain ⟨tp, cl, ns, m, rfl, T, m1, m4, q⟩ := h
    refine ⟨_, (pss_cons (ps_set (i := 2) sc__law_names.nd rfl (Or.inl rfl) (pe_words (pe_str)))
    (pss_cons (ps_set (i := 2) sc__law_names.nd rfl (Or.inl rfl) (pe_op op_cat (pv 2) (pe_words (pe_str))))
    (pss_cons (ps_set (i := 2) sc__law_names.nd rfl (Or.inl rfl) (pe_op op_cat (pv 2) (pe_words (pe_str))))
    (pss_cons (ps_set (i := 3) sc__law_names.nd rfl (Or.inl rfl) (pe_lst pa_nil))
    (pss_cons (ps_for PassesOwn.never rfl (pi_range1 (by rfl) m_range (pa_cons (pv 1) pa_nil)) (pg_name (i := 4) sc__law_names.nd rfl (Or.inl rfl))
    (pss_one (ps_expr (pe_bm PySem.F.plainAttrs_list PySem.F.slot_list_append PySem.F.type_list_append mt_append (pv 3) (pa_cons (pe_bm PySem.F.plainAttrs_list PySem.F.slot_list_pop PySem.F.type_list_pop mt_popAt (pv 2) (pa_cons (pe_c c__law_pick hr (by decide) rfl (pa_cons (pv 0) (pa_cons (pe_callB call_len (by rfl) m_len (by decide +kernel) (pa_cons (pv 2) pa_nil)) pa_nil))) pa_nil)) pa_nil)))))
    (pss_one (ps_ret (pv 3)))))))), ?_⟩
    obtain ⟨w1, w2, w3, w4, w5, w6⟩ := pool_len
    have sl : sizeLine = 16777216 := sizeLine_eq
    refine ⟨⟨_, rfl⟩, PL1, rfl, rfl, by omega, fun p1 hp1 => ?_⟩
    have t1 := T.new (o := .lst ((Txt.words PL1).map V.str)) hp1
    have k1 := (KB.refl tp H).over (o := .lst ((Txt.words PL1).map V.str)) hp1
    refine ⟨_, rfl, ⟨_, rfl⟩, PL2, rfl, rfl, by omega, fun p2 hp2 => ?_⟩
    have s2 := same_new (o := .lst ((Txt.words PL2).map V.str)) hp2
    refine ⟨p1, p2, _, _, rfl, rfl, s2 _ _ upd_same, upd_same, by rw [List.length_map, List.length_map]; omega, fun p3 hp3 => ?_⟩
    have s3 := same_new (o := .lst ((Txt.words PL1).map V.str ++ (Txt.words PL2).map V.str)) hp3
    refine ⟨_, rfl, ⟨_, rfl⟩, PL3, rfl, rfl, by omega, fun p4 hp4 => ?_⟩
    have s4 := same_new (o := .lst ((Txt.words PL3).map V.str)) hp4
    have S4 := (s2.trans s3).trans s4
    have t4 := t1.same S4
    have k4 := k1.trans (.of_same S4)
    have c3 := s4 p3 _ (upd_same (H := upd (upd H p1 (.lst ((Txt.words PL1).map V.str))) p2 (.lst ((Txt.words PL2).map V.str))) (a := p3) (o := .lst ((Txt.words PL1).map V.str ++ (Txt.words PL2).map V.str)))
    have c4 := upd_same (H := upd (upd (upd H p1 (.lst ((Txt.words PL1).map V.str))) p2 (.lst ((Txt.words PL2).map V.str))) p3 (.lst ((Txt.words PL1).map V.str ++ (Txt.words PL2).map V.str))) (a := p4) (o := .lst ((Txt.words PL3).map V.str))
    generalize (upd (upd (upd (upd H p1 (.lst ((Txt.words PL1).map V.str))) p2 (.lst ((Txt.words PL2).map V.str))) p3 (.lst ((Txt.words PL1).map V.str ++ (Txt.words PL2).map V.str))) p4 (.lst ((Txt.words PL3).map V.str))) = H4 at S4 t4 k4 c3 c4 ⊢
    refine ⟨p3, p4, _, _, rfl, rfl, c3, c4, by rw [List.length_append, List.length_map, List.length_map, List.length_map]; omega, fun pl hpl => ?_⟩
    have ep : (Txt.words PL1).map V.str ++ (Txt.words PL2).map V.str ++ (Txt.words PL3).map V.str = POOL.map V.str := by
      unfold POOL
      rw [List.map_append, List.map_append]
    rw [ep]
    have t5 := t4.new (o := .lst (POOL.map V.str)) hpl
    have hpl5 := upd_same (H := H4) (a := pl) (o := .lst (POOL.map V.str))
    have npl : tp ≠ pl := (t4.fresh hpl).1
    have gone : H pl = none := by
      cases e : H pl with
      | none => rfl
      | some o =>
        have := k4 pl o npl.symm e
        rw [hpl] at this
        cases this
    have k5 := k4.over (o := .lst (POOL.map V.str)) gone
    generalize (upd H4 pl (.lst (POOL.map V.str))) = H5 at t5 k5 hpl5 ⊢
    refine ⟨Nat.zero_le _, fun D hD => ?_⟩
    have s6 := same_new (o := .lst []) hD
    have nD : tp ≠ D := (t5.fresh hD).1
    have nDl : pl ≠ D := ne_of_none hpl5 hD
    have goneD : H D = none := by
      cases e : H D with
      | none => rfl
      | some o =>
        have := k5 D o nD.symm e
        rw [hD] at this
        cases this
    refine ⟨_, rfl, _, rfl, by omega, by omega, ?_⟩
    refine for_it (walk_range (lo := 0) (n := m.toNat)) (fun i σ H' => ∃ (pool ss : List Str) (k4 : Option V), σ = [some (.ref tp), some (.int m), some (.ref pl), some (.ref D), k4] ∧ KB tp H H' ∧ Tape H' tp cl ns ∧
      H' pl = some (.lst (pool.map V.str)) ∧ H' D = some (.lst (ss.map V.str)) ∧ pool.length + i = 48 ∧ ss.length = i ∧ (∀ z ∈ pool, Short z) ∧ ∀ z ∈ ss, Short z)
      ⟨POOL, [], none, rfl, k5.over goneD, t5.new hD, s6 _ _ hpl5, upd_same, pool_ok.2, rfl, fun z hz => pool_short hz, fun _ h => nomatch h⟩ (fun _ _ _ _ _ => trivial) ?_ ?_
    · rintro i x σ Ha Hb hi ⟨pool, ss, k4, rfl, ka, Ta, hpa, hda, lp, lss, hpo, hss⟩ ⟨rfl, rfl⟩
      have hi4 : i < 40 := by omega
      refine ⟨_, rfl, .inl ⟨rfl, _, SqL.of hda⟩, _, rfl, .inl ⟨rfl, _, SqL.of hpa⟩, _, rfl, _, rfl, _, pool.length, rfl, .inl ⟨_, SqL.of hpa, (List.length_map ..).symm⟩, tp, cl, ns, _, rfl, Ta, by omega, fun H1 d k1 T1 d0 d1 => ?_⟩
      have dl : d < (pool.length : Int) := by omega
      have dn : d.toNat < pool.length := by omega
      have hp1 := k1 pl _ npl.symm hpa
      have hd1 := k1 D _ nD.symm hda
      refine ⟨pl, _, d, d.toNat, .str pool[d.toNat], rfl, rfl, hp1, by omega, by omega, by rw [List.length_map]; exact seq_at d0 dl, by rw [List.getElem?_map, List.getElem?_eq_getElem dn]; rfl, ?_⟩
      have hd2 : (upd H1 pl (.lst ((pool.map V.str).eraseIdx d.toNat))) D = some (.lst (ss.map V.str)) := by
        rw [upd_ne nDl.symm]
        exact hd1
      refine ⟨D, _, _, rfl, rfl, hd2, (by rw [List.length_map]; exact small_line (by omega)), ?_⟩
      refine ⟨pool.eraseIdx d.toNat, ss ++ [pool[d.toNat]], _, rfl, ?_, (T1.other npl fun e => ?_).other nD fun e => ?_, ?_, ?_, ?_, ?_, fun z hz => hpo z (List.mem_of_mem_eraseIdx hz), fun z hz => ?_⟩
      · exact ((ka.trans k1).over gone).over goneD
      · have := T1.cells
        rw [e, hp1] at this
        have e2 := HO.lst.inj (Option.some.inj this)
        cases pool with
        | nil => simp only [List.length_nil] at dn; omega
        | cons z r =>
          cases ns with
          | nil => cases e2
          | cons n r2 => cases (List.cons.inj e2).1
      · have c1 := T1.cells
        have c2 : (upd H1 pl (.lst ((pool.map V.str).eraseIdx d.toNat))) cl = some (.lst (ns.map V.int)) → True := fun _ => trivial
        have c0 := t5.cells
        rw [e, hD] at c0
        cases c0
      · rw [upd_ne nDl, upd_same]
        exact congrArg some (congrArg HO.lst (erase_map V.str pool d.toNat))
      · rw [upd_same, List.map_append]
        rfl
      · rw [List.length_eraseIdx_of_lt dn]
        omega
      · rw [List.length_append, lss]
        rfl
      · rcases List.mem_append.mp hz with h | h
        · exact hss z h
        · rw [List.mem_singleton.mp h]
          exact hpo _ (List.getElem_mem dn)
    · rintro σ H' ⟨pool, ss, k4, rfl, ka, Ta, hpa, hda, lp, lss, hpo, hss⟩
      exact ⟨_, rfl, q H' D ss ka Ta nD.symm hda (by omega) hss⟩
end
end Sea
namespace Sea
open PySem PySem.Spec PyProof.Rows L2
/-! words of a cue, a reel made -/
structure Low (z : Str) : Prop where
  most : z.length ≤ 8
  sign : ∀ c ∈ cp z, 97 ≤ c ∧ c ≤ 122
theorem Low.asc {z : Str} (h : Low z) : AscP z := fun c hc => by
  have := h.sign c hc
  omega
theorem FewT.asc {z : Str} (h : FewT z) : AscP z := fun c hc => by
  have := h.sign c hc
  omega
theorem AscP.app {a b : Str} (h1 : AscP a) (h2 : AscP b) : AscP (a ++ b) := fun c hc => by
  rw [app_cp] at hc
  rcases List.mem_append.mp hc with h | h
  · exact h1 c h
  · exact h2 c h
def ascB (z : Str) : Bool := (cp z).all fun c => decide (32 ≤ c) && (decide (c ≤ 126) && decide (c ≠ 37))
theorem asc_of {z : Str} (h : ascB z = true) : AscP z := fun c hc => by
  have := List.all_eq_true.mp h c hc
  simp only [Bool.and_eq_true, decide_eq_true_eq] at this
  exact ⟨this.1, this.2.1, this.2.2⟩
theorem mem_cut {z : Str} {lo hi : Option Int} {c : Nat} (h : c ∈ cp (cutS z lo hi)) : c ∈ cp z := List.mem_of_mem_drop (List.mem_of_mem_take h)
theorem cut_len (z : Str) (lo hi : Option Int) : (cutS z lo hi).length ≤ z.length := by
  rw [← cp_len, ← cp_len]
  show ((z.cps.toList.drop _).take _).length ≤ _
  rw [List.length_take, List.length_drop]
  show _ ≤ z.cps.toList.length
  omega
theorem cut_to {z : Str} {n : Nat} : cp (cutS z none (some (n : Nat))) = (cp z).take n := by
  unfold cutS
  rw [HT.sIx_none, sIxN _ _ n n rfl]
  show ((cp z).drop 0).take (min n z.length - 0) = _
  rw [List.drop_zero, Nat.sub_zero, ← cp_len]
  exact List.take_eq_take_min.symm
theorem rep_cp (z : Str) : ∀ (k : Nat), ∀ c ∈ cp (repS z k), c ∈ cp z := by
  have all : ∀ (k : Nat) (acc : Array Nat), ∀ c ∈ ((List.replicate k z.cps).foldl (· ++ ·) acc).toList, c ∈ acc.toList ∨ c ∈ cp z := by
    intro k
    induction k with
    | zero => exact fun acc c h => .inl h
    | succ k ih =>
      intro acc c h
      rw [List.replicate_succ, List.foldl_cons] at h
      rcases ih _ c h with h | h
      · rw [Array.toList_append] at h
        exact List.mem_append.mp h
      · exact .inr h
  intro k c h
  rcases all k #[] c h with h | h
  · cases h
  · exact h
structure TextW (z : Str) : Prop where
  most : z.length ≤ 100
  sign : AscP z
def spWords : Sp := fun vs H Q _ => ∃ (tp cl p : Addr) (ns : List Int) (sk : Str) (ss : List Str), vs = [.ref tp, .str sk, .ref p] ∧ Tape H tp cl ns ∧ p ≠ tp ∧ H p = some (.lst (ss.map V.str)) ∧ (1 ≤ ss.length ∧ ss.length ≤ 1000) ∧ (∀ z ∈ ss, Low z) ∧ Low sk ∧
  ∀ H' z, KB tp H H' → Tape H' tp cl ns → TextW z → Q (.str z) H'
section
variable {P : Program} {w : World} {K : PySem.W.Frag} {mg : Str → Option Value} {base : Heap}
theorem ok_words {f : Addr} {fd : FuncData} (F : Fun K "_law_words" "_law_words" s__law_words f fd) (m_len : mg "len" = none) (c__law_pick : Cal P w K mg base 1 "_law_pick" spPick) (c__law_some : Cal P w K mg base 2 "_law_some" spSome)
    (c__law_few_text : Cal P w K mg base 2 "_law_few_text" spFewText) (c__law_text : Cal P w K mg base 3 "_law_text" spText) : FnOk P w K mg base CX0 4 f fd ["_law_tape_here", "_law_speaker", "_law_names_here"] spWords := by
  refine F.ok sc__law_words (fun vs H Q E h => ?_) (fun cdv A outer s H vs Q E hr h => ?_)
  · obtain ⟨tp, cl, p, ns, sk, ss, rfl, _⟩ := h
    rfl
  · obtain ⟨tp, cl, p, ns, sk, ss, rfl, T, np, hp, ⟨l1, l2⟩, hss, hsk, q⟩ := h
    refine ⟨_, (pss_cons (ps_set (i := 3) sc__law_words.nd rfl (Or.inl rfl) (pe_c c__law_pick hr (by decide) rfl (pa_cons (pv 0) (pa_cons (pe_int) pa_nil))))
    (pss_cons (ps_if (pt_cmpR op_eq (pv 3) (pe_int) (nomark _))
    (pss_one (ps_ret (pe_c c__law_few_text hr (by decide) rfl (pa_cons (pv 0) pa_nil))))
    pss_nil)
    (pss_cons (ps_if (pt_cmpR op_eq (pv 3) (pe_int) (nomark _))
    (pss_one (ps_ret (pe_op op_add_str (pv 1) (pe_str))))
    pss_nil)
    (pss_cons (ps_if (pt_cmpR op_eq (pv 3) (pe_int) (nomark _))
    (pss_one (ps_ret (pe_op op_add_str (pe_op op_add_str (pv 1) (pe_str)) (pe_c c__law_few_text hr (by decide) rfl (pa_cons (pv 0) pa_nil)))))
    pss_nil)
    (pss_cons (ps_if (pt_cmpR op_eq (pv 3) (pe_int) (nomark _))
    (pss_one (ps_ret (pe_op op_add_str (pe_op op_add_str (pe_ix ix_list (pv 2) (pe_c c__law_pick hr (by decide) rfl (pa_cons (pv 0) (pa_cons (pe_callB call_len (by rfl) m_len (by decide +kernel) (pa_cons (pv 2) pa_nil)) pa_nil))) (fun _ _ => rfl)) (pe_str)) (pe_c c__law_few_text hr (by decide) rfl (pa_cons (pv 0) pa_nil)))))
    pss_nil)
    (pss_cons (ps_if (pt_cmpR op_eq (pv 3) (pe_int) (nomark _))
    (pss_one (ps_ret (pe_op op_add_str (pe_op op_add_str (pv 1) (pe_str)) (pe_c c__law_few_text hr (by decide) rfl (pa_cons (pv 0) pa_nil)))))
    pss_nil)
    (pss_cons (ps_if (pt_cmpR op_eq (pv 3) (pe_int) (nomark _))
    (pss_one (ps_ret (pe_op op_mulS (pe_str) (pe_c c__law_some hr (by decide) rfl (pa_cons (pv 0) (pa_cons (pe_int) (pa_cons (pe_int) pa_nil)))))))
    pss_nil)
    (pss_one (ps_ret (pe_c c__law_text hr (by decide) rfl (pa_cons (pv 0) (pa_cons (pe_int) pa_nil)))))))))))), ?_⟩
    have sl : sizeLine = 16777216 := sizeLine_eq
    have c1 : (Str.ofString ":").length = 1 ∧ ascB (Str.ofString ":") = true := by decide +kernel
    have c2 : (Str.ofString ": ").length = 2 ∧ ascB (Str.ofString ": ") = true := by decide +kernel
    have c3 : (Str.ofString " : ").length = 3 ∧ ascB (Str.ofString " : ") = true := by decide +kernel
    have c4 : (Str.ofString "x").length = 1 ∧ ascB (Str.ofString "x") = true := by decide +kernel
    have lsk := hsk.most
    refine ⟨_, rfl, tp, cl, ns, 7, rfl, T, by decide, fun H1 kind k1 T1 d0 d1 => ?_⟩
    refine ⟨_, rfl, rfl, _, rfl, ite2 (fun _ => ?_) (fun _ => ⟨_, rfl, rfl, _, rfl, ite2 (fun _ => ?_) (fun _ => ⟨_, rfl, rfl, _, rfl, ite2 (fun _ => ?_) (fun _ => ⟨_, rfl, rfl, _, rfl, ite2 (fun _ => ?_) (fun _ => ⟨_, rfl, rfl, _, rfl, ite2 (fun _ => ?_) (fun _ => ⟨_, rfl, rfl, _, rfl, ite2 (fun _ => ?_) (fun _ => ?_)⟩)⟩)⟩)⟩)⟩)⟩
    · exact ⟨_, rfl, tp, cl, ns, rfl, T1, fun H2 z k2 T2 hz => q H2 z (k1.trans k2) T2 ⟨Nat.le_trans hz.most (by decide), hz.asc⟩⟩
    · refine ⟨_, rfl, _, _, rfl, rfl, by omega, q H1 _ k1 T1 ⟨?_, hsk.asc.app (asc_of c1.2)⟩⟩
      rw [app_len]
      omega
    · refine ⟨_, rfl, _, _, rfl, rfl, by omega, _, rfl, tp, cl, ns, rfl, T1, fun H2 z k2 T2 hz => ⟨_, _, rfl, rfl, ?_, q H2 _ (k1.trans k2) T2 ⟨?_, (hsk.asc.app (asc_of c2.2)).app hz.asc⟩⟩⟩
      · have := hz.most
        rw [app_len]
        omega
      · have := hz.most
        rw [app_len, app_len]
        omega
    · refine ⟨_, rfl, _, rfl, _, rfl, _, ss.length, rfl, .inl ⟨_, SqL.of (k1 _ _ np hp), (List.length_map ..).symm⟩, tp, cl, ns, _, rfl, T1, by omega, fun H2 d k2 T2 e0 e1 => ?_⟩
      obtain ⟨n, rfl⟩ : ∃ n : Nat, d = (n : Int) := ⟨d.toNat, by omega⟩
      have hn : n < ss.length := by omega
      have e : (ss.map V.str)[n]? = some (V.str ss[n]) := by rw [List.getElem?_map, List.getElem?_eq_getElem hn]; rfl
      have hlow := hss _ (List.getElem_mem hn)
      have llow := hlow.most
      refine ⟨p, _, _, _, rfl, rfl, SqL.of (k2 _ _ np (k1 _ _ np hp)), atI_nat e, _, _, rfl, rfl, by omega, _, rfl, tp, cl, ns, rfl, T2, fun H3 z k3 T3 hz => ⟨_, _, rfl, rfl, ?_, q H3 _ ((k1.trans k2).trans k3) T3 ⟨?_, (hlow.asc.app (asc_of c1.2)).app hz.asc⟩⟩⟩
      · have := hz.most
        rw [app_len]
        omega
      · have := hz.most
        rw [app_len, app_len]
        omega
    · refine ⟨_, rfl, _, _, rfl, rfl, by omega, _, rfl, tp, cl, ns, rfl, T1, fun H2 z k2 T2 hz => ⟨_, _, rfl, rfl, ?_, q H2 _ (k1.trans k2) T2 ⟨?_, (hsk.asc.app (asc_of c3.2)).app hz.asc⟩⟩⟩
      · have := hz.most
        rw [app_len]
        omega
      · have := hz.most
        rw [app_len, app_len]
        omega
    · refine ⟨_, rfl, tp, cl, ns, 59, 60, rfl, T1, by decide, by decide, fun H2 n k2 T2 n0 n1 => ?_⟩
      refine ⟨_, n, rfl, rfl, ⟨by omega, by omega⟩, ⟨by omega, by omega⟩, q H2 _ (k1.trans k2) T2 ⟨?_, fun c hc => asc_of c4.2 c (rep_cp _ _ c hc)⟩⟩
      rw [repS_len, c4.1]
      omega
    · refine ⟨_, rfl, tp, cl, ns, 4, rfl, T1, by decide, by decide, fun H2 z k2 T2 hz => q H2 z (k1.trans k2) T2 ⟨?_, hz.sign⟩⟩
      have := hz.most
      rw [cp_len] at this
      omega
end
/-! a length and cues drawn -/
structure CueT (c : Cue) : Prop where
  s0 : 0 ≤ c.s
  s1 : c.s ≤ 2000
  e0 : 0 ≤ c.e
  e1 : c.e ≤ 2000
  nm : Low c.nm
  tx : TextW c.tx
def MadeAt (H : Hp) (r a : Addr) (len : Int) (L : List (Addr × Cue)) : Prop := H r = some (.lst [.int len, .ref a]) ∧ H a = some (.lst (refsC L)) ∧ (∀ e ∈ L, At H e ∧ CueT e.2) ∧ 1 ≤ len ∧ len ≤ 2000 ∧ L.length ≤ 42
theorem At.kbT {tp cl : Addr} {ns : List Int} {H H' : Hp} {e : Addr × Cue} (h : At H e) (T : Tape H tp cl ns) (k : KB tp H H') : At H' e := (k.kt T) _ _ h
theorem MadeAt.kb {tp cl r a : Addr} {ns : List Int} {H H' : Hp} {len : Int} {L : List (Addr × Cue)} (h : MadeAt H r a len L) (nr : r ≠ tp) (na : a ≠ tp) (T : Tape H tp cl ns) (k : KB tp H H') : MadeAt H' r a len L :=
  ⟨k _ _ nr h.1, k _ _ na h.2.1, fun e he => ⟨(h.2.2.1 e he).1.kbT T k, (h.2.2.1 e he).2⟩, h.2.2.2⟩
def spMadeL : Sp := fun vs H Q _ => ∃ (tp cl : Addr) (ns : List Int), vs = [.ref tp] ∧ Tape H tp cl ns ∧ ∀ (H' : Hp) (r a : Addr) (len : Int) (L : List (Addr × Cue)), KB tp H H' → Tape H' tp cl ns → r ≠ tp → a ≠ tp → r ≠ a → MadeAt H' r a len L → Q (.ref r) H'
section
variable {P : Program} {w : World} {K : PySem.W.Frag} {mg : Str → Option Value} {base : Heap}
theorem ok_made {f : Addr} {fd : FuncData} (F : Fun K "_law_made" "_law_made" s__law_made f fd) (m_max : mg "max" = none) (m_range : mg "range" = none) (c__law_pick : Cal P w K mg base 1 "_law_pick" spPick) (c__law_some : Cal P w K mg base 2 "_law_some" spSome)
    (c__law_rarely : Cal P w K mg base 2 "_law_rarely" spRarely) (c__law_names : Cal P w K mg base 2 "_law_names" spNames) (c__law_words : Cal P w K mg base 4 "_law_words" spWords) : FnOk P w K mg base CX0 5 f fd ["_law_tape_here"] spMadeL := by
  refine F.ok sc__law_made (fun vs H Q E h => ?_) (fun cdv A outer s H vs Q E hr h => ?_)
  · obtain ⟨tp, cl, ns, rfl, _⟩ := h
    rfl
  · obtain ⟨tp, cl, ns, rfl, T, q⟩ := h
    refine ⟨_, (pss_cons (ps_set (i := 1) sc__law_made.nd rfl (Or.inl rfl) (pe_c c__law_some hr (by decide) rfl (pa_cons (pv 0) (pa_cons (pe_int) (pa_cons (pe_int) pa_nil)))))
    (C8.pss_cut (ps_if (pt_val (pe_c c__law_rarely hr (by decide) rfl (pa_cons (pv 0) (pa_cons (pe_int) pa_nil))))
    (pss_one (ps_set (i := 1) sc__law_made.nd rfl (Or.inl rfl) (pe_int)))
    pss_nil)
    (pss_cons (ps_set (i := 2) sc__law_made.nd rfl (Or.inl rfl) (pe_callB (call_max2 rfl) (by rfl) m_max (by decide +kernel) (pa_cons (pe_c c__law_pick hr (by decide) rfl (pa_cons (pv 0) (pa_cons (pe_int) pa_nil))) (pa_cons (pe_c c__law_pick hr (by decide) rfl (pa_cons (pv 0) (pa_cons (pe_int) pa_nil))) pa_nil))))
    (C8.pss_cut (ps_if (pt_val (pe_c c__law_rarely hr (by decide) rfl (pa_cons (pv 0) (pa_cons (pe_int) pa_nil))))
    (pss_cons (ps_set (i := 2) sc__law_made.nd rfl (Or.inl rfl) (pe_c c__law_some hr (by decide) rfl (pa_cons (pv 0) (pa_cons (pe_int) (pa_cons (pe_int) pa_nil)))))
    (pss_one (ps_set (i := 1) sc__law_made.nd rfl (Or.inl rfl) (pe_int))))
    pss_nil)
    (pss_cons (ps_set (i := 3) sc__law_made.nd rfl (Or.inl rfl) (pe_c c__law_names hr (by decide) rfl (pa_cons (pv 0) (pa_cons (pe_int) pa_nil))))
    (pss_cons (ps_set (i := 4) sc__law_made.nd rfl (Or.inl rfl) (pe_lst pa_nil))
    (pss_cons (ps_set (i := 5) sc__law_made.nd rfl (Or.inl rfl) (pe_int))
    (pss_cons (ps_for PassesOwn.never rfl (pi_range1 (by rfl) m_range (pa_cons (pv 2) pa_nil)) (pg_name (i := 6) sc__law_made.nd rfl (Or.inl rfl))
    (pss_cons (ps_set (i := 7) sc__law_made.nd rfl (Or.inl rfl) (pe_op op_add (pv 5) (pe_op op_mul (pe_c c__law_pick hr (by decide) rfl (pa_cons (pv 0) (pa_cons (pe_int) pa_nil))) (pe_c c__law_pick hr (by decide) rfl (pa_cons (pv 0) (pa_cons (pe_int) pa_nil))))))
    (pss_cons (ps_set (i := 8) sc__law_made.nd rfl (Or.inl rfl) (pe_op op_add (pv 7) (pe_c c__law_some hr (by decide) rfl (pa_cons (pv 0) (pa_cons (pe_int) (pa_cons (pe_int) pa_nil))))))
    (pss_cons (ps_set (i := 9) sc__law_made.nd rfl (Or.inl rfl) (pe_ix ix_list (pv 3) (pe_c c__law_pick hr (by decide) rfl (pa_cons (pv 0) (pa_cons (pe_int) pa_nil))) (fun _ _ => rfl)))
    (C8.pss_cut (ps_if (pt_val (pe_c c__law_rarely hr (by decide) rfl (pa_cons (pv 0) (pa_cons (pe_int) pa_nil))))
    (pss_one (ps_set (i := 9) sc__law_made.nd rfl (Or.inl rfl) (pe_slice sl_str (pe_op op_add_str (pv 9) (pe_str)) po_none (po_some (pe_int)))))
    pss_nil)
    (pss_cons (ps_set (i := 10) sc__law_made.nd rfl (Or.inl rfl) (pe_c c__law_words hr (by decide) rfl (pa_cons (pv 0) (pa_cons (pv 9) (pa_cons (pv 3) pa_nil)))))
    (pss_one (ps_if (pt_cmpR op_le (pv 8) (pv 1) (nomark _))
    (pss_cons (ps_expr (pe_bm PySem.F.plainAttrs_list PySem.F.slot_list_append PySem.F.type_list_append mt_append (pv 4) (pa_cons (pe_tup (pa_cons (pv 7) (pa_cons (pv 8) (pa_cons (pv 9) (pa_cons (pv 10) pa_nil))))) pa_nil)))
    (pss_one (ps_set (i := 5) sc__law_made.nd rfl (Or.inl rfl) (pv 8))))
    pss_nil))))))))
    (pss_one (ps_ret (pe_lst (pa_cons (pv 1) (pa_cons (pv 4) pa_nil))))))))))))), ?_⟩
    have sl : sizeLine = 16777216 := sizeLine_eq
    refine ⟨_, rfl, tp, cl, ns, 1, 30, rfl, T, by decide, by decide, fun H1 len0 k1 T1 a0 a1 => ?_⟩
    refine ⟨fun σ' H' => ∃ len : Int, σ' = [some (.ref tp), some (.int len), none, none, none, none, none, none, none, none, none] ∧ KB tp H H' ∧ Tape H' tp cl ns ∧ 1 ≤ len ∧ len ≤ 2000, ?_, ?_⟩
    · refine ⟨_, rfl, tp, cl, ns, 10, rfl, T1, by decide, fun H2 b k2 T2 => ⟨b, rfl, ?_⟩⟩
      cases b with
      | false => exact ⟨_, rfl, k1.trans k2, T2, a0, by omega⟩
      | true => exact ⟨_, rfl, k1.trans k2, T2, by decide, by decide⟩
    rintro σ' H2 ⟨len1, rfl, k2, T2, b0, b1⟩
    refine ⟨_, rfl, tp, cl, ns, 6, rfl, T2, by decide, fun H3 x k3 T3 x0 x1 => ⟨_, rfl, tp, cl, ns, 8, rfl, T3, by decide, fun H4 y k4 T4 y0 y1 => ⟨_, _, rfl, ?_⟩⟩⟩
    have mx : 0 ≤ (if y > x then y else x) ∧ (if y > x then y else x) ≤ 42 := by split <;> omega
    generalize (if y > x then y else x) = many0 at mx ⊢
    have K4 := (k2.trans k3).trans k4
    refine ⟨fun σ' H' => ∃ len many : Int, σ' = [some (.ref tp), some (.int len), some (.int many), none, none, none, none, none, none, none, none] ∧ KB tp H H' ∧ Tape H' tp cl ns ∧ 1 ≤ len ∧ len ≤ 2000 ∧ 0 ≤ many ∧ many ≤ 42, ?_, ?_⟩
    · refine ⟨_, rfl, tp, cl, ns, 9, rfl, T4, by decide, fun H5 b k5 T5 => ⟨b, rfl, ?_⟩⟩
      cases b with
      | false => exact ⟨_, _, rfl, K4.trans k5, T5, b0, b1, mx.1, mx.2⟩
      | true => exact ⟨_, rfl, tp, cl, ns, 38, 42, rfl, T5, by decide, by decide, fun H6 d k6 T6 d0 d1 => ⟨_, _, rfl, (K4.trans k5).trans k6, T6, by decide, by decide, by omega, d1⟩⟩
    rintro σ' H5 ⟨len, many, rfl, k5, T5, le0, le1, m0, m1⟩
    refine ⟨_, rfl, tp, cl, ns, 3, rfl, T5, by decide, by decide, fun H6 p ss k6 T6 np hp lss hss => ?_⟩
    have hlow : ∀ z ∈ ss, Low z := fun z hz => ⟨Nat.le_trans (hss z hz).most (by decide), (hss z hz).sign⟩
    have K6 := k5.trans k6
    refine ⟨Nat.zero_le _, fun D hD => ?_⟩
    have nD := T6.fresh hD
    have goneD := kb_none K6 T6 hD
    have npD : p ≠ D := ne_of_none hp hD
    refine ⟨_, rfl, _, rfl, by omega, by omega, ?_⟩
    refine for_it (walk_range (lo := 0) (n := many.toNat)) (fun i σ H' => ∃ (at1 : Int) (L : List (Addr × Cue)) (k6 k7 k8 k9 k10 : Option V), σ = [some (.ref tp), some (.int len), some (.int many), some (.ref p), some (.ref D), some (.int at1), k6, k7, k8, k9, k10] ∧ KB tp H H' ∧ Tape H' tp cl ns ∧
        H' p = some (.lst (ss.map V.str)) ∧ H' D = some (.lst (refsC L)) ∧ (∀ e ∈ L, At H' e ∧ CueT e.2) ∧ 0 ≤ at1 ∧ at1 ≤ 2000 ∧ L.length ≤ i)
        ⟨0, [], none, none, none, none, none, rfl, K6.over goneD, T6.new hD, (same_new hD) _ _ hp, upd_same, fun _ h => (nomatch h), by decide, by decide, Nat.le_refl _⟩ (fun _ _ _ _ _ => trivial) ?_ ?_
    · rintro i x σ Ha Hb hi ⟨at1, L, k6, k7, k8, k9, k10, rfl, ka, Ta, hpa, hda, hL, a0, a1, hl⟩ ⟨rfl, rfl⟩
      refine ⟨_, rfl, _, rfl, tp, cl, ns, 2, rfl, Ta, by decide, fun H7 g kg7 T7 g0 g1 => ⟨_, rfl, tp, cl, ns, 4, rfl, T7, by decide, fun H8 h kg8 T8 h0 h1 => ⟨_, _, rfl, rfl, .inl ⟨by omega, by omega⟩, _, _, rfl, rfl, ?_⟩⟩⟩
      have gh : 0 ≤ g * h ∧ g * h ≤ 3 := by
        have hg : g = 0 ∨ g = 1 := by omega
        rcases hg with e | e <;> subst e
        · rw [Int.zero_mul]
          exact ⟨Int.le_refl _, by decide⟩
        · rw [Int.one_mul]
          omega
      generalize g * h = gh0 at gh ⊢
      refine ⟨_, rfl, _, rfl, tp, cl, ns, 1, 4, rfl, T8, by decide, by decide, fun H9 u kg9 T9 u0 u1 => ⟨_, _, rfl, rfl, ?_⟩⟩
      have K9 := (kg7.trans kg8).trans kg9
      refine ⟨_, rfl, _, rfl, tp, cl, ns, 3, rfl, T9, by decide, fun H10 d k10' T10 d0 d1 => ?_⟩
      have K10 := K9.trans k10'
      obtain ⟨n, rfl⟩ : ∃ n : Nat, d = (n : Int) := ⟨d.toNat, by omega⟩
      have hn : n < ss.length := by omega
      have en : (ss.map V.str)[n]? = some (V.str ss[n]) := by rw [List.getElem?_map, List.getElem?_eq_getElem hn]; rfl
      have hlw := hlow _ (List.getElem_mem hn)
      refine ⟨p, _, _, _, rfl, rfl, SqL.of (K10 _ _ np hpa), atI_nat en, ?_⟩
      refine ⟨fun σ' H' => ∃ sk : Str, σ' = [some (.ref tp), some (.int len), some (.int many), some (.ref p), some (.ref D), some (.int at1), some (.int (0 + (i : Nat))), some (.int (at1 + gh0)), some (.int (at1 + gh0 + u)), some (.str sk), k10] ∧ KB tp Hb H' ∧ Tape H' tp cl ns ∧ Low sk, ?_, ?_⟩
      · refine ⟨_, rfl, tp, cl, ns, 9, rfl, T10, by decide, fun H11 b k11 T11 => ⟨b, rfl, ?_⟩⟩
        cases b with
        | false => exact ⟨_, rfl, K10.trans k11, T11, hlw⟩
        | true =>
          have lb : (Str.ofString "bcdefgh").length = 7 := by decide +kernel
          have ab : ((cp (Str.ofString "bcdefgh")).all fun c => decide (97 ≤ c) && decide (c ≤ 122)) = true := by decide +kernel
          have l8 := hlw.most
          refine ⟨_, rfl, _, _, rfl, rfl, by omega, _, rfl, _, rfl, by rw [app_len]; omega, _, rfl, K10.trans k11, T11, ?_, fun c hc => ?_⟩
          · rw [← cp_len, show cutS (ss[n] ++ Str.ofString "bcdefgh") none (some 8) = cutS (ss[n] ++ Str.ofString "bcdefgh") none (some ((8 : Nat) : Int)) from rfl, cut_to, List.length_take]
            omega
          · have hm := mem_cut hc
            rw [app_cp] at hm
            rcases List.mem_append.mp hm with h | h
            · exact hlw.sign c h
            · have := List.all_eq_true.mp ab c h
              simp only [Bool.and_eq_true, decide_eq_true_eq] at this
              exact this
      rintro σ' H11 ⟨sk, rfl, k11, T11, hsk⟩
      refine ⟨_, rfl, _, rfl, _, rfl, tp, cl, p, ns, sk, ss, rfl, T11, np, k11 _ _ np hpa, ⟨by omega, by omega⟩, hlow, hsk, fun H12 z k12 T12 hz => ?_⟩
      have K12 := k11.trans k12
      have hda12 := K12 _ _ nD.1.symm hda
      have hpa12 := K12 _ _ np hpa
      have hL12 : ∀ e ∈ L, At H12 e ∧ CueT e.2 := fun e he => ⟨(hL e he).1.kbT Ta K12, (hL e he).2⟩
      refine ⟨_, rfl, _, rfl, _, _, rfl, rfl, _, rfl, ite2 (fun hle => ?_) (fun _ => ⟨at1, L, _, _, _, _, _, rfl, ka.trans K12, T12, hpa12, hda12, hL12, a0, a1, Nat.le_succ_of_le hl⟩)⟩
      have hle' : at1 + gh0 + u ≤ len := of_decide_eq_true hle
      refine ⟨_, rfl, .inl ⟨rfl, _, SqL.of hda12⟩, _, rfl, _, rfl, _, rfl, _, rfl, (by show 4 ≤ sizeLine; decide), fun c hc => ?_⟩
      have sc := same_new (o := .tup [.int (at1 + gh0), .int (at1 + gh0 + u), .str sk, .str z]) hc
      refine ⟨D, _, _, rfl, rfl, sc _ _ hda12, (by rw [List.length_map]; exact small_line (by omega)), _, rfl, ?_⟩
      have KK := ka.trans K12
      have kt : KT (upd H12 c (.tup [.int (at1 + gh0), .int (at1 + gh0 + u), .str sk, .str z])) (upd (upd H12 c (.tup [.int (at1 + gh0), .int (at1 + gh0 + u), .str sk, .str z])) D (.lst (refsC L ++ [.ref c]))) := (KT.refl _).over (sc _ _ hda12)
      refine ⟨_, L ++ [(c, ⟨at1 + gh0, at1 + gh0 + u, sk, z⟩)], _, _, _, _, _, rfl, (KK.over (kb_none KK T12 hc)).over goneD, (T12.new hc).other nD.1 nD.2, ?_, ?_, fun e he => ?_, by omega, by omega, ?_⟩
      · rw [upd_ne npD]
        exact sc _ _ hpa12
      · rw [upd_same]
        show _ = some (HO.lst (List.map _ _))
        rw [List.map_append]
        rfl
      · rcases List.mem_append.mp he with h | h
        · exact ⟨kt _ _ (sc _ _ (hL12 e h).1), (hL12 e h).2⟩
        · rw [List.mem_singleton.mp h]
          refine ⟨kt _ _ upd_same, ?_⟩
          exact ⟨(show 0 ≤ at1 + gh0 by omega), (show at1 + gh0 ≤ 2000 by omega), (show 0 ≤ at1 + gh0 + u by omega), (show at1 + gh0 + u ≤ 2000 by omega), hsk, hz⟩
      · rw [List.length_append]
        exact Nat.succ_le_succ hl
    · rintro σ H' ⟨at1, L, k6, k7, k8, k9, k10, rfl, ka, Ta, hpa, hda, hL, a0, a1, hl⟩
      refine ⟨_, rfl, _, rfl, (by show 2 ≤ sizeLine; decide), fun r hr => ?_⟩
      have sr := same_new (o := .lst [.int len, .ref D]) hr
      refine q _ r D len L (ka.new Ta hr) (Ta.new hr) (Ta.fresh hr).1.symm nD.1.symm (fun e => ?_) ⟨upd_same, sr _ _ hda, fun e he => ⟨(hL e he).1.keep sr, (hL e he).2⟩, le0, le1, by omega⟩
      rw [e, hda] at hr
      cases hr
end
end Sea
namespace Sea
open PySem PySem.Spec PyProof.Rows L2
/-! odd things in the place of good ones -/
theorem at_mem {xs : List V} {d : Int} (h0 : 0 ≤ d) (h1 : d < (xs.length : Nat)) : ∃ x, atI xs d = some x ∧ x ∈ xs := by
  obtain ⟨n, rfl⟩ : ∃ n : Nat, d = (n : Int) := ⟨d.toNat, by omega⟩
  have hn : n < xs.length := by omega
  exact ⟨xs[n], atI_nat (List.getElem?_eq_getElem hn), List.getElem_mem hn⟩
theorem all_c {R : V → Prop} {a : V} {r : List V} (h : R a) (t : ∀ x ∈ r, R x) : ∀ x ∈ a :: r, R x := fun x hx => by
  rcases List.mem_cons.mp hx with e | e
  · rw [e]
    exact h
  · exact t x e
theorem all_n {R : V → Prop} : ∀ x ∈ ([] : List V), R x := fun _ h => nomatch h
def IsTh (ms : List Nat) (H : Hp) (x : V) : Prop := ∃ d, Th false ms H x d
theorem IsTh.kt {ms : List Nat} {H H' : Hp} {x : V} (h : IsTh ms H x) (k : KT H H') : IsTh ms H' x := let ⟨d, t⟩ := h; ⟨d, t.kt k⟩
theorem th_str {ms : List Nat} {H : Hp} {z : Str} (h : (decide (z.length ≤ 100) && ascB z) = true) : IsTh ms H (.str z) := by
  rw [Bool.and_eq_true] at h
  exact ⟨.str z, Sc.th ⟨rfl, of_decide_eq_true h.1, asc_of h.2⟩⟩
theorem th_int {ms : List Nat} {H : Hp} {i : Int} (h1 : -100000 ≤ i) (h2 : i ≤ 100000) : IsTh ms H (.int i) := by
  refine ⟨.int i, Sc.th ⟨rfl, ?_⟩⟩
  have : i.natAbs ≤ 100000 := by omega
  exact Nat.lt_of_le_of_lt this (by decide)
theorem th_big {ms : List Nat} {H : Hp} : IsTh ms H (.int (10 ^ (39 : Int).toNat)) := ⟨.int (10 ^ (39 : Int).toNat), Sc.th ⟨rfl, by decide +kernel⟩⟩
theorem th_non {ms : List Nat} {H : Hp} : IsTh ms H .non := ⟨.none, Sc.th rfl⟩
theorem th_bl {ms : List Nat} {H : Hp} {b : Bool} : IsTh ms H (.bl b) := ⟨.bool b, Sc.th rfl⟩
theorem th_tup {m : Nat} {r : List Nat} {H : Hp} {t : Addr} {xs : List V} (h : H t = some (.tup xs)) (hl : xs.length ≤ m) (hx : ∀ x ∈ xs, IsTh r H x) : IsTh (m :: r) H (.ref t) := by
  have all : ∀ l : List V, (∀ x ∈ l, IsTh r H x) → ∃ ds, Paired (Th false r H) l ds := fun l => by
    induction l with
    | nil => exact fun _ => ⟨[], .nil⟩
    | cons a q ih =>
      intro h
      obtain ⟨d, hd⟩ := h a List.mem_cons_self
      obtain ⟨ds, hs⟩ := ih fun x hx => h x (List.mem_cons_of_mem _ hx)
      exact ⟨d :: ds, .cons hd hs⟩
  obtain ⟨ds, hs⟩ := all xs hx
  exact ⟨.tuple ds, .inr ⟨t, xs, ds, rfl, by rw [← paired_len hs]; exact hl, hs, .inl ⟨rfl, h⟩⟩⟩
theorem CueT.th {ms : List Nat} {H : Hp} {c : Cue} (h : CueT c) : ∀ x ∈ c.vs, IsTh ms H x :=
  all_c (th_int (by have := h.s0; omega) (by have := h.s1; omega)) (all_c (th_int (by have := h.e0; omega) (by have := h.e1; omega)) (all_c ⟨.str c.nm, Sc.th ⟨rfl, Nat.le_trans h.nm.most (by decide), h.nm.asc⟩⟩ (all_c ⟨.str c.tx, Sc.th ⟨rfl, h.tx.most, h.tx.sign⟩⟩ all_n)))
def spOdd : Sp := fun vs H Q _ => ∃ (tp cl ca : Addr) (ns : List Int) (way len ahead : Int) (c : Cue), vs = [.ref tp, .int way, .int len, .ref ca, .int ahead] ∧ Tape H tp cl ns ∧ H ca = some (.tup c.vs) ∧ CueT c ∧ (0 ≤ len ∧ len ≤ 2000) ∧ (0 ≤ ahead ∧ ahead ≤ 2000) ∧
  ∀ H' x, KB tp H H' → Tape H' tp cl ns → IsTh [1] H' x → Q x H'
section
variable {P : Program} {w : World} {K : PySem.W.Frag} {mg : Str → Option Value} {base : Heap}
theorem ok_odd {f : Addr} {fd : FuncData} (F : Fun K "_law_odd_part" "_law_odd_part" s__law_odd_part f fd) (c__law_pick : Cal P w K mg base 1 "_law_pick" spPick) :
    FnOk P w K mg base CX0 2 f fd ["_law_tape_here", "_law_way", "_law_length", "_law_cue", "_law_ahead"] spOdd := by
  refine F.ok sc__law_odd_part (fun vs H Q E h => ?_) (fun cdv A outer s H vs Q E hr h => ?_)
  · obtain ⟨tp, cl, ca, ns, way, len, ahead, c, rfl, _⟩ := h
    rfl
  · obtain ⟨tp, cl, ca, ns, way, len, ahead, c, rfl, T, hc, hct, ⟨l0, l1⟩, ⟨a0, a1⟩, q⟩ := h
    refine ⟨_, (pss_cons (ps_if (pt_cmpR op_eq (pv 1) (pe_int) (nomark _))
    (pss_one (ps_ret (pe_ix ix_list (pe_lst (pa_cons (pe_un un_neg (pe_int)) (pa_cons (pe_ix ix_tup (pv 3) (pe_int) (fun _ _ => rfl)) (pa_cons (pe_op op_add (pe_ix ix_tup (pv 3) (pe_int) (fun _ _ => rfl)) (pe_int)) (pa_cons (pe_op op_sub (pv 4) (pe_int)) (pa_cons (pe_bl) (pa_cons (pe_str) (pa_cons (pe_non) (pa_cons (pv 4) (pa_cons (pe_op op_sub (pe_ix ix_tup (pv 3) (pe_int) (fun _ _ => rfl)) (pe_int)) pa_nil)))))))))) (pe_c c__law_pick hr (by decide) rfl (pa_cons (pv 0) (pa_cons (pe_int) pa_nil))) (fun _ _ => rfl))))
    pss_nil)
    (pss_cons (ps_if (pt_cmpR op_eq (pv 1) (pe_int) (nomark _))
    (pss_one (ps_ret (pe_ix ix_list (pe_lst (pa_cons (pe_op op_add (pv 2) (pe_int)) (pa_cons (pe_ix ix_tup (pv 3) (pe_int) (fun _ _ => rfl)) (pa_cons (pe_bl) (pa_cons (pe_non) (pa_cons (pe_str) (pa_cons (pv 2) (pa_cons (pe_op op_add (pe_ix ix_tup (pv 3) (pe_int) (fun _ _ => rfl)) (pe_int)) (pa_cons (pe_op op_pow (pe_int) (pe_int)) pa_nil))))))))) (pe_c c__law_pick hr (by decide) rfl (pa_cons (pv 0) (pa_cons (pe_int) pa_nil))) (fun _ _ => rfl))))
    pss_nil)
    (pss_cons (ps_if (pt_cmpR op_eq (pv 1) (pe_int) (nomark _))
    (pss_cons (ps_set (i := 5) sc__law_odd_part.nd rfl (Or.inl rfl) (pe_lst (pa_cons (pe_str) (pa_cons (pe_str) (pa_cons (pe_str) (pa_cons (pe_str) (pa_cons (pe_str) (pa_cons (pe_non) (pa_cons (pe_int) (pa_cons (pe_tup (pa_cons (pe_str) pa_nil)) (pa_cons (pe_str) (pa_cons (pe_str) (pa_cons (pe_str) (pa_cons (pe_str) pa_nil))))))))))))))
    (pss_one (ps_ret (pe_ix ix_list (pv 5) (pe_c c__law_pick hr (by decide) rfl (pa_cons (pv 0) (pa_cons (pe_int) pa_nil))) (fun _ _ => rfl)))))
    pss_nil)
    (pss_cons (ps_set (i := 5) sc__law_odd_part.nd rfl (Or.inl rfl) (pe_lst (pa_cons (pe_str) (pa_cons (pe_str) (pa_cons (pe_str) (pa_cons (pe_str) (pa_cons (pe_op op_mulS (pe_str) (pe_int)) (pa_cons (pe_op op_mulS (pe_str) (pe_int)) (pa_cons (pe_non) (pa_cons (pe_int) (pa_cons (pe_tup (pa_cons (pe_str) pa_nil)) (pa_cons (pe_str) (pa_cons (pe_str) (pa_cons (pe_str) pa_nil))))))))))))))
    (pss_one (ps_ret (pe_ix ix_list (pv 5) (pe_c c__law_pick hr (by decide) rfl (pa_cons (pv 0) (pa_cons (pe_int) pa_nil))) (fun _ _ => rfl)))))))), ?_⟩
    have hA : SqT K H ca c.vs := SqT.of hc
    have s0 := hct.s0
    have s1 := hct.s1
    have e0 := hct.e0
    have e1 := hct.e1
    -- the end: one of a list is told
    have fin : ∀ {H0 : Hp} {p : Addr} {xs : List V} {d : Int}, Same H H0 → H0 p = none → (∀ x ∈ xs, IsTh [1] H0 x) → 0 ≤ d → d < (xs.length : Nat) → ∀ {H1 : Hp}, KB tp (upd H0 p (.lst xs)) H1 → Tape H1 tp cl ns →
        ∃ (p' : Addr) (xs' : List V) (i : Int) (v : V), V.ref p = V.ref p' ∧ V.int d = V.int i ∧ SqL K H1 p' xs' ∧ atI xs' i = some v ∧ Q v H1 := by
      intro H0 p xs d s0 hp hall h0 h1 H1 k1 T1
      obtain ⟨x, hx, hm⟩ := at_mem h0 h1
      have np := ((T.same s0).fresh hp).1
      have sp := same_new (o := .lst xs) hp
      exact ⟨p, xs, d, x, rfl, rfl, SqL.of (k1 _ _ np.symm upd_same), hx, q H1 x ((KB.of_same (s0.trans sp)).trans k1) T1 ((hall x hm).kt ((KT.of_same sp).trans (k1.kt ((T.same s0).new hp))))⟩
    refine ⟨_, rfl, rfl, _, rfl, ite2 (fun _ => ?_) (fun _ => ⟨_, rfl, rfl, _, rfl, ite2 (fun _ => ?_) (fun _ => ⟨_, rfl, rfl, _, rfl, ite2 (fun _ => ?_) (fun _ => ?_)⟩)⟩)⟩
    · refine ⟨_, rfl, _, rfl, ca, _, 1, _, rfl, rfl, hA, atI_nat (j := 1) rfl, _, rfl, ca, _, 1, _, rfl, rfl, hA, atI_nat (j := 1) rfl, _, _, rfl, rfl, _, rfl, _, _, rfl, rfl, _, rfl, _, rfl, ca, _, 1, _, rfl, rfl, hA, atI_nat (j := 1) rfl, _, _, rfl, rfl, (by show 9 ≤ sizeLine; decide), fun p hp => ?_⟩
      refine ⟨_, rfl, tp, cl, ns, 9, rfl, T.new hp, by decide, fun H1 d k1 T1 d0 d1 => ?_⟩
      refine fin (Same.refl H) hp ?_ d0 (by simp only [List.length_cons, List.length_nil]; omega) k1 T1
      exact all_c (th_int (by decide) (by decide)) (all_c (th_int (by omega) (by omega)) (all_c (th_int (by omega) (by omega)) (all_c (th_int (by omega) (by omega)) (all_c th_bl (all_c (th_str (by decide +kernel)) (all_c th_non (all_c (th_int (by omega) (by omega)) (all_c (th_int (by omega) (by omega)) all_n))))))))
    · refine ⟨_, rfl, _, _, rfl, rfl, _, rfl, ca, _, 0, _, rfl, rfl, hA, atI_nat (j := 0) rfl, _, rfl, _, rfl, ca, _, 0, _, rfl, rfl, hA, atI_nat (j := 0) rfl, _, _, rfl, rfl, _, _, rfl, rfl, ⟨by decide, by decide, by decide⟩, (by show 8 ≤ sizeLine; decide), fun p hp => ?_⟩
      refine ⟨_, rfl, tp, cl, ns, 8, rfl, T.new hp, by decide, fun H1 d k1 T1 d0 d1 => ?_⟩
      refine fin (Same.refl H) hp ?_ d0 (by simp only [List.length_cons, List.length_nil]; omega) k1 T1
      exact all_c (th_int (by omega) (by omega)) (all_c (th_int (by omega) (by omega)) (all_c th_bl (all_c th_non (all_c (th_str (by decide +kernel)) (all_c (th_int (by omega) (by omega)) (all_c (th_int (by omega) (by omega)) (all_c th_big all_n)))))))
    · refine ⟨(by show 1 ≤ sizeLine; decide), fun t ht => ⟨(by show 12 ≤ sizeLine; decide), fun p hp => ?_⟩⟩
      have st := same_new (o := .tup [V.str (Str.ofString "a")]) ht
      refine ⟨_, rfl, _, rfl, tp, cl, ns, 12, rfl, (T.new ht).new hp, by decide, fun H1 d k1 T1 d0 d1 => ?_⟩
      refine fin st hp ?_ d0 (by simp only [List.length_cons, List.length_nil]; omega) k1 T1
      exact all_c (th_str (by decide +kernel)) (all_c (th_str (by decide +kernel)) (all_c (th_str (by decide +kernel)) (all_c (th_str (by decide +kernel)) (all_c (th_str (by decide +kernel)) (all_c th_non (all_c (th_int (by decide) (by decide)) (all_c (th_tup upd_same (by decide) (all_c (th_str (by decide +kernel)) all_n)) (all_c (th_str (by decide +kernel)) (all_c (th_str (by decide +kernel)) (all_c (th_str (by decide +kernel)) (all_c (th_str (by decide +kernel)) all_n)))))))))))
    · have cx : (Str.ofString "x").length = 1 := by decide +kernel
      refine ⟨_, _, rfl, rfl, ⟨by decide, by decide⟩, ⟨by omega, by omega⟩, _, _, rfl, rfl, ⟨by decide, by decide⟩, ⟨by omega, by omega⟩, (by show 1 ≤ sizeLine; decide), fun t ht => ⟨(by show 12 ≤ sizeLine; decide), fun p hp => ?_⟩⟩
      have st := same_new (o := .tup [V.str (Str.ofString "a")]) ht
      refine ⟨_, rfl, _, rfl, tp, cl, ns, 12, rfl, (T.new ht).new hp, by decide, fun H1 d k1 T1 d0 d1 => ?_⟩
      refine fin st hp ?_ d0 (by simp only [List.length_cons, List.length_nil]; omega) k1 T1
      exact all_c (th_str (by decide +kernel)) (all_c (th_str (by decide +kernel)) (all_c (th_str (by decide +kernel)) (all_c (th_str (by decide +kernel)) (all_c (th_str (by decide +kernel)) (all_c (th_str (by decide +kernel)) (all_c th_non (all_c (th_int (by decide) (by decide)) (all_c (th_tup upd_same (by decide) (all_c (th_str (by decide +kernel)) all_n)) (all_c (th_str (by decide +kernel)) (all_c (th_str (by decide +kernel)) (all_c (th_str (by decide +kernel)) all_n)))))))))))
end
end Sea
namespace Sea
open PySem PySem.Spec PyProof.Rows L2
/-! one place exchanged -/
/-- a length and cues that places may be exchanged of -/
def NowAt (H : Hp) (nw b : Addr) (n : Nat) : Prop := ∃ lx cx : V, H nw = some (.lst [lx, cx]) ∧ IsTh [1] H lx ∧ ((Plain cx ∧ ∃ d, Sc cx d) ∨ ∃ xs : List V, cx = .ref b ∧ H b = some (.lst xs) ∧ xs.length = n ∧ ∀ x ∈ xs, IsTh [5, 1] H x)
theorem NowAt.kb {tp cl nw b : Addr} {ns : List Int} {H H' : Hp} {n : Nat} (h : NowAt H nw b n) (n1 : nw ≠ tp) (n2 : b ≠ tp) (T : Tape H tp cl ns) (k : KB tp H H') : NowAt H' nw b n := by
  obtain ⟨lx, cx, h1, h2, h3⟩ := h
  have kt := k.kt T
  refine ⟨lx, cx, k _ _ n1 h1, h2.kt kt, ?_⟩
  rcases h3 with h3 | ⟨xs, e, hb, hl, hx⟩
  · exact .inl h3
  · exact .inr ⟨xs, e, k _ _ n2 hb, hl, fun x hm => (hx x hm).kt kt⟩
/-- all apart -/
structure Apart5 (tp cl r a nw b : Addr) : Prop where
  fr : r ≠ tp
  fa : a ≠ tp
  fw : nw ≠ tp
  fb : b ≠ tp
  rn : r ≠ nw
  rb : r ≠ b
  an : a ≠ nw
  ab : a ≠ b
  nb : nw ≠ b
  cn : cl ≠ nw
  cb : cl ≠ b
theorem MadeAt.over {H : Hp} {r a D : Addr} {len : Int} {L : List (Addr × Cue)} {xs ys : List V} (h : MadeAt H r a len L) (hd : H D = some (.lst xs)) (n1 : r ≠ D) (n2 : a ≠ D) : MadeAt (upd H D (.lst ys)) r a len L := by
  have kt : KT H (upd H D (.lst ys)) := (KT.refl H).over hd
  obtain ⟨h1, h2, h3, h4⟩ := h
  exact ⟨by rw [upd_ne n1]; exact h1, by rw [upd_ne n2]; exact h2, fun e he => ⟨kt _ _ (h3 e he).1, (h3 e he).2⟩, h4⟩
theorem MadeAt.same {H H' : Hp} {r a : Addr} {len : Int} {L : List (Addr × Cue)} (h : MadeAt H r a len L) (s : Same H H') : MadeAt H' r a len L := ⟨s _ _ h.1, s _ _ h.2.1, fun e he => ⟨s _ _ (h.2.2.1 e he).1, (h.2.2.1 e he).2⟩, h.2.2.2⟩
theorem NowAt.same {H H' : Hp} {nw b : Addr} {n : Nat} (h : NowAt H nw b n) (s : Same H H') : NowAt H' nw b n := by
  obtain ⟨lx, cx, h1, h2, h3⟩ := h
  have kt := KT.of_same s
  refine ⟨lx, cx, s _ _ h1, h2.kt kt, ?_⟩
  rcases h3 with h3 | ⟨xs, e, hb, hl, hx⟩
  · exact .inl h3
  · exact .inr ⟨xs, e, s _ _ hb, hl, fun x hm => (hx x hm).kt kt⟩
def spBend : Sp := fun vs H Q _ => ∃ (tp cl r a nw b : Addr) (ns : List Int) (len : Int) (L : List (Addr × Cue)), vs = [.ref tp, .int len, .ref a, .ref nw] ∧ Tape H tp cl ns ∧ Apart5 tp cl r a nw b ∧ MadeAt H r a len L ∧ NowAt H nw b L.length ∧
  ∀ H', Tape H' tp cl ns → MadeAt H' r a len L → NowAt H' nw b L.length → Q .non H'
structure AllAt (H : Hp) (tp cl r a nw b : Addr) (ns : List Int) (len : Int) (L : List (Addr × Cue)) : Prop where
  t : Tape H tp cl ns
  m : MadeAt H r a len L
  n : NowAt H nw b L.length
theorem AllAt.same {H H' : Hp} {tp cl r a nw b : Addr} {ns : List Int} {len : Int} {L : List (Addr × Cue)} (h : AllAt H tp cl r a nw b ns len L) (s : Same H H') : AllAt H' tp cl r a nw b ns len L := ⟨h.t.same s, h.m.same s, h.n.same s⟩
theorem AllAt.kb {H H' : Hp} {tp cl r a nw b : Addr} {ns : List Int} {len : Int} {L : List (Addr × Cue)} (h : AllAt H tp cl r a nw b ns len L) (ap : Apart5 tp cl r a nw b) (k : KB tp H H') (T : Tape H' tp cl ns) : AllAt H' tp cl r a nw b ns len L :=
  ⟨T, h.m.kb ap.fr ap.fa h.t k, h.n.kb ap.fw ap.fb h.t k⟩
theorem AllAt.set0 {H : Hp} {tp cl r a nw b : Addr} {ns : List Int} {len : Int} {L : List (Addr × Cue)} {x : V} (h : AllAt H tp cl r a nw b ns len L) (ap : Apart5 tp cl r a nw b) (hx : IsTh [1] H x) :
    ∃ lx cx : V, H nw = some (.lst [lx, cx]) ∧ AllAt (upd H nw (.lst [x, cx])) tp cl r a nw b ns len L := by
  obtain ⟨lx, cx, h1, h2, h3⟩ := h.n
  have kt : KT H (upd H nw (.lst [x, cx])) := (KT.refl H).over h1
  refine ⟨lx, cx, h1, h.t.other ap.fw.symm ap.cn, h.m.over h1 ap.rn ap.an, x, cx, upd_same, hx.kt kt, ?_⟩
  rcases h3 with h3 | ⟨xs, e, hb, hl, hx⟩
  · exact .inl h3
  · exact .inr ⟨xs, e, by rw [upd_ne ap.nb.symm]; exact hb, hl, fun x hm => (hx x hm).kt kt⟩
theorem AllAt.set1 {H : Hp} {tp cl r a nw b : Addr} {ns : List Int} {len : Int} {L : List (Addr × Cue)} {x : V} {d : PyData} (h : AllAt H tp cl r a nw b ns len L) (ap : Apart5 tp cl r a nw b) (hx : Sc x d) :
    ∃ lx cx : V, H nw = some (.lst [lx, cx]) ∧ AllAt (upd H nw (.lst [lx, x])) tp cl r a nw b ns len L := by
  obtain ⟨lx, cx, h1, h2, h3⟩ := h.n
  have kt : KT H (upd H nw (.lst [lx, x])) := (KT.refl H).over h1
  exact ⟨lx, cx, h1, h.t.other ap.fw.symm ap.cn, h.m.over h1 ap.rn ap.an, lx, x, upd_same, h2.kt kt, .inl ⟨hx.plain, d, hx⟩⟩
theorem AllAt.setK {H : Hp} {tp cl r a nw b : Addr} {ns : List Int} {len : Int} {L : List (Addr × Cue)} {x lx : V} {xs : List V} (k : Nat) (h : AllAt H tp cl r a nw b ns len L) (ap : Apart5 tp cl r a nw b) (hn : H nw = some (.lst [lx, .ref b])) (hlx : IsTh [1] H lx)
    (hb : H b = some (.lst xs)) (hl : xs.length = L.length) (hxs : ∀ x ∈ xs, IsTh [5, 1] H x) (hx : IsTh [5, 1] H x) : AllAt (upd H b (.lst (xs.set k x))) tp cl r a nw b ns len L := by
  have kt : KT H (upd H b (.lst (xs.set k x))) := (KT.refl H).over hb
  refine ⟨h.t.other ap.fb.symm ap.cb, h.m.over hb ap.rb ap.ab, lx, .ref b, by rw [upd_ne ap.nb]; exact hn, hlx.kt kt, .inr ⟨_, rfl, upd_same, by rw [List.length_set]; exact hl, fun y hy => ?_⟩⟩
  rcases List.mem_or_eq_of_mem_set hy with e | e
  · exact (hxs y e).kt kt
  · rw [e]
    exact hx.kt kt
theorem isi_listP {K : PySem.W.Frag} {H : Hp} {x : V} (hp : Plain x) : ∃ t, TyX K H x t ∧ PySem.W.kitOne K t (.type "list") = some false := by
  cases x with
  | int i => exact ⟨_, .base (.int i), kit_ty (by decide +kernel)⟩
  | bl b => exact ⟨_, .base (.bl b), kit_ty (by decide +kernel)⟩
  | non => exact ⟨_, .base .non, kit_ty (by decide +kernel)⟩
  | str z => exact ⟨_, .base (.str z), kit_ty (by decide +kernel)⟩
  | ref a => exact hp.elim
  | byt z => exact hp.elim
  | flt z => exact hp.elim
  | ty z => exact hp.elim
theorem ixN_in {n j : Nat} (hj : j < n) : ixN n (j : Int) = some j := by
  unfold ixN
  rw [if_pos (by omega), if_pos (by omega)]
  simp
theorem int_ne {i j : Int} (h : ¬ decide (V.int i = V.int j) = true) : i ≠ j := fun e => h (by rw [e]; exact decide_eq_true rfl)
theorem int_eq {i j : Int} (h : decide (V.int i = V.int j) = true) : i = j := V.int.inj (of_decide_eq_true h)
section
variable {P : Program} {w : World} {K : PySem.W.Frag} {mg : Str → Option Value} {base : Heap}
theorem ok_bend {f : Addr} {fd : FuncData} (F : Fun K "_law_bend" "_law_bend" s__law_bend f fd) (m_isinstance : mg "isinstance" = none) (m_list : mg "list" = none) (m_tuple : mg "tuple" = none) (m_len : mg "len" = none)
    (c__law_pick : Cal P w K mg base 1 "_law_pick" spPick) (c__law_odd_part : Cal P w K mg base 2 "_law_odd_part" spOdd) :
    FnOk P w K mg base CX0 3 f fd ["_law_tape_here", "_law_length", "_law_cues", "_law_now"] spBend := by
  refine F.ok sc__law_bend (fun vs H Q E h => ?_) (fun cdv A outer s H vs Q E hr h => ?_)
  · obtain ⟨tp, cl, r, a, nw, b, ns, len, L, rfl, _⟩ := h
    rfl
  · obtain ⟨tp, cl, r, a, nw, b, ns, len, L, rfl, T, ap, hM, hN, q⟩ := h
    refine ⟨_, (pss_cons (ps_set (i := 4) sc__law_bend.nd rfl (Or.inl rfl) (pe_c c__law_pick hr (by decide) rfl (pa_cons (pv 0) (pa_cons (pe_int) pa_nil))))
    (pss_one (ps_if (pt_cmpR op_eq (pv 4) (pe_int) (nomark _))
    (pss_one (ps_asg (pe_ix ix_list (pe_lst (pa_cons (pe_int) (pa_cons (pe_un un_neg (pe_int)) (pa_cons (pe_int) (pa_cons (pe_bl) (pa_cons (pe_str) (pa_cons (pe_non) (pa_cons (pe_tup (pa_cons (pe_int) pa_nil)) (pa_cons (pe_op op_pow (pe_int) (pe_int)) (pa_cons (pe_int) pa_nil)))))))))) (pe_c c__law_pick hr (by decide) rfl (pa_cons (pv 0) (pa_cons (pe_int) pa_nil))) (fun _ _ => rfl)) (pg_sub (pv 3) (pe_int) set_list)))
    (pss_one (ps_if (pt_cmpR op_eq (pv 4) (pe_int) (nomark _))
    (pss_one (ps_asg (pe_ix ix_list (pe_lst (pa_cons (pe_str) (pa_cons (pe_non) (pa_cons (pe_int) (pa_cons (pe_str) (pa_cons (pe_bl) (pa_cons (pe_un un_neg (pe_int)) pa_nil))))))) (pe_c c__law_pick hr (by decide) rfl (pa_cons (pv 0) (pa_cons (pe_int) pa_nil))) (fun _ _ => rfl)) (pg_sub (pv 3) (pe_int) set_list)))
    (pss_one (ps_if (PW.pt (pw_and (pt_truth (pv 2) (by intro _; rfl)) (pw_and1 (pt_val (pe_callB call_isi (by rfl) m_isinstance (by decide +kernel) (pa_cons (pe_ix ix_list (pv 3) (pe_int) (fun _ _ => rfl)) (pa_cons (pe_bltn (v := .ty "list") (by rfl) m_list (by decide +kernel) rfl) pa_nil)))))))
    (pss_cons (ps_set (i := 5) sc__law_bend.nd rfl (Or.inl rfl) (pe_c c__law_pick hr (by decide) rfl (pa_cons (pv 0) (pa_cons (pe_callB call_len (by rfl) m_len (by decide +kernel) (pa_cons (pv 2) pa_nil)) pa_nil))))
    (pss_cons (ps_set (i := 6) sc__law_bend.nd rfl (Or.inl rfl) (pe_int))
    (C8.pss_cut (ps_if (pt_cmpR op_gt (pv 5) (pe_int) (nomark _))
    (pss_one (ps_set (i := 6) sc__law_bend.nd rfl (Or.inl rfl) (pe_ix ix_tup (pe_ix ix_list (pv 2) (pe_op op_sub (pv 5) (pe_int)) (fun _ _ => rfl)) (pe_int) (fun _ _ => rfl))))
    pss_nil)
    (pss_one (ps_if (pt_cmpR op_eq (pv 4) (pe_int) (nomark _))
    (pss_one (ps_asg (pe_ix ix_list (pe_lst (pa_cons (pe_non) (pa_cons (pe_tup pa_nil) (pa_cons (pe_str) (pa_cons (pe_int) (pa_cons (pe_slice sl_tup (pe_ix ix_list (pv 2) (pv 5) (fun _ _ => rfl)) po_none (po_some (pe_int))) (pa_cons (pe_op op_catT (pe_ix ix_list (pv 2) (pv 5) (fun _ _ => rfl)) (pe_tup (pa_cons (pe_int) pa_nil))) pa_nil))))))) (pe_c c__law_pick hr (by decide) rfl (pa_cons (pv 0) (pa_cons (pe_int) pa_nil))) (fun _ _ => rfl)) (pg_sub (pe_ix ix_list (pv 3) (pe_int) (fun _ _ => rfl)) (pv 5) set_list)))
    (pss_cons (ps_set (i := 7) sc__law_bend.nd rfl (Or.inl rfl) (pe_callTy call_list_of (by rfl) m_list (by decide +kernel) (pa_cons (pe_ix ix_list (pv 2) (pv 5) (fun _ _ => rfl)) pa_nil)))
    (pss_cons (ps_asg (pe_c c__law_odd_part hr (by decide) rfl (pa_cons (pv 0) (pa_cons (pv 4) (pa_cons (pv 1) (pa_cons (pe_ix ix_list (pv 2) (pv 5) (fun _ _ => rfl)) (pa_cons (pv 6) pa_nil)))))) (pg_sub (pv 7) (pe_op op_sub (pv 4) (pe_int)) set_list))
    (pss_one (ps_asg (pe_callTy call_tuple_of (by rfl) m_tuple (by decide +kernel) (pa_cons (pv 7) pa_nil)) (pg_sub (pe_ix ix_list (pv 3) (pe_int) (fun _ _ => rfl)) (pv 5) set_list))))))))))
    pss_nil))))))), ?_⟩
    have A0 : AllAt H tp cl r a nw b ns len L := ⟨T, hM, hN⟩
    have done : ∀ {H'}, AllAt H' tp cl r a nw b ns len L → Q .non H' := fun {H'} h => q H' h.t h.m h.n
    refine ⟨_, rfl, tp, cl, ns, 7, rfl, T, by decide, fun H1 way k1 T1 w0 w1 => ?_⟩
    have A1 := A0.kb ap k1 T1
    refine ⟨_, rfl, rfl, _, rfl, ite2 (fun _ => ?_) (fun e0 => ⟨_, rfl, rfl, _, rfl, ite2 (fun _ => ?_) (fun e1 => ?_)⟩)⟩
    · refine ⟨_, rfl, (by show 1 ≤ sizeLine; decide), fun t ht => ⟨_, _, rfl, rfl, ⟨by decide, by decide, by decide⟩, (by show 9 ≤ sizeLine; decide), fun p hp => ?_⟩⟩
      have A2 := (A1.same (same_new (o := .tup [V.int 5]) ht))
      have sp := same_new (o := .lst [V.int 0, .int (-1), .int 2001, .bl true, .str (Str.ofString "12"), .non, .ref t, .int (10 ^ (39 : Int).toNat), .int 2000]) hp
      have A3 := A2.same sp
      refine ⟨_, rfl, tp, cl, ns, 9, rfl, A3.t, by decide, fun H2 d k2 T2 d0 d1 => ?_⟩
      have A4 := A3.kb ap k2 T2
      have np := (A2.t.fresh hp).1
      obtain ⟨x, hx, hm⟩ := at_mem (xs := [V.int 0, .int (-1), .int 2001, .bl true, .str (Str.ofString "12"), .non, .ref t, .int (10 ^ (39 : Int).toNat), .int 2000]) d0 (by simp only [List.length_cons, List.length_nil]; omega)
      have all : ∀ x ∈ [V.int 0, .int (-1), .int 2001, .bl true, .str (Str.ofString "12"), .non, .ref t, .int (10 ^ (39 : Int).toNat), .int 2000], IsTh [1] (upd H1 t (.tup [V.int 5])) x :=
        all_c (th_int (by decide) (by decide)) (all_c (th_int (by decide) (by decide)) (all_c (th_int (by decide) (by decide)) (all_c th_bl (all_c (th_str (by decide +kernel)) (all_c th_non (all_c (th_tup upd_same (by decide) (all_c (th_int (by decide) (by decide)) all_n)) (all_c th_big (all_c (th_int (by decide) (by decide)) all_n))))))))
      obtain ⟨lx, cx, hn, A5⟩ := A4.set0 ap ((all x hm).kt ((KT.of_same sp).trans (k2.kt A3.t)))
      exact ⟨p, _, d, x, rfl, rfl, SqL.of (k2 _ _ np.symm upd_same), hx, _, rfl, nw, [lx, cx], 0, 0, rfl, rfl, hn, rfl, done A5⟩
    · refine ⟨_, rfl, (by show 6 ≤ sizeLine; decide), fun p hp => ?_⟩
      have sp := same_new (o := .lst [V.str (Str.ofString "ab"), .non, .int 7, .str (Str.ofString ""), .bl true, .int (-1)]) hp
      have A3 := A1.same sp
      refine ⟨_, rfl, tp, cl, ns, 6, rfl, A3.t, by decide, fun H2 d k2 T2 d0 d1 => ?_⟩
      have A4 := A3.kb ap k2 T2
      have np := (T1.fresh hp).1
      obtain ⟨x, hx, hm⟩ := at_mem (xs := [V.str (Str.ofString "ab"), .non, .int 7, .str (Str.ofString ""), .bl true, .int (-1)]) d0 (by simp only [List.length_cons, List.length_nil]; omega)
      have all : ∀ x ∈ [V.str (Str.ofString "ab"), .non, .int 7, .str (Str.ofString ""), .bl true, .int (-1)], IsTh [] H1 x :=
        all_c (th_str (by decide +kernel)) (all_c th_non (all_c (th_int (by decide) (by decide)) (all_c (th_str (by decide +kernel)) (all_c th_bl (all_c (th_int (by decide) (by decide)) all_n)))))
      obtain ⟨dx, hdx⟩ := all x hm
      obtain ⟨lx, cx, hn, A5⟩ := A4.set1 ap (show Sc x dx from hdx)
      exact ⟨p, _, d, x, rfl, rfl, SqL.of (k2 _ _ np.symm upd_same), hx, _, rfl, nw, [lx, cx], 1, 1, rfl, rfl, hn, rfl, done A5⟩
    · obtain ⟨hMr, hMa, hML, len0, len1, l42⟩ := id A1.m
      have way0 := int_ne e0
      have way1 := int_ne e1
      refine ⟨_, rfl, _, .inl ⟨_, SqL.of hMa, rfl⟩, ?_⟩
      by_cases lz : L = []
      · subst lz
        exact done A1
      have lpos : 0 < L.length := List.length_pos_iff.mpr lz
      refine ite2 (fun _ => ?_) (fun no => absurd ?_ no)
      rotate_left
      · cases L with
        | nil => exact absurd rfl lz
        | cons e0 r0 => rfl
      obtain ⟨lx, cx, hn, hlx, ways⟩ := id A1.n
      rcases ways with ⟨hp, d, hd⟩ | ⟨xs, rfl, hb, hl, hxs⟩
      · obtain ⟨t, ty, kk⟩ := isi_listP (K := K) (H := H1) hp
        exact ⟨_, rfl, nw, _, 1, _, rfl, rfl, SqL.of hn, atI_nat (j := 1) rfl, _, _, _, _, false, rfl, .ty _, ty, kk, false, rfl, done A1⟩
      refine ⟨_, rfl, nw, _, 1, _, rfl, rfl, SqL.of hn, atI_nat (j := 1) rfl, _, _, _, _, true, rfl, .ty _, .base (.lst hb), kit_ty (by decide +kernel), true, rfl, ?_⟩
      refine ⟨_, rfl, _, rfl, _, L.length, rfl, .inl ⟨_, SqL.of hMa, (List.length_map ..).symm⟩, tp, cl, ns, _, rfl, T1, by omega, fun H2 d k2 T2 d0 d1 => ?_⟩
      have A2 := A1.kb ap k2 T2
      have kt2 := k2.kt T1
      obtain ⟨k, rfl⟩ : ∃ k : Nat, d = (k : Int) := ⟨d.toNat, by omega⟩
      have dk : k < L.length := by omega
      obtain ⟨e, he⟩ : ∃ e, L[k]? = some e := ⟨_, List.getElem?_eq_getElem dk⟩
      obtain ⟨hMr2, hMa2, hML2, _⟩ := id A2.m
      obtain ⟨eA, eT⟩ := hML2 e (List.mem_of_getElem? he)
      have hat : atI (refsC L) ((k : Nat) : Int) = some (V.ref e.1) := atI_nat (by rw [List.getElem?_map, he]; rfl)
      have hn2 := k2 _ _ ap.fw hn
      have hb2 := k2 _ _ ap.fb hb
      have hlx2 := hlx.kt kt2
      have hxs2 := fun x hm => (hxs x hm).kt kt2
      refine ⟨fun σ' H' => ∃ ah : Int, σ' = [some (.ref tp), some (.int len), some (.ref a), some (.ref nw), some (.int way), some (.int (k : Nat)), some (.int ah), none] ∧ H' = H2 ∧ 0 ≤ ah ∧ ah ≤ 2000, ?_, ?_⟩
      · refine ⟨_, rfl, _, _, rfl, rfl, _, rfl, ite2 (fun hk => ?_) (fun _ => ⟨_, rfl, rfl, by decide, by decide⟩)⟩
        have hk' : (0 : Int) < (k : Nat) := of_decide_eq_true hk
        obtain ⟨e', he'⟩ : ∃ e', L[k - 1]? = some e' := ⟨_, List.getElem?_eq_getElem (by omega)⟩
        obtain ⟨eA', eT'⟩ := hML2 e' (List.mem_of_getElem? he')
        have hat' : atI (refsC L) (((k : Nat) : Int) - 1) = some (V.ref e'.1) := by
          have : ((k : Nat) : Int) - 1 = ((k - 1 : Nat) : Int) := by omega
          rw [this]
          exact atI_nat (by rw [List.getElem?_map, he']; rfl)
        exact ⟨_, rfl, _, rfl, _, _, rfl, rfl, a, _, _, _, rfl, rfl, SqL.of hMa2, hat', e'.1, _, 1, _, rfl, rfl, SqT.of eA', atI_nat (j := 1) rfl, _, rfl, rfl, eT'.e0, eT'.e1⟩
      rintro σ' H' ⟨ah, rfl, rfl, a0, a1⟩
      refine ⟨_, rfl, rfl, _, rfl, ite2 (fun _ => ?_) (fun e2 => ?_)⟩
      · -- an odd thing for the whole cue
        refine ⟨Nat.zero_le _, fun t0 ht0 => ?_⟩
        have s0 := same_new (o := .tup []) ht0
        refine ⟨_, rfl, _, rfl, a, _, _, _, rfl, rfl, SqL.of (s0 _ _ hMa2), hat, _, rfl, e.1, _, rfl, SqT.of (s0 _ _ eA), (by show ¬ (HT.sIx 4 0 none = 0 ∧ HT.sIx 4 4 (some 3) = 4); decide), fun t2 ht2 => ?_⟩
        have s2 := same_new (o := .tup (cutV e.2.vs none (some 3))) ht2
        have S2 := s0.trans s2
        refine ⟨_, rfl, _, rfl, a, _, _, _, rfl, rfl, SqL.of (S2 _ _ hMa2), hat, (by show 1 ≤ sizeLine; decide), fun t3 ht3 => ?_⟩
        have s3 := same_new (o := .tup [V.int 1]) ht3
        have S3 := S2.trans s3
        refine ⟨e.1, t3, _, _, rfl, rfl, SqT.of (S3 _ _ eA), SqT.of upd_same, (fun z => nomatch z), (by show 5 ≤ sizeLine; decide), (fun z => nomatch z), fun _ t4 ht4 => ?_⟩
        have s4 := same_new (o := .tup (e.2.vs ++ [V.int 1])) ht4
        have S4 := S3.trans s4
        have q0 := s4 _ _ (s3 _ _ (s2 _ _ (upd_same (H := H') (a := t0) (o := .tup []))))
        have q2 := s4 _ _ (s3 _ _ (upd_same (H := upd H' t0 (.tup [])) (a := t2) (o := .tup (cutV e.2.vs none (some 3)))))
        have q4 : (upd (upd (upd (upd H' t0 (.tup [])) t2 (.tup (cutV e.2.vs none (some 3)))) t3 (.tup [V.int 1])) t4 (.tup (e.2.vs ++ [V.int 1]))) t4 = some (.tup (e.2.vs ++ [V.int 1])) := upd_same
        generalize hHx : (upd (upd (upd (upd H' t0 (.tup [])) t2 (.tup (cutV e.2.vs none (some 3)))) t3 (.tup [V.int 1])) t4 (.tup (e.2.vs ++ [V.int 1]))) = Hx at q0 q2 q4 S4 ⊢
        refine ⟨(by show 6 ≤ sizeLine; decide), fun p hp => ?_⟩
        have sp := same_new (o := .lst [V.non, .ref t0, .str (Str.ofString "abcd"), .int 7, .ref t2, .ref t4]) hp
        have A3 := (A2.same S4).same sp
        refine ⟨_, rfl, tp, cl, ns, 6, rfl, A3.t, by decide, fun H5 d k5 T5 d0 d1 => ?_⟩
        have A5 := A3.kb ap k5 T5
        have np := ((A2.same S4).t.fresh hp).1
        have kt5 := (KT.of_same sp).trans (k5.kt A3.t)
        obtain ⟨x, hx, hm⟩ := at_mem (xs := [V.non, .ref t0, .str (Str.ofString "abcd"), .int 7, .ref t2, .ref t4]) d0 (by simp only [List.length_cons, List.length_nil]; omega)
        have all : ∀ x ∈ [V.non, .ref t0, .str (Str.ofString "abcd"), .int 7, .ref t2, .ref t4], IsTh [5, 1] Hx x :=
          all_c th_non (all_c (th_tup q0 (by decide) all_n) (all_c (th_str (by decide +kernel)) (all_c (th_int (by decide) (by decide)) (all_c (th_tup q2 (by have := cutV_length e.2.vs none (some 3); have : e.2.vs.length = 4 := rfl; omega) fun y hy => eT.th y (List.mem_of_mem_drop (List.mem_of_mem_take hy)))
            (all_c (th_tup q4 (show (5 : Nat) ≤ 5 from Nat.le_refl 5) fun y hy => by
              rcases List.mem_append.mp hy with h | h
              · exact eT.th y h
              · rw [List.mem_singleton.mp h]
                exact th_int (by decide) (by decide)) all_n)))))
        have S5 := S4.trans sp
        have hn5 := k5 _ _ ap.fw (S5 _ _ hn2)
        have hb5 := k5 _ _ ap.fb (S5 _ _ hb2)
        have kt25 := (KT.of_same S5).trans (k5.kt A3.t)
        refine ⟨p, _, d, x, rfl, rfl, SqL.of (k5 _ _ np.symm upd_same), hx, _, rfl, nw, _, 1, _, rfl, rfl, SqL.of hn5, atI_nat (j := 1) rfl, _, rfl, b, xs, (k : Nat), k, rfl, rfl, hb5, ixN_in (by omega), ?_⟩
        exact done (A5.setK k ap hn5 (hlx2.kt kt25) hb5 hl (fun x hm => (hxs2 x hm).kt kt25) ((all x hm).kt kt5))
      · -- an odd part of the cue
        have way2 := int_ne e2
        refine ⟨_, rfl, _, rfl, a, _, _, _, rfl, rfl, SqL.of hMa2, hat, e.1, _, rfl, .inr (SqT.of eA), fun D hD => ?_⟩
        have sD := same_new (o := .lst e.2.vs) hD
        have A3 := A2.same sD
        have nD := A2.t.fresh hD
        refine ⟨_, rfl, _, rfl, _, rfl, _, rfl, _, rfl, a, _, _, _, rfl, rfl, SqL.of (sD _ _ hMa2), hat, _, rfl, tp, cl, e.1, ns, way, len, ah, e.2, rfl, A3.t, sD _ _ eA, eT, ⟨by omega, by omega⟩, ⟨a0, a1⟩, fun H4 x k4 T4 hx => ?_⟩
        have A4 := A3.kb ap k4 T4
        have hD4 : H4 D = some (.lst e.2.vs) := k4 _ _ nD.1.symm upd_same
        obtain ⟨j, ej⟩ : ∃ j : Nat, way - 3 = (j : Int) := ⟨(way - 3).toNat, by omega⟩
        have j4 : j < 4 := by omega
        refine ⟨_, rfl, _, rfl, _, _, rfl, rfl, D, e.2.vs, way - 3, j, rfl, rfl, hD4, by rw [ej]; exact ixN_in j4, ?_⟩
        have goneD : ∀ {z : Addr} {o : HO}, H' z = some o → z ≠ D := fun h => ne_of_none h hD
        have nwD := goneD hn2
        have nbD := goneD hb2
        have ktD : KT H4 (upd H4 D (.lst (e.2.vs.set j x))) := (KT.refl H4).over hD4
        have A5 : AllAt (upd H4 D (.lst (e.2.vs.set j x))) tp cl r a nw b ns len L := by
          refine ⟨A4.t.other nD.1 nD.2, A4.m.over hD4 (goneD hMr2) (goneD hMa2), ?_⟩
          obtain ⟨lx', cx', g1, g2, g3⟩ := A4.n
          refine ⟨lx', cx', by rw [upd_ne nwD]; exact g1, g2.kt ktD, ?_⟩
          rcases g3 with g3 | ⟨ys, e, hb', hl', hx'⟩
          · exact .inl g3
          · exact .inr ⟨ys, e, by rw [upd_ne nbD]; exact hb', hl', fun x hm => (hx' x hm).kt ktD⟩
        have hD5 : (upd H4 D (.lst (e.2.vs.set j x))) D = some (.lst (e.2.vs.set j x)) := upd_same
        refine ⟨_, rfl, D, _, rfl, .inl ⟨SqL.of hD5, fun t ht => ?_⟩⟩
        have st := same_new (o := .tup (e.2.vs.set j x)) ht
        have kt2 : KT H' (upd (upd H4 D (.lst (e.2.vs.set j x))) t (.tup (e.2.vs.set j x))) := (((KT.of_same sD).trans (k4.kt A3.t)).trans ktD).trans (KT.of_same st)
        have hn6 := st _ _ (show (upd H4 D (.lst (e.2.vs.set j x))) nw = _ by rw [upd_ne nwD]; exact k4 _ _ ap.fw (sD _ _ hn2))
        have hb6 := st _ _ (show (upd H4 D (.lst (e.2.vs.set j x))) b = _ by rw [upd_ne nbD]; exact k4 _ _ ap.fb (sD _ _ hb2))
        refine ⟨_, rfl, nw, _, 1, _, rfl, rfl, SqL.of hn6, atI_nat (j := 1) rfl, _, rfl, b, xs, (k : Nat), k, rfl, rfl, hb6, ixN_in (by omega), ?_⟩
        refine done ((A5.same st).setK k ap hn6 (hlx2.kt kt2) hb6 hl (fun x hm => (hxs2 x hm).kt kt2) (th_tup upd_same ?_ fun y hy => ?_))
        · rw [List.length_set]
          exact (show (4 : Nat) ≤ 5 by decide)
        · rcases List.mem_or_eq_of_mem_set hy with h | h
          · exact eT.th y h
          · rw [h]
            exact hx.kt (ktD.trans (KT.of_same st))
end
end Sea
namespace Sea
open PySem PySem.Spec PyProof.Rows L2
/-! odd things and drawn strings -/
abbrev LTS : Str := Str.ofString "abcdefghijklmnopqrstuvwxyzABZ019 -:~"
theorem lts_len : LTS.length = 36 ∧ ascB LTS = true := by decide +kernel
theorem lts_at {d : Int} (h0 : 0 ≤ d) (h1 : d < 36) : ∃ c, atI (cp LTS) d = some c ∧ (32 ≤ c ∧ c ≤ 126 ∧ c ≠ 37) := by
  obtain ⟨k, rfl⟩ : ∃ k : Nat, d = (k : Int) := ⟨d.toNat, by omega⟩
  have hk : k < (cp LTS).length := by
    rw [cp_len, lts_len.1]
    omega
  exact ⟨(cp LTS)[k], atI_nat (List.getElem?_eq_getElem hk), asc_of lts_len.2 _ (List.getElem_mem hk)⟩
structure TxtO (z : Str) : Prop where
  most : z.length ≤ 2000
  sign : AscP z
def baseT (t0 l0 t1 : Addr) : List V := [.non, .int 0, .bl true, .ref t0, .ref l0, .ref t1, .str (Str.ofString "")]
structure ThgAt (H : Hp) (D t0 l0 t1 : Addr) (m : Nat) : Prop where
  ex : ∃ ss : List Str, H D = some (.lst (baseT t0 l0 t1 ++ ss.map V.str)) ∧ ss.length ≤ m ∧ ∀ z ∈ ss, TxtO z
  h0 : H t0 = some (.tup [])
  hl : H l0 = some (.lst [V.str (Str.ofString "a")])
  h1 : H t1 = some (.tup [V.str (Str.ofString "a")])
theorem ThgAt.same {H H' : Hp} {D t0 l0 t1 : Addr} {m : Nat} (h : ThgAt H D t0 l0 t1 m) (s : Same H H') : ThgAt H' D t0 l0 t1 m := by
  obtain ⟨ss, e1, e2⟩ := h.ex
  exact ⟨⟨ss, s _ _ e1, e2⟩, s _ _ h.h0, s _ _ h.hl, s _ _ h.h1⟩
theorem ThgAt.kb {tp cl : Addr} {ns : List Int} {H H' : Hp} {D t0 l0 t1 : Addr} {m : Nat} (h : ThgAt H D t0 l0 t1 m) (n1 : D ≠ tp) (n2 : l0 ≠ tp) (T : Tape H tp cl ns) (k : KB tp H H') : ThgAt H' D t0 l0 t1 m := by
  obtain ⟨ss, e1, e2⟩ := h.ex
  have kt := k.kt T
  exact ⟨⟨ss, k _ _ n1 e1, e2⟩, kt _ _ h.h0, k _ _ n2 h.hl, kt _ _ h.h1⟩
theorem ThgAt.over {H : Hp} {D t0 l0 t1 S : Addr} {m : Nat} {xs ys : List V} (h : ThgAt H D t0 l0 t1 m) (hs : H S = some (.lst xs)) (n1 : D ≠ S) (n2 : l0 ≠ S) : ThgAt (upd H S (.lst ys)) D t0 l0 t1 m := by
  obtain ⟨ss, e1, e2⟩ := h.ex
  have kt : KT H (upd H S (.lst ys)) := (KT.refl H).over hs
  exact ⟨⟨ss, by rw [upd_ne n1]; exact e1, e2⟩, kt _ _ h.h0, by rw [upd_ne n2]; exact h.hl, kt _ _ h.h1⟩
theorem ThgAt.push {H : Hp} {D t0 l0 t1 : Addr} {m : Nat} {z : Str} (h : ThgAt H D t0 l0 t1 m) (n2 : l0 ≠ D) (hz : TxtO z) : ∃ xs, H D = some (.lst xs) ∧ xs.length ≤ m + 7 ∧ ThgAt (upd H D (.lst (xs ++ [.str z]))) D t0 l0 t1 (m + 1) := by
  obtain ⟨ss, e1, e2, e3⟩ := h.ex
  have kt : KT H (upd H D (.lst ((baseT t0 l0 t1 ++ ss.map V.str) ++ [V.str z]))) := (KT.refl H).over e1
  refine ⟨_, e1, ?_, ⟨ss ++ [z], ?_, ?_, fun y hy => ?_⟩, kt _ _ h.h0, by rw [upd_ne n2]; exact h.hl, kt _ _ h.h1⟩
  · rw [List.length_append, List.length_map]
    have : (baseT t0 l0 t1).length = 7 := rfl
    omega
  · rw [upd_same, List.map_append, List.append_assoc]
    rfl
  · rw [List.length_append]
    exact Nat.succ_le_succ e2
  · rcases List.mem_append.mp hy with e | e
    · exact e3 y e
    · rw [List.mem_singleton.mp e]
      exact hz
theorem ThgAt.up {H : Hp} {D t0 l0 t1 : Addr} {m n : Nat} (h : ThgAt H D t0 l0 t1 m) (l : m ≤ n) : ThgAt H D t0 l0 t1 n := by
  obtain ⟨ss, e1, e2, e3⟩ := h.ex
  exact ⟨⟨ss, e1, Nat.le_trans e2 l, e3⟩, h.h0, h.hl, h.h1⟩
def IsThing (H : Hp) (x : V) : Prop := AnyV H x ∧ ∀ z, x = .str z → z.length ≤ 2000 ∧ AscP z
theorem ThgAt.all {H : Hp} {D t0 l0 t1 : Addr} {m : Nat} (h : ThgAt H D t0 l0 t1 m) : ∃ xs, H D = some (.lst xs) ∧ xs.length ≤ m + 7 ∧ ∀ x ∈ xs, IsThing H x := by
  obtain ⟨ss, e1, e2, e3⟩ := h.ex
  refine ⟨_, e1, ?_, fun x hx => ?_⟩
  · rw [List.length_append, List.length_map]
    have : (baseT t0 l0 t1).length = 7 := rfl
    omega
  have plain : ∀ {x : V}, Plain x → (∀ z, x ≠ .str z) → IsThing H x := fun hp hn => ⟨.inl hp, fun z e => absurd e (hn z)⟩
  have str : ∀ {z : Str}, TxtO z → IsThing H (.str z) := fun {z} hz => ⟨.inl trivial, fun y e => by cases e; exact ⟨hz.most, hz.sign⟩⟩
  rcases List.mem_append.mp hx with q | q
  · have all : ∀ x ∈ baseT t0 l0 t1, IsThing H x :=
      all_c (plain trivial fun z e => nomatch e) (all_c (plain trivial fun z e => nomatch e) (all_c (plain trivial fun z e => nomatch e) (all_c ⟨.inr ⟨t0, _, rfl, .inr h.h0⟩, fun z e => nomatch e⟩ (all_c ⟨.inr ⟨l0, _, rfl, .inl h.hl⟩, fun z e => nomatch e⟩
        (all_c ⟨.inr ⟨t1, _, rfl, .inr h.h1⟩, fun z e => nomatch e⟩ (all_c (str ⟨by decide +kernel, asc_of (by decide +kernel)⟩) all_n))))))
    exact all x q
  · obtain ⟨z, hz, rfl⟩ := List.mem_map.mp q
    exact str (e3 z hz)
theorem flat_rep {α : Type} (a : α) : ∀ n : Nat, (List.replicate n [a]).flatten = List.replicate n a
  | 0 => rfl
  | n + 1 => by
    rw [List.replicate_succ, List.flatten_cons, flat_rep a n]
    rfl
theorem word_len (cs : List Nat) : (Txt.join (Str.ofString "") (cs.map fun c => (⟨#[c]⟩ : Str))).length = cs.length := by
  rw [← cp_len, word_cp]
def spThings : Sp := fun vs H Q _ => ∃ (tp cl : Addr) (ns : List Int), vs = [.ref tp] ∧ Tape H tp cl ns ∧ ∀ (H' : Hp) (p : Addr) (xs : List V), H' p = some (.lst xs) → xs.length ≤ 100 → (∀ x ∈ xs, IsThing H' x) → Q (.ref p) H'
section
variable {P : Program} {w : World} {K : PySem.W.Frag} {mg : Str → Option Value} {base : Heap}
theorem ok_things {f : Addr} {fd : FuncData} (F : Fun K "_law_things" "_law_things" s__law_things f fd) (m_range : mg "range" = none) (c__law_pick : Cal P w K mg base 1 "_law_pick" spPick) (c__law_some : Cal P w K mg base 2 "_law_some" spSome) (c__law_rarely : Cal P w K mg base 2 "_law_rarely" spRarely) :
    FnOk P w K mg base CX0 3 f fd ["_law_tape_here"] spThings := by
  refine F.ok sc__law_things (fun vs H Q E h => ?_) (fun cdv A outer s H vs Q E hr h => ?_)
  · obtain ⟨tp, cl, ns, rfl, _⟩ := h
    rfl
  · obtain ⟨tp, cl, ns, rfl, T, q⟩ := h
    refine ⟨_, (pss_cons (ps_set (i := 1) sc__law_things.nd rfl (Or.inl rfl) (pe_lst (pa_cons (pe_non) (pa_cons (pe_int) (pa_cons (pe_bl) (pa_cons (pe_tup pa_nil) (pa_cons (pe_lst (pa_cons (pe_str) pa_nil)) (pa_cons (pe_tup (pa_cons (pe_str) pa_nil)) (pa_cons (pe_str) pa_nil)))))))))
    (pss_cons (ps_set (i := 2) sc__law_things.nd rfl (Or.inr rfl) (pe_str))
    (pss_cons (ps_for PassesOwn.never rfl (pi_range1 (by rfl) m_range (pa_cons (pe_int) pa_nil)) (pg_name (i := 3) sc__law_things.nd rfl (Or.inl rfl))
    (pss_cons (ps_set (i := 4) sc__law_things.nd rfl (Or.inl rfl) (pe_c c__law_pick hr (by decide) rfl (pa_cons (pv 0) (pa_cons (pe_int) pa_nil))))
    (pss_cons (ps_set (i := 6) sc__law_things.nd rfl (Or.inl rfl) (pe_join (pe_str) (pe_lc (own := [("_law_at", 5)]) rfl sc__law_things.nd (pi_range1 (by rfl) m_range (pa_cons (pv 4) pa_nil)) (blkOk_by (N := N__law_things) (sc := defScope s__law_things) (by decide +kernel)) (fun _ _ _ _ _ => (pg_name (i := 5) sc__law_things.nd rfl (Or.inl rfl))) (fun _ _ _ _ _ => pts_nil) (fun _ _ _ _ _ => (pe_ix ix_str (pv 2) (pe_c c__law_pick hr (by decide) rfl (pa_cons (pv 0) (pa_cons (pe_int) pa_nil))) (fun _ _ => rfl))))))
    (C8.pss_cut (ps_if (PW.pt (pw_and (pt_val (pe_c c__law_rarely hr (by decide) rfl (pa_cons (pv 0) (pa_cons (pe_int) pa_nil)))) (pw_and1 (pt_cmpR op_gt (pv 4) (pe_int) (nomark _)))))
    (pss_cons (ps_set (i := 5) sc__law_things.nd rfl (Or.inl rfl) (pe_c c__law_pick hr (by decide) rfl (pa_cons (pv 0) (pa_cons (pv 4) pa_nil))))
    (pss_one (ps_set (i := 6) sc__law_things.nd rfl (Or.inl rfl) (pe_op op_add_str (pe_op op_add_str (pe_slice sl_str (pv 6) po_none (po_some (pv 5))) (pe_ix ix_str (pv 2) (pe_op op_add (pe_int) (pe_c c__law_pick hr (by decide) rfl (pa_cons (pv 0) (pa_cons (pe_int) pa_nil)))) (fun _ _ => rfl))) (pe_slice sl_str (pv 6) (po_some (pe_op op_add (pv 5) (pe_int))) po_none)))))
    pss_nil)
    (pss_one (ps_expr (pe_bm PySem.F.plainAttrs_list PySem.F.slot_list_append PySem.F.type_list_append mt_append (pv 1) (pa_cons (pv 6) pa_nil))))))))
    (pss_cons (ps_for PassesOwn.never rfl (pi_range1 (by rfl) m_range (pa_cons (pe_int) pa_nil)) (pg_name (i := 3) sc__law_things.nd rfl (Or.inl rfl))
    (pss_cons (ps_set (i := 4) sc__law_things.nd rfl (Or.inl rfl) (pe_c c__law_some hr (by decide) rfl (pa_cons (pv 0) (pa_cons (pe_int) (pa_cons (pe_int) pa_nil)))))
    (C8.pss_cut (ps_if (pt_val (pe_c c__law_rarely hr (by decide) rfl (pa_cons (pv 0) (pa_cons (pe_int) pa_nil))))
    (pss_one (ps_set (i := 4) sc__law_things.nd rfl (Or.inl rfl) (pe_c c__law_some hr (by decide) rfl (pa_cons (pv 0) (pa_cons (pe_int) (pa_cons (pe_int) pa_nil))))))
    pss_nil)
    (pss_cons (ps_set (i := 7) sc__law_things.nd rfl (Or.inl rfl) (pe_op op_rep (pe_lst (pa_cons (pe_str) pa_nil)) (pv 4)))
    (pss_cons (ps_for PassesOwn.never rfl (pi_range1 (by rfl) m_range (pa_cons (pe_c c__law_pick hr (by decide) rfl (pa_cons (pv 0) (pa_cons (pe_int) pa_nil))) pa_nil)) (pg_name (i := 8) sc__law_things.nd rfl (Or.inl rfl))
    (pss_one (ps_asg (pe_str) (pg_sub (pv 7) (pe_c c__law_pick hr (by decide) rfl (pa_cons (pv 0) (pa_cons (pv 4) pa_nil))) set_list))))
    (pss_one (ps_expr (pe_bm PySem.F.plainAttrs_list PySem.F.slot_list_append PySem.F.type_list_append mt_append (pv 1) (pa_cons (pe_join (pe_str) (pv 7)) pa_nil)))))))))
    (pss_cons (ps_if (pt_val (pe_c c__law_rarely hr (by decide) rfl (pa_cons (pv 0) (pa_cons (pe_int) pa_nil))))
    (pss_one (ps_expr (pe_bm PySem.F.plainAttrs_list PySem.F.slot_list_append PySem.F.type_list_append mt_append (pv 1) (pa_cons (pe_op op_mulS (pe_str) (pe_int)) pa_nil))))
    pss_nil)
    (pss_one (ps_ret (pv 1)))))))), ?_⟩
    have sl : sizeLine = 16777216 := sizeLine_eq
    have l0e : (Str.ofString "").length = 0 := by decide +kernel
    refine ⟨Nat.zero_le _, fun t0 ht0 => ⟨(by show 1 ≤ sizeLine; decide), fun l0 hl0 => ⟨(by show 1 ≤ sizeLine; decide), fun t1 ht1 => ⟨(by show 7 ≤ sizeLine; decide), fun D hD => ?_⟩⟩⟩⟩
    have s0 := same_new (o := .tup []) ht0
    have s1 := same_new (o := .lst [V.str (Str.ofString "a")]) hl0
    have s2 := same_new (o := .tup [V.str (Str.ofString "a")]) ht1
    have s3 := same_new (o := .lst [V.non, V.int 0, V.bl true, V.ref t0, V.ref l0, V.ref t1, V.str (Str.ofString "")]) hD
    have A0 : ThgAt (upd (upd (upd (upd H t0 (.tup [])) l0 (.lst [V.str (Str.ofString "a")])) t1 (.tup [V.str (Str.ofString "a")])) D (.lst [V.non, V.int 0, V.bl true, V.ref t0, V.ref l0, V.ref t1, V.str (Str.ofString "")])) D t0 l0 t1 0 :=
      ⟨⟨[], by rw [upd_same]; rfl, Nat.le_refl _, fun _ h => nomatch h⟩, s3 _ _ (s2 _ _ (s1 _ _ upd_same)), s3 _ _ (s2 _ _ upd_same), s3 _ _ upd_same⟩
    have Ta := (T.new (o := .tup []) ht0)
    have nl0 := (Ta.fresh hl0).1.symm
    have Tb := (Ta.new (o := .lst [V.str (Str.ofString "a")]) hl0).new (o := .tup [V.str (Str.ofString "a")]) ht1
    have nD := Tb.fresh hD
    have T0 := Tb.new (o := .lst [V.non, V.int 0, V.bl true, V.ref t0, V.ref l0, V.ref t1, V.str (Str.ofString "")]) hD
    have nlD : l0 ≠ D := ne_of_none (s2 _ _ (upd_same (H := upd H t0 (.tup [])) (a := l0) (o := .lst [V.str (Str.ofString "a")]))) hD
    generalize (upd (upd (upd (upd H t0 (.tup [])) l0 (.lst [V.str (Str.ofString "a")])) t1 (.tup [V.str (Str.ofString "a")])) D (.lst [V.non, V.int 0, V.bl true, V.ref t0, V.ref l0, V.ref t1, V.str (Str.ofString "")])) = H0 at A0 T0 ⊢
    refine ⟨_, rfl, by decide, by decide, ?_⟩
    refine for_it (walk_range (lo := 0) (n := (6 : Int).toNat)) (fun i σ H' => ∃ (k3 k4 k5 k6 : Option V), σ = [some (.ref tp), some (.ref D), some (.str LTS), k3, k4, k5, k6, none, none] ∧ Tape H' tp cl ns ∧ ThgAt H' D t0 l0 t1 i)
      ⟨none, none, none, none, rfl, T0, A0⟩ (fun _ _ _ _ _ => trivial) ?_ ?_
    · rintro i x σ Ha Hb hi ⟨k3, k4, k5, k6, rfl, Tx, Ax⟩ ⟨rfl, rfl⟩
      have hi6 : i < 6 := hi
      refine ⟨_, rfl, tp, cl, ns, 11, rfl, Tx, by decide, fun H1 d k1 T1 d0 d1 => ?_⟩
      have A1 := Ax.kb nD.1.symm nl0 Tx k1
      refine ⟨⟨_, rfl⟩, _, rfl, d, rfl, by omega, by omega, fun D2 hD2 => ?_⟩
      have nD2 := T1.fresh hD2
      refine lc_range (lo := 0) (n := d.toNat) (fun j H' => Tape H' tp cl ns ∧ ThgAt H' D t0 l0 t1 i ∧ ∃ cs : List Nat, H' D2 = some (.lst ((cs.map fun c => (⟨#[c]⟩ : Str)).map V.str)) ∧ cs.length = j ∧ ∀ c ∈ cs, 32 ≤ c ∧ c ≤ 126 ∧ c ≠ 37)
        ⟨T1.new hD2, A1.same (same_new hD2), [], upd_same, rfl, fun _ h => nomatch h⟩ ?_ ?_
      · rintro j H' hj ⟨Tj, Aj, cs, hd, hcl, hcs⟩
        refine ⟨rfl, _, rfl, _, rfl, tp, cl, ns, 26, rfl, Tj, by decide, fun H3 d3 k3 T3 p0 p1 => ?_⟩
        obtain ⟨c, hc, hsg⟩ := lts_at p0 (by omega)
        have hd3 : H3 D2 = some (.lst ((cs.map fun c => (⟨#[c]⟩ : Str)).map V.str)) := k3 D2 _ nD2.1.symm hd
        have nDD : D ≠ D2 := by
          obtain ⟨ss, e1, _⟩ := A1.ex
          exact ne_of_none e1 hD2
        have nlD2 : l0 ≠ D2 := ne_of_none A1.hl hD2
        refine ⟨LTS, d3, c, rfl, rfl, by rw [lts_len.1]; omega, hc, _, hd3, ?_, T3.other nD2.1 nD2.2, (Aj.kb nD.1.symm nl0 Tj k3).over hd3 nDD nlD2, cs ++ [c], ?_, ?_, fun c' hc' => ?_⟩
        · rw [List.length_map, List.length_map]
          exact small_line (by omega)
        · rw [upd_same, List.map_append, List.map_append]
          rfl
        · rw [List.length_append, hcl]
          rfl
        · rcases List.mem_append.mp hc' with h | h
          · exact hcs c' h
          · rw [List.mem_singleton.mp h]
            exact hsg
      · rintro H2 ⟨T2, A2, cs, hd, hcl, hcs⟩
        have wl := word_len cs
        have ww : AscP (Txt.join (Str.ofString "") (cs.map fun c => (⟨#[c]⟩ : Str))) := fun c hc => by
          rw [word_cp] at hc
          exact hcs c hc
        refine ⟨_, D2, _, rfl, rfl, .inl (SqL.of hd), ?_, ?_⟩
        · rw [sum_ones, List.length_map, l0e]
          omega
        generalize hword : Txt.join (Str.ofString "") (cs.map fun c => (⟨#[c]⟩ : Str)) = word at wl ww ⊢
        refine ⟨fun σ' H' => ∃ (k5 : Option V) (z : Str), σ' = [some (.ref tp), some (.ref D), some (.str LTS), some (.int (0 + (i : Nat))), some (.int d), k5, some (.str z), none, none] ∧ Tape H' tp cl ns ∧ ThgAt H' D t0 l0 t1 i ∧ TxtO z, ?_, ?_⟩
        · refine ⟨_, rfl, tp, cl, ns, 2, rfl, T2, by decide, fun H3 b k3 T3 => ⟨b, rfl, ?_⟩⟩
          have A3 := A2.kb nD.1.symm nl0 T2 k3
          have keep : TxtO word := ⟨by omega, ww⟩
          cases b with
          | false => exact ⟨_, word, rfl, T3, A3, keep⟩
          | true =>
            refine iteT ⟨_, rfl, _, _, rfl, rfl, _, rfl, ite2 (fun hd0 => ?_) (fun _ => ⟨_, word, rfl, T3, A3, keep⟩)⟩
            have hd0' : 0 < d := of_decide_eq_true hd0
            refine ⟨_, rfl, _, rfl, tp, cl, ns, d, rfl, T3, by omega, fun H4 at4 k4 T4 a0 a1 => ?_⟩
            have A4 := A3.kb nD.1.symm nl0 T3 k4
            refine ⟨_, rfl, _, rfl, at4, rfl, word, rfl, by omega, _, rfl, _, rfl, tp, cl, ns, 10, rfl, T4, by decide, fun H5 d5 k5 T5 e0 e1 => ⟨_, _, rfl, rfl, ?_⟩⟩
            have A5 := A4.kb nD.1.symm nl0 T4 k5
            obtain ⟨c, hc, hsg⟩ := lts_at (d := 26 + d5) (by omega) (by omega)
            have c1 := cut_len word none (some at4)
            have c2 := cut_len word (some (at4 + 1)) none
            refine ⟨LTS, _, c, rfl, rfl, by rw [lts_len.1]; omega, hc, _, _, rfl, rfl, ?_, _, rfl, _, rfl, _, _, rfl, rfl, _, rfl, word, rfl, by omega, _, _, rfl, rfl, ?_, ?_⟩
            · show _ + 1 ≤ _
              omega
            · rw [app_len]
              show _ + 1 + _ ≤ _
              omega
            · refine ⟨_, _, rfl, T5, A5, ?_, ?_⟩
              · rw [app_len, app_len]
                show _ + 1 + _ ≤ _
                omega
              · refine AscP.app (AscP.app (fun c hc => ww c (mem_cut hc)) fun c' hc' => ?_) fun c hc => ww c (mem_cut hc)
                rw [List.mem_singleton.mp (show c' ∈ [c] from hc')]
                exact hsg
        · rintro σ' H3 ⟨k5', z, rfl, T3, A3, hz⟩
          obtain ⟨xs, hx, hxl, A4⟩ := A3.push nlD hz
          refine ⟨_, rfl, .inl ⟨rfl, _, SqL.of hx⟩, _, rfl, D, _, _, rfl, rfl, hx, small_line (by omega), _, _, _, _, rfl, T3.other nD.1 nD.2, A4⟩
    · rintro σ H1 ⟨k3, k4, k5, k6, rfl, T1, A1⟩
      have A1 : ThgAt H1 D t0 l0 t1 (0 + 6) := A1
      refine ⟨_, rfl, by decide, by decide, ?_⟩
      refine for_it (walk_range (lo := 0) (n := (6 : Int).toNat)) (fun i σ H' => ∃ (k3 k4 k7 k8 : Option V), σ = [some (.ref tp), some (.ref D), some (.str LTS), k3, k4, k5, k6, k7, k8] ∧ Tape H' tp cl ns ∧ ThgAt H' D t0 l0 t1 (i + 6))
        ⟨k3, k4, none, none, rfl, T1, A1⟩ (fun _ _ _ _ _ => trivial) ?_ ?_
      · rintro i x σ Ha Hb hi ⟨k3', k4', k7, k8, rfl, Tx, Ax⟩ ⟨rfl, rfl⟩
        have hi6 : i < 6 := hi
        refine ⟨_, rfl, tp, cl, ns, 1, 8, rfl, Tx, by decide, by decide, fun H2 d k2 T2 d0 d1 => ?_⟩
        have A2 := Ax.kb nD.1.symm nl0 Tx k2
        refine ⟨fun σ' H' => ∃ n : Int, σ' = [some (.ref tp), some (.ref D), some (.str LTS), some (.int (0 + (i : Nat))), some (.int n), k5, k6, k7, k8] ∧ Tape H' tp cl ns ∧ ThgAt H' D t0 l0 t1 (i + 6) ∧ 1 ≤ n ∧ n ≤ 62, ?_, ?_⟩
        · refine ⟨_, rfl, tp, cl, ns, 2, rfl, T2, by decide, fun H3 b k3 T3 => ⟨b, rfl, ?_⟩⟩
          have A3 := A2.kb nD.1.symm nl0 T2 k3
          cases b with
          | false => exact ⟨d, rfl, T3, A3, d0, by omega⟩
          | true => exact ⟨_, rfl, tp, cl, ns, 58, 62, rfl, T3, by decide, by decide, fun H4 n k4 T4 n0 n1 => ⟨n, rfl, T4, A3.kb nD.1.symm nl0 T3 k4, by omega, n1⟩⟩
        rintro σ' H3 ⟨n, rfl, T3, A3, n0, n1⟩
        refine ⟨(by show 1 ≤ sizeLine; decide), fun q1 hq1 => ⟨_, rfl, q1, n, _, rfl, rfl, upd_same, by omega, by omega, ?_, fun S hS => ?_⟩⟩
        · show 1 * n.toNat ≤ _
          omega
        have sq := same_new (o := .lst [V.str (Str.ofString "x")]) hq1
        have ex : (List.replicate n.toNat [V.str (Str.ofString "x")]).flatten = (((List.replicate n.toNat 120).map fun c => (⟨#[c]⟩ : Str)).map V.str) := by
          rw [flat_rep, List.map_replicate, List.map_replicate]
          have : Str.ofString "x" = (⟨#[120]⟩ : Str) := by decide +kernel
          rw [this]
        rw [ex]
        have T4 := (T3.new (o := .lst [V.str (Str.ofString "x")]) hq1)
        have A4 := (A3.same sq)
        have nS := T4.fresh hS
        have nDS : D ≠ S := by
          obtain ⟨ss, e1, _⟩ := A4.ex
          exact ne_of_none e1 hS
        have nlS : l0 ≠ S := ne_of_none A4.hl hS
        have T5 := T4.new (o := .lst (((List.replicate n.toNat 120).map fun c => (⟨#[c]⟩ : Str)).map V.str)) hS
        have A5 := A4.same (same_new (o := .lst (((List.replicate n.toNat 120).map fun c => (⟨#[c]⟩ : Str)).map V.str)) hS)
        refine ⟨_, rfl, tp, cl, ns, 4, rfl, T5, by decide, fun H6 m k6' T6 m0 m1 => ⟨_, rfl, by omega, by omega, ?_⟩⟩
        have A6 := A5.kb nD.1.symm nl0 T5 k6'
        have hS6 := k6' _ _ nS.1.symm (upd_same (a := S) (o := .lst (((List.replicate n.toNat 120).map fun c => (⟨#[c]⟩ : Str)).map V.str)))
        refine for_it (walk_range (lo := 0) (n := m.toNat)) (fun j σ H' => ∃ (k8 : Option V) (cs : List Nat), σ = [some (.ref tp), some (.ref D), some (.str LTS), some (.int (0 + (i : Nat))), some (.int n), k5, k6, some (.ref S), k8] ∧ Tape H' tp cl ns ∧ ThgAt H' D t0 l0 t1 (i + 6) ∧
          H' S = some (.lst ((cs.map fun c => (⟨#[c]⟩ : Str)).map V.str)) ∧ cs.length = n.toNat ∧ ∀ c ∈ cs, 32 ≤ c ∧ c ≤ 126 ∧ c ≠ 37)
          ⟨k8, List.replicate n.toNat 120, rfl, T6, A6, hS6, List.length_replicate .., fun c hc => by rw [List.eq_of_mem_replicate hc]; decide⟩ (fun _ _ _ _ _ => trivial) ?_ ?_
        · rintro j x σ Ha Hb hj ⟨k8', cs, rfl, Ty, Ay, hSy, hcl, hcs⟩ ⟨rfl, rfl⟩
          refine ⟨_, rfl, _, rfl, _, rfl, tp, cl, ns, n, rfl, Ty, by omega, fun H7 d7 k7' T7 e0 e1 => ?_⟩
          obtain ⟨jj, rfl⟩ : ∃ jj : Nat, d7 = (jj : Int) := ⟨d7.toNat, by omega⟩
          have hSz := k7' _ _ nS.1.symm hSy
          have e32 : Str.ofString " " = (⟨#[32]⟩ : Str) := by decide +kernel
          refine ⟨S, _, (jj : Nat), jj, rfl, rfl, hSz, ixN_in (by rw [List.length_map, List.length_map]; omega), _, cs.set jj 32, rfl, T7.other nS.1 nS.2, (Ay.kb nD.1.symm nl0 Ty k7').over hSz nDS nlS, ?_, ?_, fun c hc => ?_⟩
          · rw [upd_same, e32, List.map_set, List.map_set]
          · rw [List.length_set]
            exact hcl
          · rcases List.mem_or_eq_of_mem_set hc with h | h
            · exact hcs c h
            · rw [h]
              decide
        · rintro σ H7 ⟨k8', cs, rfl, T7, A7, hS7, hcl, hcs⟩
          have wl := word_len cs
          have ww : AscP (Txt.join (Str.ofString "") (cs.map fun c => (⟨#[c]⟩ : Str))) := fun c hc => by
            rw [word_cp] at hc
            exact hcs c hc
          obtain ⟨xs, hx, hxl, A8⟩ := A7.push (z := Txt.join (Str.ofString "") (cs.map fun c => (⟨#[c]⟩ : Str))) nlD ⟨by omega, ww⟩
          refine ⟨_, rfl, .inl ⟨rfl, _, SqL.of hx⟩, ⟨_, rfl⟩, _, rfl, _, S, _, rfl, rfl, .inl (SqL.of hS7), ?_, D, _, _, rfl, rfl, hx, small_line (by omega), _, _, _, _, rfl, T7.other nD.1 nD.2, A8.up (by omega)⟩
          rw [sum_ones, List.length_map, l0e]
          omega
      · rintro σ H2 ⟨k3', k4', k7, k8, rfl, T2, A2⟩
        have A2 : ThgAt H2 D t0 l0 t1 (6 + 6) := A2
        refine ⟨_, rfl, tp, cl, ns, 9, rfl, T2, by decide, fun H3 b k3 T3 => ⟨b, rfl, ?_⟩⟩
        have A3 := A2.kb nD.1.symm nl0 T2 k3
        cases b with
        | false =>
          obtain ⟨xs, hx, hl, hall⟩ := A3.all
          exact ⟨_, rfl, q H3 D xs hx (by omega) hall⟩
        | true =>
          have ly : (Str.ofString "y").length = 1 ∧ ascB (Str.ofString "y") = true := by decide +kernel
          obtain ⟨xs, hx, hxl, A8⟩ := A3.push (z := repS (Str.ofString "y") (2000 : Int).toNat) nlD ⟨by rw [repS_len, ly.1]; decide, fun c hc => asc_of ly.2 c (rep_cp _ _ c hc)⟩
          refine ⟨_, rfl, .inl ⟨rfl, _, SqL.of hx⟩, _, _, rfl, rfl, ⟨by decide, by decide⟩, ⟨by rw [ly.1]; decide, by rw [ly.1]; decide⟩, D, _, _, rfl, rfl, hx, small_line (by omega), ?_⟩
          obtain ⟨ys, hy, hl, hall⟩ := A8.all
          exact ⟨_, rfl, q _ D ys hy (by omega) hall⟩
end
end Sea
namespace Sea
open PySem PySem.Spec PyProof.Rows L2
/-! texts in order, with a name ahead; the things are told right -/
theorem ltc_irr : ∀ a : List Nat, ltCps a a = false
  | [] => rfl
  | a :: r => by
    show (decide (a < a) || (a == a && ltCps r r)) = false
    rw [ltc_irr r]
    simp
theorem ltc_trans : ∀ a b c : List Nat, ltCps a b = true → ltCps b c = true → ltCps a c = true
  | [], [], _, h, _ => by cases h
  | _ :: _, [], _, h, _ => by cases h
  | _, _ :: _, [], _, h => by cases h
  | [], _ :: _, _ :: _, _, _ => rfl
  | a :: r, b :: s, c :: t, h1, h2 => by
    have e1 : (decide (a < b) || (a == b && ltCps r s)) = true := h1
    have e2 : (decide (b < c) || (b == c && ltCps s t)) = true := h2
    show (decide (a < c) || (a == c && ltCps r t)) = true
    simp only [Bool.or_eq_true, decide_eq_true_eq, Bool.and_eq_true, beq_iff_eq] at e1 e2 ⊢
    rcases e1 with h | ⟨h, g⟩ <;> rcases e2 with k | ⟨k, l⟩
    · exact .inl (by omega)
    · exact .inl (by omega)
    · exact .inl (by omega)
    · exact .inr ⟨by omega, ltc_trans r s t g l⟩
theorem ltc_tri : ∀ a b : List Nat, a ≠ b → ltCps b a = false → ltCps a b = true
  | [], [], h, _ => absurd rfl h
  | [], _ :: _, _, _ => rfl
  | _ :: _, [], _, h => by cases h
  | a :: r, b :: s, h, g => by
    have e : (decide (b < a) || (b == a && ltCps s r)) = false := g
    show (decide (a < b) || (a == b && ltCps r s)) = true
    rw [Bool.or_eq_false_iff] at e
    have n1 : ¬ b < a := of_decide_eq_false e.1
    by_cases hab : a = b
    · subst hab
      have e2 : ltCps s r = false := by
        have := e.2
        simpa using this
      have := ltc_tri r s (fun z => h (by rw [z])) e2
      simp [this]
    · have : a < b := by omega
      simp [this]
theorem rising_pw : ∀ (l : List Str) (p : Str), risingS p l = true → (p :: l).Nodup → (p :: l).Pairwise (fun a b => ltCps a.cps.toList b.cps.toList = true)
  | [], p, _, _ => List.pairwise_singleton ..
  | x :: r, p, h, hn => by
    have e : (!ltCps x.cps.toList p.cps.toList && risingS x r) = true := h
    rw [Bool.and_eq_true] at e
    obtain ⟨n1, n2⟩ := List.nodup_cons.mp hn
    have ih := rising_pw r x e.2 n2
    have ne : p.cps.toList ≠ x.cps.toList := fun z => n1 (by rw [cp_inj (show cp p = cp x from z)]; exact List.mem_cons_self)
    have lt := ltc_tri _ _ ne (by simpa using e.1)
    refine List.pairwise_cons.mpr ⟨fun y hy => ?_, ih⟩
    rcases List.mem_cons.mp hy with q | q
    · rw [q]
      exact lt
    · exact ltc_trans _ _ _ lt (List.rel_of_pairwise_cons ih q)
theorem sorted_pw {l : List Str} (h : sortedS l = true) (hn : l.Nodup) : l.Pairwise (fun a b => ltCps a.cps.toList b.cps.toList = true) := by
  cases l with
  | nil => exact List.Pairwise.nil
  | cons p r => exact rising_pw r p h hn
theorem pw_uniq : ∀ l r : List Str, l.Pairwise (fun a b => ltCps a.cps.toList b.cps.toList = true) → r.Pairwise (fun a b => ltCps a.cps.toList b.cps.toList = true) → (∀ k, k ∈ l ↔ k ∈ r) → l = r
  | [], [], _, _, _ => rfl
  | [], b :: r, _, _, h => nomatch (h b).mpr List.mem_cons_self
  | a :: l, [], _, _, h => nomatch (h a).mp List.mem_cons_self
  | a :: l, b :: r, h1, h2, h => by
    obtain ⟨p1, p2⟩ := List.pairwise_cons.mp h1
    obtain ⟨q1, q2⟩ := List.pairwise_cons.mp h2
    have e : a = b := by
      rcases List.mem_cons.mp ((h a).mp List.mem_cons_self) with z | z
      · exact z
      · rcases List.mem_cons.mp ((h b).mpr List.mem_cons_self) with y | y
        · exact y.symm
        · have := ltc_trans _ _ _ (p1 b y) (q1 a z)
          rw [ltc_irr] at this
          cases this
    subst e
    congr 1
    refine pw_uniq l r p2 q2 fun k => ⟨fun hk => ?_, fun hk => ?_⟩
    · rcases List.mem_cons.mp ((h k).mp (List.mem_cons_of_mem _ hk)) with z | z
      · have := p1 k hk
        rw [z, ltc_irr] at this
        cases this
      · exact z
    · rcases List.mem_cons.mp ((h k).mpr (List.mem_cons_of_mem _ hk)) with z | z
      · have := q1 k hk
        rw [z, ltc_irr] at this
        cases this
      · exact z
theorem speak_uniq {cs : List Cue} {zs ys : List Str} (h : SpeakS cs zs) (hn : ys.Nodup) (hs : sortedS ys = true) (hm : ∀ k, k ∈ ys ↔ k ∈ cs.map (·.nm)) : ys = zs :=
  pw_uniq ys zs (sorted_pw hs hn) (sorted_pw h.st h.nd) fun k => (hm k).trans (h.mem k).symm
/-- the text begins with the name and a colon -/
theorem name_ahead (c : Cue) : decide (V.str (cutS c.tx none (some ((c.nm.length : Nat) + 1))) = V.str (c.nm ++ Str.ofString ":")) = nameB c := by
  have l1 : (Str.ofString ":").length = 1 := by decide +kernel
  have e1 : cp (cutS c.tx none (some ((c.nm.length : Nat) + 1))) = (cp c.tx).take (c.nm.length + 1) := by
    have : (((c.nm.length : Nat) : Int) + 1) = ((c.nm.length + 1 : Nat) : Int) := by omega
    rw [this, cut_to]
  have e2 : (c.nm ++ Str.ofString ":").length = c.nm.length + 1 := by rw [app_len, l1]
  have e3 : nameB c = (decide (0 + (c.nm ++ Str.ofString ":").length ≤ c.tx.length) && (((cp c.tx).drop 0).take (c.nm ++ Str.ofString ":").length == cp (c.nm ++ Str.ofString ":"))) := by
    unfold nameB Txt.startswith
    rw [PySem.StrLaws.subAt_eq]
  rw [e3, List.drop_zero, e2]
  by_cases h : (cp c.tx).take (c.nm.length + 1) = cp (c.nm ++ Str.ofString ":")
  · have h2 : cutS c.tx none (some ((c.nm.length : Nat) + 1)) = c.nm ++ Str.ofString ":" := cp_inj (e1.trans h)
    rw [decide_eq_true (congrArg V.str h2), h]
    have h3 := congrArg List.length h
    rw [List.length_take, cp_len, cp_len, e2] at h3
    rw [decide_eq_true (by omega)]
    simp
  · have h2 : ¬ V.str (cutS c.tx none (some ((c.nm.length : Nat) + 1))) = V.str (c.nm ++ Str.ofString ":") := fun z => h (by rw [← e1]; exact congrArg cp (V.str.inj z))
    rw [decide_eq_false h2, beq_eq_false_iff_ne.mpr h, Bool.and_false]
def spThingsR : Sp := fun vs H Q _ => ∃ (p : Addr) (xs : List V), vs = [.ref p] ∧ H p = some (.lst xs) ∧ (∀ x ∈ xs, IsThing H x) ∧ ∀ H', Same H H' → Q (.bl true) H'
theorem AnyV.keep {H H' : Hp} {x : V} (h : AnyV H x) (s : Same H H') : AnyV H' x := by
  rcases h with h | ⟨a, xs, e, h | h⟩
  · exact .inl h
  · exact .inr ⟨a, xs, e, .inl (s _ _ h)⟩
  · exact .inr ⟨a, xs, e, .inr (s _ _ h)⟩
theorem same_pl {n : Nat} {H : Hp} {x : V} (h : Plain x) : SameV n H x x := by
  cases n with
  | zero => exact ⟨h, rfl⟩
  | succ n => exact .inl ⟨h, rfl⟩
section
variable {P : Program} {w : World} {K : PySem.W.Frag} {mg : Str → Option Value} {base : Heap}
theorem ok_things_right {f : Addr} {fd : FuncData} (F : Fun K "_law_things_right" "_law_things_right" s__law_things_right f fd) (c__law_same : Cal P w K mg base 4 "_law_same" (spSame 3)) (c_is_name : Cal P w K mg base 1 "is_name" spNameA) (c_is_text : Cal P w K mg base 2 "is_text" spIsText)
    (c__law_name_good : Cal P w K mg base 1 "_law_name_good" spNameA) (c__law_text_good : Cal P w K mg base 1 "_law_text_good" spTextL) : FnOk P w K mg base CX0 5 f fd ["_law_things_here"] spThingsR := by
  refine F.ok sc__law_things_right (fun vs H Q E h => ?_) (fun cdv A outer s H vs Q E hr h => ?_)
  · obtain ⟨p, xs, rfl, _⟩ := h
    rfl
  · obtain ⟨p, xs, rfl, hp, hx, q⟩ := h
    refine ⟨_, (pss_cons (ps_for PassesOwn.never rfl (pi_list (pv 0)) (pg_name (i := 1) sc__law_things_right.nd rfl (Or.inl rfl))
    (pss_cons (ps_if (pt_not (pt_val (pe_c c__law_same hr (by decide) rfl (pa_cons (pe_c c_is_name hr (by decide) rfl (pa_cons (pv 1) pa_nil)) (pa_cons (pe_c c__law_name_good hr (by decide) rfl (pa_cons (pv 1) pa_nil)) pa_nil)))))
    (pss_one (ps_ret (pe_bl)))
    pss_nil)
    (pss_one (ps_if (pt_not (pt_val (pe_c c__law_same hr (by decide) rfl (pa_cons (pe_c c_is_text hr (by decide) rfl (pa_cons (pv 1) pa_nil)) (pa_cons (pe_c c__law_text_good hr (by decide) rfl (pa_cons (pv 1) pa_nil)) pa_nil)))))
    (pss_one (ps_ret (pe_bl)))
    pss_nil))))
    (pss_one (ps_ret (pe_bl)))), ?_⟩
    refine ⟨_, rfl, p, rfl, ⟨_, SqL.of hp⟩, ?_⟩
    refine for_it walk_list (fun i σ H' => ∃ k1, σ = [some (.ref p), k1] ∧ Same H H') ⟨none, rfl, Same.refl H⟩ (fun i σ H' _ ⟨_, _, hs⟩ => SqL.of (hs _ _ hp)) ?_ ?_
    · rintro i x σ Ha Hb hi ⟨k1, rfl, hs⟩ ⟨rfl, hy⟩
      obtain ⟨ha, hz⟩ := hx x (List.mem_of_getElem? hy)
      refine ⟨_, rfl, x, rfl, ha.keep hs, fun z e => (hz z e).1, fun H1 s1 => ⟨_, rfl, x, rfl, ha.keep (hs.trans s1), fun z e => (hz z e).1, fun H2 s2 => ⟨_, _, rfl, same_pl trivial, fun H3 s3 => ⟨_, rfl, ?_⟩⟩⟩⟩
      have s13 := (s1.trans s2).trans s3
      refine ⟨_, rfl, x, rfl, ha.keep (hs.trans s13), fun z e => (hz z e).1, fun H4 s4 => ⟨_, rfl, x, rfl, ha.keep (hs.trans (s13.trans s4)), hz, fun H5 s5 => ⟨_, _, rfl, same_pl trivial, fun H6 s6 => ⟨_, rfl, ?_⟩⟩⟩⟩
      exact ⟨_, rfl, hs.trans (((s13.trans s4).trans s5).trans s6)⟩
    · rintro σ H' ⟨k1, rfl, hs⟩
      exact q H' hs
end
end Sea
namespace Sea
open PySem PySem.Spec PyProof.Rows L2
/-! a reel tells right -/
/-- a method of a class -/
def OwnM (P : Program) (w : World) (K : PySem.W.Frag) (mg : Str → Option Value) (base : Heap) (CX : CXT) (k : Nat) (C : Addr) (nm : Str) (ps : List Str) (sp : Sp) : Prop :=
  ∃ (f : Addr) (fd : FuncData), FnOk P w K mg base CX k f fd ps sp ∧ PySem.W.findIn K (.ref C) nm = some (some (.ref f)) ∧ PySem.W.isFn K (.ref f) = true ∧ PySem.W.fnIn K f = true ∧ Binds K fd ps []
def OwnS (P : Program) (w : World) (K : PySem.W.Frag) (mg : Str → Option Value) (base : Heap) (k : Nat) (C : Addr) (nm : Str) (ps : List Str) (sp : Nat → Sp) : Prop :=
  ∃ (f : Addr) (fd : FuncData), FnS P w K mg base k f fd ps sp ∧ PySem.W.findIn K (.ref C) nm = some (some (.ref f)) ∧ PySem.W.isFn K (.ref f) = true ∧ Binds K fd ps []
def OwnP (P : Program) (w : World) (K : PySem.W.Frag) (mg : Str → Option Value) (base : Heap) (k : Nat) (C : Addr) (nm : Str) (sp : Sp) : Prop :=
  ∃ (p g : Addr) (fd : FuncData), PropOf K C nm p g ∧ FnOk P w K mg base CX0 k g fd ["self"] sp ∧ Binds K fd ["self"] []
theorem paired_at {α β : Type} {R : α → β → Prop} {l : List α} {r : List β} (h : Paired R l r) : l.length = r.length ∧ ∀ (i : Nat) u v, l[i]? = some u → r[i]? = some v → R u v := by
  induction h with
  | nil => exact ⟨rfl, fun i u v h => nomatch h⟩
  | cons a t ih =>
    refine ⟨congrArg (· + 1) ih.1, fun i u v h1 h2 => ?_⟩
    cases i with
    | zero =>
      cases h1
      cases h2
      exact a
    | succ i => exact ih.2 i u v h1 h2
theorem same_tup {n : Nat} {H : Hp} {a b : Addr} {xs ys : List V} (ha : H a = some (.tup xs)) (hb : H b = some (.tup ys)) (hl : ys.length ≤ 1000) (h : Paired (SameV n H) xs ys) : SameV (n + 1) H (.ref a) (.ref b) :=
  .inr ⟨a, b, xs, ys, rfl, rfl, ha, hb, (paired_at h).1, hl, (paired_at h).2⟩
theorem same_strs {n : Nat} {H : Hp} : ∀ ss : List Str, Paired (SameV n H) (ss.map V.str) (ss.map V.str)
  | [] => .nil
  | _ :: r => .cons (same_pl trivial) (same_strs r)
theorem same_nats {n : Nat} {H : Hp} : ∀ ss : List Nat, Paired (SameV n H) (ss.map fun k => V.int (k : Nat)) (ss.map fun k => V.int (k : Nat))
  | [] => .nil
  | _ :: r => .cons (same_pl trivial) (same_nats r)
theorem same_cue {n : Nat} {H : Hp} {e d : Addr × Cue} (h : e.2 = d.2) (h1 : At H e) (h2 : At H d) : SameV (n + 1) H (.ref e.1) (.ref d.1) := by
  have h1' : H e.1 = some (.tup d.2.vs) := by rw [← h]; exact h1
  exact same_tup h1' h2 (by show 4 ≤ 1000; decide) (.cons (same_pl trivial) (.cons (same_pl trivial) (.cons (same_pl trivial) (.cons (same_pl trivial) .nil))))
theorem same_cues {n : Nat} {H : Hp} : ∀ {L M : List (Addr × Cue)}, cuesC L = cuesC M → (∀ e ∈ L, At H e) → (∀ e ∈ M, At H e) → Paired (SameV (n + 1) H) (refsC L) (refsC M)
  | [], [], _, _, _ => .nil
  | [], _ :: _, h, _, _ => by cases h
  | _ :: _, [], h, _, _ => by cases h
  | e :: r, d :: q, h, h1, h2 => .cons (same_cue (List.cons.inj h).1 (h1 e List.mem_cons_self) (h2 d List.mem_cons_self)) (same_cues (List.cons.inj h).2 (fun x hx => h1 x (List.mem_cons_of_mem _ hx)) fun x hx => h2 x (List.mem_cons_of_mem _ hx))
/-- cues as tuples, at t -/
def CuesT (H : Hp) (t : Addr) (M : List (Addr × Cue)) : Prop := H t = some (.tup (refsC M)) ∧ ∀ e ∈ M, At H e
theorem CuesT.keep {H H' : Hp} {t : Addr} {M : List (Addr × Cue)} (h : CuesT H t M) (s : Same H H') : CuesT H' t M := ⟨s _ _ h.1, fun e he => (h.2 e he).keep s⟩
theorem inV_strs (z : Str) : ∀ ss : List Str, inV (.str z) (ss.map V.str) = decide (z ∈ ss)
  | [] => rfl
  | a :: r => by
    show (eqV (.str a) (.str z) || inV (.str z) (r.map V.str)) = _
    rw [inV_strs z r]
    show ((a == z) || decide (z ∈ r)) = decide (z ∈ a :: r)
    by_cases h : a = z
    · subst h
      simp
    · rw [beq_eq_false_iff_ne.mpr h, Bool.false_or]
      by_cases h2 : z ∈ r
      · simp [h2]
      · rw [decide_eq_false h2, decide_eq_false]
        intro q
        rcases List.mem_cons.mp q with e | e
        · exact h e.symm
        · exact h2 e
theorem flat_strs (ss : List Str) : (ss.map V.str).all flatV = true := by
  induction ss with
  | nil => rfl
  | cons a r ih => exact ih
theorem drop_new {H : Hp} {it : Addr} {o : HO} (h : H it = none) : ItX.dropH (upd H it o) it = H := by
  funext b
  by_cases e : b = it
  · subst e
    rw [ItX.dropH_same, h]
  · rw [ItX.dropH_ne e, upd_ne e]
theorem naming_succ (cs : List Cue) (i : Nat) : namingTo cs (i + 1) = namingTo cs i ++ (if namesAt cs i = true then [i] else []) := by
  unfold namingTo
  rw [List.range_succ, List.filter_append]
  congr 1
  rw [List.filter_cons]
  rfl
def spReelRt (CR : Addr) : Sp := fun vs H Q _ => ∃ (x ct : Addr) (len : Int) (L M : List (Addr × Cue)), vs = [.ref x, .int len, .ref ct] ∧ ReelAt H CR x len L ∧ CuesT H ct M ∧ cuesC M = cuesC L ∧ (∀ c ∈ cuesC L, CueG c) ∧ L.length ≤ 40 ∧ ∀ H', Same H H' → Q (.bl true) H'
theorem txt_len {c : Cue} (g : CueG c) : c.nm.length ≤ 8 ∧ c.tx.length ≤ 60 := by
  have h1 := g.nm.most
  have h2 := g.tx.most
  rw [cp_len] at h1 h2
  exact ⟨h1, h2⟩
section
variable {P : Program} {w : World} {K : PySem.W.Frag} {mg : Str → Option Value} {base : Heap} {CB CM CR CLn CE fR fI : Addr}
theorem ok_reel_right {f : Addr} {fd : FuncData} (F : Fun K "_law_reel_right" "_law_reel_right" s__law_reel_right f fd) (m_len : mg "len" = none) (m_tuple : mg "tuple" = none) (m_range : mg "range" = none) (m_all : mg "all" = none) (m_sorted : mg "sorted" = none) (T : RC K mg CR fI)
    (oL : OwnM P w K mg base CX0 1 CR "__len__" ["self"] (spLenR CR)) (oG : OwnM P w K mg base (L2.CX P w) 3 CR "__getitem__" ["self", "at"] (spItemR CR CB)) (oI : OwnS P w K mg base 1 CR "__iter__" ["self"] (spIterR CR))
    (pS : OwnP P w K mg base 1 CR "speakers" (spSpeak CR)) (pN : OwnP P w K mg base 1 CR "naming" (spNamingR CR))
    (c__law_same : Cal P w K mg base 4 "_law_same" (spSame 3)) (c__law_no_cue : CalG P w K mg base 5 "_law_no_cue" (spNoCue CR)) : FnG P w K mg base CX0 8 f fd ["_law_reel", "_law_length", "_law_cues"] (spReelRt CR) := by
  obtain ⟨fL, fdL, FL, hL, iL, _, bL⟩ := oL
  obtain ⟨fG, fdG, FG, hG, iG, nG, bG⟩ := oG
  obtain ⟨fIt, fdI, FI, hI, iI, bI⟩ := oI
  obtain ⟨pSp, gSp, fdS, PS, FS, bS⟩ := pS
  obtain ⟨pNm, gNm, fdN, PN, FN, bN⟩ := pN
  refine FunG.ok F sc__law_reel_right (fun vs H Q E h => ?_) (fun cdv A outer s H vs Q E ga hr h => ?_)
  · obtain ⟨x, ct, len, L, M, rfl, _⟩ := h
    rfl
  · obtain ⟨x, ct, len, L, M, rfl, hR, hC, hcs, hg, l40, q⟩ := h
    refine ⟨_, (pss_cons (ps_if (PW.pt (pw_or (pt_not (pt_val (pe_c c__law_same hr (by decide) rfl (pa_cons (pe_fld (pv 0) rfl) (pa_cons (pv 1) pa_nil))))) (pw_or1 (pt_not (pt_val (pe_c c__law_same hr (by decide) rfl (pa_cons (pe_fld (pv 0) rfl) (pa_cons (pv 2) pa_nil))))))))
    (pss_one (ps_ret (pe_bl)))
    pss_nil)
    (pss_cons (ps_set (i := 3) sc__law_reel_right.nd rfl (Or.inl rfl) (pe_lst pa_nil))
    (pss_cons (ps_for PassesOwn.never rfl (pi_tup (pv 2)) (pg_name (i := 4) sc__law_reel_right.nd rfl (Or.inl rfl))
    (pss_one (ps_if (pt_cmpR op_notIn_seq (pe_ix ix_tup (pv 4) (pe_int) (fun _ _ => rfl)) (pv 3) rfl)
    (pss_one (ps_expr (pe_bm PySem.F.plainAttrs_list PySem.F.slot_list_append PySem.F.type_list_append mt_append (pv 3) (pa_cons (pe_ix ix_tup (pv 4) (pe_int) (fun _ _ => rfl)) pa_nil))))
    pss_nil)))
    (pss_cons (ps_setLc (i := 6) (own := [("_law_k", 5)]) rfl sc__law_reel_right.nd rfl rfl (sw_true rfl rfl rfl (by decide +kernel)) (pi_range1 (by rfl) m_range (pa_cons (pe_callB call_len (by rfl) m_len (by decide +kernel) (pa_cons (pv 2) pa_nil)) pa_nil)) (blkOk_by (N := N__law_reel_right) (sc := defScope s__law_reel_right) (by decide +kernel)) (fun _ _ _ _ _ => (pg_name (i := 5) sc__law_reel_right.nd rfl (Or.inl rfl))) (fun _ _ _ _ _ => pts_one (pt_cmpR op_eq (pe_slice sl_str (pe_ix (show IxR _ (rIxT K) from ix_tup) (pe_ix (show IxR _ (rIxT K) from ix_tup) (pv 2) (pv 5) (fun _ _ => rfl)) (pe_int) (fun _ _ => rfl)) po_none (po_some (pe_op op_add (pe_callB (show CallR _ _ (fun xs H Q => ∃ x n, xs = [x] ∧ LenV K x H n ∧ Q (.int n) H) from call_len) (by rfl) m_len (by decide +kernel) (pa_cons (pe_ix (show IxR _ (rIxT K) from ix_tup) (pe_ix (show IxR _ (rIxT K) from ix_tup) (pv 2) (pv 5) (fun _ _ => rfl)) (pe_int) (fun _ _ => rfl)) pa_nil)) (pe_int)))) (pe_op op_add_str (pe_ix (show IxR _ (rIxT K) from ix_tup) (pe_ix (show IxR _ (rIxT K) from ix_tup) (pv 2) (pv 5) (fun _ _ => rfl)) (pe_int) (fun _ _ => rfl)) (pe_str)) (nomark _))) (fun _ _ _ _ _ => (pv 5)))
    (pss_cons (ps_if (PW.pt (pw_or (pt_not (pt_val (pe_c c__law_same hr (by decide) rfl (pa_cons (pe_prop (E := E0) (pv 0) T.cl PS FS (hr.mono (by decide)) bS .nil pass0 (by rfl)) (pa_cons (pe_callTy call_tuple_of (by rfl) m_tuple (by decide +kernel) (pa_cons (pe_callB cr_sortedS (by rfl) m_sorted (by decide +kernel) (pa_cons (pv 3) pa_nil)) pa_nil)) pa_nil))))) (pw_or1 (pt_not (pt_val (pe_c c__law_same hr (by decide) rfl (pa_cons (pe_prop (E := E0) (pv 0) T.cl PN FN (hr.mono (by decide)) bN .nil pass0 (by rfl)) (pa_cons (pe_callTy call_tuple_of (by rfl) m_tuple (by decide +kernel) (pa_cons (pv 6) pa_nil)) pa_nil))))))))
    (pss_one (ps_ret (pe_bl)))
    pss_nil)
    (pss_cons (ps_if (PW.pt (pw_or (pt_not (pt_val (pe_c c__law_same hr (by decide) rfl (pa_cons (pe_callB (call_lenOwn FL hr (by decide) hL iL bL) (by rfl) m_len (by decide +kernel) (pa_cons (pv 0) pa_nil)) (pa_cons (pe_callB call_len (by rfl) m_len (by decide +kernel) (pa_cons (pv 2) pa_nil)) pa_nil))))) (pw_or1 (pt_not (pt_val (pe_c c__law_same hr (by decide) rfl (pa_cons (pe_callTy call_tuple_of (by rfl) m_tuple (by decide +kernel) (pa_cons (pe_lc (own := [("_law_cue", 4)]) rfl sc__law_reel_right.nd (pi_ownT FI hr (by decide) hI iI bI (pv 0)) (blkOk_by (N := N__law_reel_right) (sc := defScope s__law_reel_right) (by decide +kernel)) (fun _ _ _ _ _ => (pg_name (i := 4) sc__law_reel_right.nd rfl (Or.inl rfl))) (fun _ _ _ _ _ => pts_nil) (fun _ _ _ _ _ => (pv 4))) pa_nil)) (pa_cons (pv 2) pa_nil))))))))
    (pss_one (ps_ret (pe_bl)))
    pss_nil)
    (pss_cons (ps_for PassesOwn.never rfl (pi_range1 (by rfl) m_range (pa_cons (pe_callB call_len (by rfl) m_len (by decide +kernel) (pa_cons (pv 2) pa_nil)) pa_nil)) (pg_name (i := 5) sc__law_reel_right.nd rfl (Or.inl rfl))
    (pss_one (ps_if (pt_not (pt_val (pe_c c__law_same hr (by decide) rfl (pa_cons (pe_ixOwn (CX := L2.CX P w) (E := WE fun _ _ _ _ => False) (k := 6) FG hr (by decide) hG nG iG bG (fun σ => passAt takes0 σ) (pv 0) (pv 5) (fun _ _ => rfl)) (pa_cons (pe_ix ix_tup (pv 2) (pv 5) (fun _ _ => rfl)) pa_nil)))))
    (pss_one (ps_ret (pe_bl)))
    pss_nil)))
    (pss_one (ps_ret (pe_callB (cr_all rfl) (by rfl) m_all (by decide +kernel) (pa_cons (pe_lc (own := [("_law_number", 7)]) rfl sc__law_reel_right.nd (pi_list (pe_lst (pa_cons (pe_un un_neg (pe_int)) (pa_cons (pe_callB call_len (by rfl) m_len (by decide +kernel) (pa_cons (pv 2) pa_nil)) (pa_cons (pe_bl) (pa_cons (pe_bl) (pa_cons (pe_non) (pa_cons (pe_str) (pa_cons (pe_op op_pow (pe_int) (pe_int)) pa_nil))))))))) (blkOk_by (N := N__law_reel_right) (sc := defScope s__law_reel_right) (by decide +kernel)) (fun _ _ _ _ _ => (pg_name (i := 7) sc__law_reel_right.nd rfl (Or.inl rfl))) (fun _ _ _ _ _ => pts_nil) (fun _ _ _ _ _ => (pe_cG c__law_no_cue ga hr (by decide) rfl (pa_cons (pv 0) (pa_cons (pv 7) pa_nil))))) pa_nil))))))))))), ?_⟩
    have sl : sizeLine = 16777216 := sizeLine_eq
    have lM : M.length = L.length := len_cues hcs
    have l1 : (Str.ofString ":").length = 1 := by decide +kernel
    obtain ⟨dx, t, sp, nm, zs, hx, ht, hat, hsp, hz, hnm⟩ := id hR
    obtain ⟨hct, hM⟩ := id hC
    -- its length and its cues
    refine ⟨_, rfl, x, CR, dx, _, _, rfl, hx, T.cl, T.nL, reel_length _ _ _ _, _, rfl, _, _, rfl, same_pl trivial, fun H1 s1 => ⟨_, rfl, ?_⟩⟩
    refine ⟨_, rfl, x, CR, dx, _, _, rfl, s1 _ _ hx, T.cl, T.nC, reel_cues _ _ _ _, _, rfl, _, _, rfl, (same_tup (n := 2) ht hct (by rw [List.length_map]; omega) (same_cues hcs.symm hat hM)).keep s1, fun H2 s2 => ⟨_, rfl, ?_⟩⟩
    have S2 := s1.trans s2
    -- the speakers, as they are first met
    refine ⟨Nat.zero_le _, fun D hD => ?_⟩
    have sD := S2.trans (same_new (o := .lst []) hD)
    refine ⟨_, rfl, ct, rfl, ⟨_, SqT.of (sD _ _ hct)⟩, ?_⟩
    refine for_it walk_tup (fun i σ H' => ∃ (k4 : Option V) (ss : List Str), σ = [some (.ref x), some (.int len), some (.ref ct), some (.ref D), k4, none, none, none] ∧ Same H H' ∧ H' D = some (.lst (ss.map V.str)) ∧ ss.Nodup ∧ ss.length ≤ i ∧ ∀ k, k ∈ ss ↔ k ∈ ((cuesC M).take i).map (·.nm))
      ⟨none, [], rfl, sD, upd_same, List.nodup_nil, Nat.le_refl _, fun k => ⟨(fun h => nomatch h), (fun h => nomatch h)⟩⟩ (fun i σ H' _ ⟨_, _, _, hs, _⟩ => SqT.of (hs _ _ hct)) ?_ ?_
    · rintro i y σ Ha Hb hi ⟨k4, ss, rfl, hs, hd, hn, hl, hm⟩ ⟨rfl, hy⟩
      have hi' : i < M.length := by rw [List.length_map] at hi; exact hi
      obtain ⟨e, he, rfl⟩ : ∃ e, M[i]? = some e ∧ y = V.ref e.1 := by
        rw [List.getElem?_map, List.getElem?_eq_getElem hi'] at hy
        exact ⟨M[i], List.getElem?_eq_getElem hi', (Option.some.inj hy).symm⟩
      have eA := (hM e (List.mem_of_getElem? he)).keep hs
      have he2 : (cuesC M)[i]? = some e.2 := by rw [List.getElem?_map, he]; rfl
      have tk : ((cuesC M).take (i + 1)).map (·.nm) = ((cuesC M).take i).map (·.nm) ++ [e.2.nm] := by
        rw [List.take_add_one, he2, List.map_append]
        rfl
      refine ⟨_, rfl, e.1, _, 2, _, rfl, rfl, SqT.of eA, atI_nat (j := 2) rfl, _, rfl, D, ss.map V.str, rfl, .inl (SqL.of hd), rfl, flat_strs ss, _, rfl, ?_⟩
      show (if (!inV (.str e.2.nm) (ss.map V.str)) = true then _ else _)
      rw [inV_strs]
      by_cases hin : e.2.nm ∈ ss
      · rw [decide_eq_true hin]
        refine ⟨_, ss, rfl, hs, hd, hn, Nat.le_succ_of_le hl, fun k => ?_⟩
        rw [tk, List.mem_append, hm k]
        constructor
        · exact .inl
        · rintro (h | h)
          · exact h
          · rw [List.mem_singleton.mp h]
            exact (hm _).mp hin
      · rw [decide_eq_false hin]
        refine ⟨_, rfl, .inl ⟨rfl, _, SqL.of hd⟩, _, rfl, e.1, _, 2, _, rfl, rfl, SqT.of eA, atI_nat (j := 2) rfl, D, _, _, rfl, rfl, hd, small_line (by rw [List.length_map]; omega), _, ss ++ [e.2.nm], rfl, ?_, ?_, ?_, ?_, fun k => ?_⟩
        · intro b o hb
          have nbD : b ≠ D := ne_of_none (S2 _ _ hb) hD
          rw [upd_ne nbD]
          exact hs _ _ hb
        · rw [upd_same, List.map_append]
          rfl
        · exact List.nodup_append.mpr ⟨hn, List.nodup_cons.mpr ⟨(fun h => nomatch h), List.nodup_nil⟩, fun a ha b hb e => hin (by rw [List.mem_singleton.mp hb] at e; rw [← e]; exact ha)⟩
        · rw [List.length_append]
          exact Nat.succ_le_succ hl
        · rw [tk, List.mem_append, List.mem_append, hm k]
    rintro σ H3 ⟨k4, ss, rfl, s3, hd3, hn, hl, hm⟩
    have lr : (refsC M).length = M.length := List.length_map ..
    rw [lr] at hl hm
    have tkM : (cuesC M).take M.length = cuesC M := List.take_of_length_le (by rw [List.length_map]; exact Nat.le_refl _)
    rw [tkM] at hm
    -- who is named
    refine ⟨_, rfl, _, M.length, rfl, .inr ⟨_, SqT.of (s3 _ _ hct), (List.length_map ..).symm⟩, _, rfl, by omega, by omega, fun D2 hD2 => ?_⟩
    refine lc_it (walk_range (lo := 0) (n := ((M.length : Nat) : Int).toNat)) (fun i H' => Same H3 H' ∧ H' D2 = some (.lst ((namingTo (cuesC M) i).map fun n => V.int (n : Nat)))) ⟨same_new hD2, upd_same⟩ (fun _ _ _ _ => trivial) ?_ ?_
    · rintro i y Ha Hb hi ⟨hs, hd⟩ ⟨rfl, rfl⟩
      have hi' : i < M.length := by rw [Int.toNat_natCast] at hi; exact hi
      obtain ⟨e, he⟩ : ∃ e, M[i]? = some e := ⟨_, List.getElem?_eq_getElem hi'⟩
      have eA : Hb e.1 = some (.tup e.2.vs) := ((hM e (List.mem_of_getElem? he)).keep s3).keep hs
      have hcb : SqT K Hb ct (refsC M) := SqT.of (hs _ _ (s3 _ _ hct))
      have at1 : atI (refsC M) (0 + (i : Nat)) = some (V.ref e.1) := by rw [Int.zero_add]; exact atI_nat (by rw [List.getElem?_map, he]; rfl)
      have he2 : (cuesC M)[i]? = some e.2 := by rw [List.getElem?_map, he]; rfl
      obtain ⟨g8, g60⟩ := txt_len (hg e.2 (by rw [← hcs]; exact List.mem_of_getElem? he2))
      have few : (namingTo (cuesC M) i).length ≤ i := by
        have := List.length_filter_le (namesAt (cuesC M)) (List.range i)
        rw [List.length_range] at this
        exact this
      have na : namesAt (cuesC M) i = nameB e.2 := by
        unfold namesAt
        rw [he2]
      refine ⟨rfl, _, rfl, _, rfl, ct, _, _, _, rfl, rfl, hcb, at1, e.1, _, 3, _, rfl, rfl, SqT.of eA, atI_nat (j := 3) rfl, _, rfl, _, rfl, ct, _, _, _, rfl, rfl, hcb, at1, e.1, _, 2, _, rfl, rfl, SqT.of eA, atI_nat (j := 2) rfl, _, e.2.nm.length, rfl, ⟨by omega, rfl⟩, _, _, rfl, rfl, _, rfl, e.2.tx, rfl, by omega,
        _, rfl, _, rfl, ct, _, _, _, rfl, rfl, hcb, at1, e.1, _, 2, _, rfl, rfl, SqT.of eA, atI_nat (j := 2) rfl, _, _, rfl, rfl, by rw [l1]; omega, rfl, _, rfl, ?_⟩
      rw [name_ahead e.2, naming_succ, na]
      by_cases nb : nameB e.2 = true
      · rw [nb]
        refine iteT ⟨_, rfl, _, hd, small_line (by rw [List.length_map]; omega), same_over hs hD2, ?_⟩
        rw [upd_same, List.map_append]
        show some (HO.lst (_ ++ [V.int (0 + (i : Nat))])) = _
        rw [Int.zero_add]
        rfl
      · rw [Bool.eq_false_iff.mpr nb]
        refine iteF ⟨hs, ?_⟩
        rw [if_neg (by simp), List.append_nil]
        exact hd
    rintro H4 ⟨s34, hd4⟩
    rw [Int.toNat_natCast] at hd4
    have S4 := s3.trans s34
    have hR4 := hR.keep S4
    -- are told
    refine ⟨_, rfl, x, dx, _, rfl, S4 _ _ hx, x, len, L, rfl, hR4, fun p zs' hp hz' => ?_⟩
    refine ⟨_, rfl, D, ss, rfl, SqL.of (s34 _ _ hd3), by omega, fun ys p2 pm srt hp2 => ⟨p2, _, rfl, .inl ⟨SqL.of upd_same, fun l hl2 => ?_⟩⟩⟩
    have ey : ys = zs' := speak_uniq hz' (pm.nodup_iff.mpr hn) srt fun k => by rw [pm.mem_iff, hm k, hcs]
    subst ey
    have s5 := (same_new (o := .lst (ys.map V.str)) hp2).trans (same_new (o := .tup (ys.map V.str)) hl2)
    have lys : ys.length ≤ 1000 := by
      have := pm.length_eq
      omega
    refine ⟨_, _, rfl, same_tup (n := 2) (s5 _ _ hp) upd_same (by rw [List.length_map]; exact lys) (same_strs ys), fun H6 s6 => ⟨_, rfl, ?_⟩⟩
    have s46 := s5.trans s6
    have S6 := S4.trans s46
    refine ⟨_, rfl, x, dx, _, rfl, S6 _ _ hx, x, len, L, rfl, hR.keep S6, fun p3 hp3 => ?_⟩
    refine ⟨_, rfl, D2, _, rfl, .inl ⟨SqL.of (s46 _ _ hd4), fun l hl3 => ?_⟩⟩
    have s7 := same_new (o := .tup ((namingTo (cuesC M) M.length).map fun n => V.int (n : Nat))) hl3
    have lnm : (namingTo (cuesC M) M.length).length ≤ 1000 := by
      have := List.length_filter_le (namesAt (cuesC M)) (List.range M.length)
      rw [List.length_range] at this
      have : (namingTo (cuesC M) M.length).length ≤ M.length := this
      omega
    have hp3' : (upd H6 l (.tup ((namingTo (cuesC M) M.length).map fun n => V.int (n : Nat)))) p3 = some (.tup ((namingTo (cuesC M) M.length).map fun n => V.int (n : Nat))) := by
      rw [hcs, lM]
      rw [hcs, lM] at s7
      exact s7 _ _ hp3
    refine ⟨_, _, rfl, same_tup (n := 2) hp3' upd_same (by rw [List.length_map]; exact lnm) (same_nats _), fun H8 s8 => ⟨_, rfl, ?_⟩⟩
    have S8 := (S6.trans s7).trans s8
    -- its number of cues, and one after the other
    refine ⟨_, rfl, x, dx, _, rfl, S8 _ _ hx, x, len, L, rfl, hR.keep S8, ⟨L.length, rfl, by omega⟩, _, rfl, _, M.length, rfl, .inr ⟨_, SqT.of (S8 _ _ hct), (List.length_map ..).symm⟩, ?_⟩
    rw [lM]
    refine ⟨_, _, rfl, same_pl trivial, fun H9 s9 => ⟨_, rfl, ?_⟩⟩
    have S9 := S8.trans s9
    refine ⟨_, rfl, x, dx, _, rfl, S9 _ _ hx, fun m => ⟨x, len, L, rfl, hR.keep S9, fun it t' ht' hit hle => ⟨it, t', refsC L, rfl, hle, upd_same, SqT.of ((same_new hit) _ _ ht'), ?_⟩⟩⟩
    rw [drop_new hit]
    intro D3 hD3
    refine lc_it walk_tup (fun i H' => Same H9 H' ∧ H' D3 = some (.lst ((refsC L).take i))) ⟨same_new hD3, upd_same⟩ (fun i H' _ hq => SqT.of (hq.1 _ _ ht')) ?_ ?_
    · rintro i y Ha Hb hi ⟨hs, hd⟩ ⟨rfl, hy⟩
      have hi' : i < L.length := by rw [List.length_map] at hi; exact hi
      refine ⟨rfl, _, rfl, _, hd, small_line (by rw [List.length_take]; omega), same_over hs hD3, ?_⟩
      rw [upd_same, List.take_add_one, hy]
      rfl
    rintro H10 ⟨s10, hd10⟩
    rw [List.take_length] at hd10
    refine ⟨D3, _, rfl, .inl ⟨SqL.of hd10, fun l hl4 => ?_⟩⟩
    have S11 := (S9.trans s10).trans (same_new (o := .tup (refsC L)) hl4)
    refine ⟨_, rfl, _, _, rfl, same_tup (n := 2) upd_same (S11 _ _ hct) (by rw [List.length_map]; omega) (same_cues hcs.symm (fun e he => (hat e he).keep S11) fun e he => (hM e he).keep S11), fun H12 s12 => ⟨_, rfl, ?_⟩⟩
    have S12 := S11.trans s12
    -- each by its number
    refine ⟨_, rfl, _, M.length, rfl, .inr ⟨_, SqT.of (S12 _ _ hct), (List.length_map ..).symm⟩, _, rfl, by omega, by omega, ?_⟩
    refine for_it (walk_range (lo := 0) (n := ((M.length : Nat) : Int).toNat)) (fun i σ H' => ∃ k5 : Option V, σ = [some (.ref x), some (.int len), some (.ref ct), some (.ref D), k4, k5, some (.ref D2), none] ∧ Same H H') ⟨none, rfl, S12⟩ (fun _ _ _ _ _ => trivial) ?_ ?_
    · rintro i y σ Ha Hb hi ⟨k5, rfl, hs⟩ ⟨rfl, rfl⟩
      have hi' : i < M.length := by rw [Int.toNat_natCast] at hi; exact hi
      obtain ⟨e, he⟩ : ∃ e, M[i]? = some e := ⟨_, List.getElem?_eq_getElem hi'⟩
      obtain ⟨d, hd⟩ : ∃ d, L[i]? = some d := ⟨_, List.getElem?_eq_getElem (by omega)⟩
      have at1 : atI (refsC M) (0 + (i : Nat)) = some (V.ref e.1) := by rw [Int.zero_add]; exact atI_nat (by rw [List.getElem?_map, he]; rfl)
      have ed : d.2 = e.2 := by
        have h1 : (cuesC M)[i]? = some e.2 := by rw [List.getElem?_map, he]; rfl
        have h2 : (cuesC L)[i]? = some d.2 := by rw [List.getElem?_map, hd]; rfl
        rw [hcs, h2] at h1
        exact Option.some.inj h1
      have hin : inside (V.int (0 + (i : Nat))) 0 ((L.length : Nat) - 1) = true := by
        show (decide ((0 : Int) ≤ 0 + (i : Nat)) && decide (0 + ((i : Nat) : Int) ≤ (L.length : Nat) - 1)) = true
        rw [decide_eq_true (by omega), decide_eq_true (by omega)]
        rfl
      refine ⟨_, rfl, _, rfl, x, dx, _, rfl, hs _ _ hx, x, len, L, _, rfl, hR.keep hs, .inl trivial, fun j e' ej ee => ?_, fun h => ?_⟩
      · have ej' : i = j := by
          have := V.int.inj ej
          omega
        subst ej'
        rw [hd] at ee
        cases ee
        exact ⟨_, rfl, _, rfl, ct, _, _, _, rfl, rfl, SqT.of (hs _ _ hct), at1, _, _, rfl, same_cue (n := 2) ed ((hat d (List.mem_of_getElem? hd)).keep hs) ((hM e (List.mem_of_getElem? he)).keep hs), fun H1 s1 => ⟨_, rfl, _, rfl, hs.trans s1⟩⟩
      · rw [hin] at h
        cases h
    rintro σ H13 ⟨k5, rfl, S13⟩
    -- what is no number of a cue
    refine ⟨1, rfl, _, rfl, _, M.length, rfl, .inr ⟨_, SqT.of (S13 _ _ hct), (List.length_map ..).symm⟩, _, _, rfl, rfl, ⟨by decide, by decide, by decide⟩, (by show 7 ≤ sizeLine; decide), fun p hp => ⟨p, rfl, ⟨_, SqL.of upd_same⟩, fun D4 hD4 => ?_⟩⟩
    have sp13 := same_new (o := .lst [V.int (-1), .int (M.length : Nat), .bl true, .bl false, .non, .str (Str.ofString "0"), .int (10 ^ (39 : Int).toNat)]) hp
    have all : ∀ y ∈ [V.int (-1), .int (M.length : Nat), .bl true, .bl false, .non, .str (Str.ofString "0"), .int (10 ^ (39 : Int).toNat)], ∃ d, Sc y d ∧ inside y 0 ((L.length : Nat) - 1) = false := by
      have no : ∀ {i : Int}, (i < 0 ∨ (L.length : Nat) ≤ i) → inside (.int i) 0 ((L.length : Nat) - 1) = false := fun {i} h => by
        show (decide ((0 : Int) ≤ i) && decide (i ≤ (L.length : Nat) - 1)) = false
        rcases h with h | h
        · rw [decide_eq_false (by omega : ¬ (0 : Int) ≤ i)]
          rfl
        · rw [decide_eq_false (by omega : ¬ i ≤ ((L.length : Nat) : Int) - 1), Bool.and_false]
      have si : ∀ {i : Int}, i.natAbs < 10 ^ 40 → ∃ d, Sc (.int i) d := fun {i} h => ⟨.int i, rfl, h⟩
      refine all_c ?_ (all_c ?_ (all_c ⟨.bool true, rfl, rfl⟩ (all_c ⟨.bool false, rfl, rfl⟩ (all_c ⟨.none, rfl, rfl⟩ (all_c ⟨.str (Str.ofString "0"), ⟨rfl, by decide +kernel, asc_of (by decide +kernel)⟩, rfl⟩ (all_c ?_ all_n))))))
      · obtain ⟨d, hd⟩ := si (i := -1) (by decide)
        exact ⟨d, hd, no (.inl (by decide))⟩
      · obtain ⟨d, hd⟩ := si (i := ((M.length : Nat) : Int)) (Nat.lt_of_le_of_lt (by omega : ((M.length : Nat) : Int).natAbs ≤ 40) (by decide))
        exact ⟨d, hd, no (.inr (by omega))⟩
      · obtain ⟨d, hd⟩ := si (i := 10 ^ (39 : Int).toNat) (by decide +kernel)
        have : (40 : Int) ≤ 10 ^ (39 : Int).toNat := by decide +kernel
        exact ⟨d, hd, no (.inr (by omega))⟩
    refine lc_list (K := K) (a := p) (xs := [V.int (-1), .int (M.length : Nat), .bl true, .bl false, .non, .str (Str.ofString "0"), .int (10 ^ (39 : Int).toNat)]) (fun i H' => Same (upd H13 p (.lst [V.int (-1), .int (M.length : Nat), .bl true, .bl false, .non, .str (Str.ofString "0"), .int (10 ^ (39 : Int).toNat)])) H' ∧ H' D4 = some (.lst ((List.replicate i true).map V.bl))) ⟨same_new hD4, upd_same⟩ (fun i H' _ hq => SqL.of (hq.1 _ _ upd_same)) ?_ ?_
    · rintro i y Ha hy ⟨hs, hd⟩
      obtain ⟨d, hsc, hin⟩ := all y (List.mem_of_getElem? hy)
      have hi : i < 7 := by
        exact (List.getElem?_eq_some_iff.mp hy).1
      have SS := (S13.trans sp13).trans hs
      refine ⟨rfl, _, rfl, _, rfl, x, len, L, y, d, rfl, hR.keep SS, hsc, hin, fun H1 s1 => ⟨_, s1 _ _ hd, small_line (by rw [List.length_map, List.length_replicate]; omega), same_over (hs.trans s1) hD4, ?_⟩⟩
      rw [upd_same, List.replicate_succ', List.map_append]
      rfl
    · rintro H' ⟨hs, hd⟩
      have e : ∀ n, (List.replicate n true).all id = true := fun n => List.all_eq_true.mpr fun b hb => by rw [List.eq_of_mem_replicate hb]; rfl
      refine ⟨D4, _, rfl, SqL.of hd, ?_⟩
      rw [e]
      exact q H' ((S13.trans sp13).trans hs)
end
end Sea
namespace Sea
open PySem PySem.Spec PyProof.Rows L2
/-! reels that are alike -/
theorem tupDs_cues : ∀ cs : List Cue, tupDs (cs.map cuP) = cs.map cuP
  | [] => rfl
  | c :: r => by
    show tupD (cuP c) :: tupDs (r.map cuP) = cuP c :: r.map cuP
    rw [tupDs_cues r]
    rfl
theorem tupD_cus (cs : List Cue) : tupD (cusP cs) = cusP cs := by
  show PyData.tuple (tupDs (cs.map cuP)) = _
  rw [tupDs_cues]
  rfl
theorem okD_cong {lo len : Int} {d e : PyData} (h : cueD d = cueD e) : okD lo len d = okD lo len e := by
  unfold okD
  rw [h]
theorem endD_cong {d e : PyData} (h : cueD d = cueD e) : endD d = endD e := by
  unfold endD
  rw [h]
theorem judge_cong {len : Int} : ∀ {ds es : List PyData} {lo : Int}, ds.map cueD = es.map cueD → judgeD len lo ds = judgeD len lo es
  | [], [], _, _ => rfl
  | [], _ :: _, _, h => by cases h
  | _ :: _, [], _, h => by cases h
  | d :: r, e :: q, lo, h => by
    have h1 := (List.cons.inj h).1
    show (if okD lo len d = true then (judgeD len (endD d) r).map (· + 1) else some 0) = (if okD lo len e = true then (judgeD len (endD e) q).map (· + 1) else some 0)
    rw [okD_cong h1, endD_cong h1, judge_cong (List.cons.inj h).2]
theorem judge_more {len len' : Int} (hl : len ≤ len') : ∀ {ds : List PyData} {lo : Int}, judgeD len lo ds = none → judgeD len' lo ds = none
  | [], _, _ => rfl
  | d :: r, lo, h => by
    have h' : (if okD lo len d = true then (judgeD len (endD d) r).map (· + 1) else some 0) = none := h
    show (if okD lo len' d = true then (judgeD len' (endD d) r).map (· + 1) else some 0) = none
    cases e : okD lo len d with
    | false =>
      rw [e] at h'
      cases h'
    | true =>
      rw [e, if_pos rfl] at h'
      obtain ⟨c, ec, g⟩ := okD_good e
      have g' : GoodC lo len' c := ⟨g.nm, g.tx, g.lo, g.lt, Int.le_trans g.hi hl⟩
      rw [okD_of ec g', if_pos rfl, judge_more hl (Option.map_eq_none_iff.mp h')]
      rfl
theorem judge_take {len : Int} : ∀ {ds : List PyData} {lo : Int} (n : Nat), judgeD len lo ds = none → judgeD len lo (ds.take n) = none
  | [], _, n, _ => by
    rw [List.take_nil]
    rfl
  | _ :: _, _, 0, _ => rfl
  | d :: r, lo, n + 1, h => by
    have h' : (if okD lo len d = true then (judgeD len (endD d) r).map (· + 1) else some 0) = none := h
    show (if okD lo len d = true then (judgeD len (endD d) (r.take n)).map (· + 1) else some 0) = none
    cases e : okD lo len d with
    | false =>
      rw [e] at h'
      cases h'
    | true =>
      rw [e, if_pos rfl] at h'
      rw [if_pos rfl, judge_take n (Option.map_eq_none_iff.mp h')]
      rfl
theorem cus_cueD (cs : List Cue) : (cs.map cuP).map cueD = cs.map some := by
  rw [List.map_map]
  exact List.map_congr_left fun c _ => cueD_tup.mpr rfl
theorem some_inj {α : Type} : ∀ {l r : List α}, l.map some = r.map some → l = r
  | [], [], _ => rfl
  | [], _ :: _, h => by cases h
  | _ :: _, [], h => by cases h
  | a :: l, b :: r, h => by
    rw [Option.some.inj (List.cons.inj h).1, some_inj (List.cons.inj h).2]
theorem due_ok {len : Int} {d : PyData} {cs : List Cue} (h1 : 1 ≤ len) (h2 : len ≤ 2000) (e : tupD d = cusP cs) (hj : judgeD len 0 (cs.map cuP) = none) (h40 : cs.length ≤ 40) :
    ∃ ds, seqD d = some ds ∧ ds.map cueD = cs.map some ∧ dueK (.int len) d = none := by
  have hI : inside (.int len) 1 2000 = true := by
    show (decide (1 ≤ len) && decide (len ≤ 2000)) = true
    rw [decide_eq_true h1, decide_eq_true h2]
    rfl
  have hs : ∃ ds, seqD d = some ds := by
    cases d with
    | tuple ds => exact ⟨ds, rfl⟩
    | list ds => exact ⟨ds, rfl⟩
    | int j => cases e
    | dict ds => cases e
    | none => cases e
    | bool b => cases e
    | str z => cases e
  obtain ⟨ds, hs⟩ := hs
  rw [tupD_seq hs] at e
  have e2 : ds.map tupD = cs.map cuP := PyData.tuple.inj e
  have e3 : ds.map cueD = cs.map some := by
    refine List.ext_getElem? fun i => ?_
    have := congrArg (·[i]?) e2
    simp only [List.getElem?_map] at this ⊢
    cases h3 : ds[i]? with
    | none =>
      rw [h3] at this
      cases h4 : cs[i]? with
      | none => rfl
      | some c => rw [h4] at this; cases this
    | some d =>
      rw [h3] at this
      cases h4 : cs[i]? with
      | none => rw [h4] at this; cases this
      | some c =>
        rw [h4] at this
        have h5 : tupD d = cuP c := Option.some.inj this
        show some (cueD d) = some (some c)
        rw [cueD_tup.mpr h5]
  have el : ds.length = cs.length := by
    have := congrArg List.length e2
    rw [List.length_map, List.length_map] at this
    exact this
  refine ⟨ds, hs, e3, due_none hI hs ?_ (by omega)⟩
  rw [judge_cong (es := cs.map cuP) (by rw [cus_cueD]; exact e3)]
  exact hj
/-- Reel(len, cx), all good -/
theorem reel_good {K : PySem.W.Frag} {CR CB CM CLn : Addr} {H1 : Hp} {len : Int} {cx : V} {cd : PyData} {cs : List Cue} {Qr : Addr → Hp → Prop} {E : XK} (h1 : 1 ≤ len) (h2 : len ≤ 2000) (hc : ArgC K H1 cx cd) (e : tupD cd = cusP cs)
    (hj : judgeD len 0 (cs.map cuP) = none) (h40 : cs.length ≤ 40)
    (good : ∀ H2 x L, Same H1 H2 → ReelAt H2 CR x len L → cuesC L = cs → (∀ c ∈ cs, CueG c) → Qr x H2) :
    ∀ x dx, H1 x = none → H1 dx = none → dx ≠ x → spReelA K CR CB CM CLn (.ref x :: ([V.int len, cx] ++ [])) (upd (upd H1 dx (.own x)) x (.ins CR dx [])) (fun v H2 => v = .non ∧ Qr x H2) E := by
  obtain ⟨ds, hs, e3, ed⟩ := due_ok h1 h2 e hj h40
  have hl : Th true [1] H1 (.int len) (.int len) := Sc.th ⟨rfl, Nat.lt_of_le_of_lt (by omega : len.natAbs ≤ 2000) (by decide)⟩
  refine reel_reads hl hc (fun H2 q h => ?_) (fun v H2 q h => ?_) (fun v H2 q h => ?_) (fun len' ds' H2 x L el l1 l2 hs' hj' hm ek s hR hcs hg => ?_)
  · rw [ed] at h
    cases h
  · rw [ed] at h
    cases h
  · rw [ed] at h
    cases h
  · cases el
    rw [hs] at hs'
    cases hs'
    have ec : cuesC L = cs := some_inj (hcs.trans e3)
    exact good H2 x L s hR ec (by rw [← ec]; exact hg)
noncomputable def spAlike (CR : Addr) : Sp := fun vs H Q _ => ∃ (x ct : Addr) (len : Int) (L M : List (Addr × Cue)), vs = [.ref x, .int len, .ref ct] ∧ ReelAt H CR x len L ∧ CuesT H ct M ∧ cuesC M = cuesC L ∧ (∀ c ∈ cuesC L, CueG c) ∧ L.length ≤ 40 ∧ 1 ≤ len ∧ len ≤ 2000 ∧
  judgeD len 0 ((cuesC L).map cuP) = none ∧ Th false [60, 5, 1] H (.ref ct) (cusP (cuesC L)) ∧ ∀ H', Same H H' → Q (.bl true) H'
theorem Th.cut {H H' : Hp} {ct t : Addr} {M : List (Addr × Cue)} {cs : List Cue} {n : Nat} (h : Th false [60, 5, 1] H (.ref ct) (cusP cs)) (hct : H ct = some (.tup (refsC M))) (s : Same H H') (ht : H' t = some (.tup ((refsC M).take n))) : Th false [60, 5, 1] H' (.ref t) (cusP (cs.take n)) := by
  rcases h with h | ⟨a, xs, ds, e1, hm, hp, ⟨e, h⟩ | ⟨e, _⟩⟩
  · exact h.elim
  · cases e1
    rw [hct] at h
    have ex := HO.tup.inj (Option.some.inj h)
    have ed : cs.map cuP = ds := PyData.tuple.inj e
    subst ex ed
    have tk : ∀ {l : List V} {r : List PyData} (n : Nat), Paired (Th false [5, 1] H) l r → Paired (Th false [5, 1] H') (l.take n) (r.take n) := by
      intro l r n h
      induction h generalizing n with
      | nil => rw [List.take_nil, List.take_nil]; exact .nil
      | cons a t ih =>
        cases n with
        | zero => exact .nil
        | succ n => exact .cons (a.keep s) (ih n)
    refine .inr ⟨t, _, (cs.map cuP).take n, rfl, by rw [List.length_take]; omega, tk n hp, .inl ⟨?_, ht⟩⟩
    unfold cusP
    rw [List.map_take]
  · cases e
section
variable {P : Program} {w : World} {K : PySem.W.Frag} {mg : Str → Option Value} {base : Heap} {CB CM CR CLn CE fR fI aE : Addr}
theorem ok_alike {f : Addr} {fd : FuncData} (F : Fun K "_law_alike" "_law_alike" s__law_alike f fd) (T : RC K mg CR fI)
    {fdR : FuncData} (FR : FnOk P w K mg base (L2.CX P w) 5 fI fdR ["self", "length", "cues"] (spReelA K CR CB CM CLn)) (bR : Binds K fdR ["self", "length", "cues"] []) (bR1 : Binds K fdR ["self", "length", "cues"] [.ref aE]) (hE : DfT K aE)
    {fE : Addr} {fdE : FuncData} (FE : FnOk P w K mg base CX0 1 fE fdE ["self", "other"] (spReelEq CR)) (FT : FnOk P w K mg base CX0 1 fE fdE ["self", "other"] spReelEqT) (bE : Binds K fdE ["self", "other"] []) (hEq : PySem.W.findIn K (.ref CR) "__eq__" = some (some (.ref fE))) (iE : PySem.W.isFn K (.ref fE) = true)
    (sT : PySem.W.subIn K (.type "tuple") (.ref CR) = some false)
    (c__law_same : Cal P w K mg base 4 "_law_same" (spSame 3)) (c__law_lists : Cal P w K mg base 4 "_law_lists" (spListsN [60, 5, 1])) : FnOk P w K mg base CX0 7 f fd ["_law_reel", "_law_length", "_law_cues"] (spAlike CR) := by
  refine F.ok sc__law_alike (fun vs H Q E h => ?_) (fun cdv A outer s H vs Q E hr h => ?_)
  · obtain ⟨x, ct, len, L, M, rfl, _⟩ := h
    rfl
  · obtain ⟨x, ct, len, L, M, rfl, hR, hC, hcs, hg, l40, l1, l2, hj, hth, q⟩ := h
    refine ⟨_, (pss_cons (ps_set (i := 3) sc__law_alike.nd rfl (Or.inl rfl) (pe_make (E := E0) T.made FR hr rfl T.g bR .nil (passes_call takes0 (fun _ _ _ _ h => h)) (pa_cons (pv 1) (pa_cons (pe_c c__law_lists hr (by decide) rfl (pa_cons (pv 2) pa_nil)) pa_nil))))
    (pss_cons (ps_if (PW.pt (pw_or (pt_not (pt_val (pe_c c__law_same hr (by decide) rfl (pa_cons (pe_cmpR (op_ownEq FE hr (by decide) hEq iE bE) (pv 0) (pv 3) (nomark _)) (pa_cons (pe_bl) pa_nil))))) (pw_or1 (pt_not (pt_val (pe_c c__law_same hr (by decide) rfl (pa_cons (pe_cmpR (op_ownEq FE hr (by decide) hEq iE bE) (pv 0) (pe_make (E := E0) T.made FR hr rfl T.g bR .nil (passes_call takes0 (fun _ _ _ _ h => h)) (pa_cons (pe_int) (pa_cons (pv 2) pa_nil))) (nomark _)) (pa_cons (pe_cmpR op_eq (pv 1) (pe_int) (nomark _)) pa_nil))))))))
    (pss_one (ps_ret (pe_bl)))
    pss_nil)
    (C8.pss_cut (ps_if (PW.pt (pw_and (pt_truth (pv 2) (by intro _; rfl)) (pw_and1 (pt_not (pt_val (pe_c c__law_same hr (by decide) rfl (pa_cons (pe_cmpR (op_ownEq FE hr (by decide) hEq iE bE) (pv 0) (pe_make (E := E0) T.made FR hr rfl T.g bR .nil (passes_call takes0 (fun _ _ _ _ h => h)) (pa_cons (pv 1) (pa_cons (pe_slice sl_tup (pv 2) po_none (po_some (pe_un un_neg (pe_int)))) pa_nil))) (nomark _)) (pa_cons (pe_bl) pa_nil))))))))
    (pss_one (ps_ret (pe_bl)))
    pss_nil)
    (pss_one (ps_ret (pe_and (pe_c c__law_same hr (by decide) rfl (pa_cons (pe_cmpR (op_ownEqT FT hr (by decide) sT hEq iE bE) (pv 0) (pe_tup (pa_cons (pv 1) (pa_cons (pv 2) pa_nil))) (nomark _)) (pa_cons (pe_bl) pa_nil))) (pe_one (pe_c c__law_same hr (by decide) rfl (pa_cons (pe_cmpR (op_ownEq FE hr (by decide) hEq iE bE) (pe_make (E := E0) T.made FR hr rfl T.g bR1 (.cons (show RelV (.ref aE) (.ref aE) from rfl) .nil) (passes_call takes0 (fun _ _ _ _ h => h)) (pa_cons (pv 1) pa_nil)) (pv 0) (nomark _)) (pa_cons (pe_notT (pv 2)) pa_nil)))))))))), ?_⟩
    have hct := hC.1
    have lM : M.length = L.length := len_cues hcs
    have lcs : (cuesC L).length ≤ 40 := by rw [List.length_map]; exact l40
    have ec := tupD_cus (cuesC L)
    obtain ⟨dx, _, _, _, _, hx, _⟩ := id hR
    -- the twin
    refine ⟨_, rfl, _, rfl, .ref ct, _, rfl, hth.up, fun H1 y d' s1 t1 e1 => ?_⟩
    refine reel_good l1 l2 (.inl (t1.keep new_sub)) (e1.trans ec) hj lcs fun H2 tw La s2 hR2 hc2 _ => ?_
    have S2 := s1.trans s2
    obtain ⟨d2, _, _, _, _, hx2, _⟩ := id hR2
    refine ⟨_, rfl, _, rfl, x, tw, dx, d2, _, _, rfl, rfl, S2 _ _ hx, hx2, x, tw, len, len, L, La, rfl, hR.keep S2, hR2, hg, by rw [hc2]; exact hg, ⟨_, rfl⟩, ?_⟩
    rw [decide_eq_true (⟨rfl, hc2.symm⟩ : len = len ∧ cuesC L = cuesC La)]
    refine ⟨_, _, rfl, same_pl trivial, fun H3 s3 => ⟨_, rfl, ?_⟩⟩
    have S3 := S2.trans s3
    -- one of 2,000 ticks
    refine ⟨_, rfl, _, rfl, ?_⟩
    refine reel_good (by decide) (by decide) (.inl (hth.up.keep S3)) ec (judge_more l2 hj) lcs fun H4 y4 L4 s4 hR4 hc4 _ => ?_
    have S4 := S3.trans s4
    obtain ⟨d4, _, _, _, _, hx4, _⟩ := id hR4
    refine ⟨x, y4, dx, d4, _, _, rfl, rfl, S4 _ _ hx, hx4, x, y4, len, 2000, L, L4, rfl, hR.keep S4, hR4, hg, by rw [hc4]; exact hg, ⟨_, rfl⟩, _, rfl, rfl, ?_⟩
    have e4 : decide (len = 2000 ∧ cuesC L = cuesC L4) = decide (V.int len = V.int 2000) := by
      by_cases h : len = 2000
      · rw [decide_eq_true (⟨h, hc4.symm⟩ : len = 2000 ∧ cuesC L = cuesC L4), decide_eq_true (congrArg V.int h)]
      · rw [decide_eq_false (fun z : len = 2000 ∧ _ => h z.1), decide_eq_false (fun z => h (V.int.inj z))]
    rw [e4]
    refine ⟨_, _, rfl, same_pl trivial, fun H5 s5 => ⟨_, rfl, ?_⟩⟩
    have S5 := S4.trans s5
    -- the last cue left out
    refine ⟨fun σ' H' => σ' = [some (.ref x), some (.int len), some (.ref ct), some (.ref tw)] ∧ Same H H', ?_, ?_⟩
    · refine ⟨_, rfl, _, .inr (.inl ⟨_, SqT.of (S5 _ _ hct), rfl⟩), ?_⟩
      cases hM : M with
      | nil =>
        subst hM
        exact ⟨rfl, S5⟩
      | cons e0 r0 =>
        have lpos : 0 < M.length := by rw [hM]; exact Nat.succ_pos _
        show (if (!(refsC (e0 :: r0)).isEmpty) = true then _ else _)
        refine iteT ?_
        have lr : (refsC M).length = M.length := List.length_map ..
        have i1 : HT.sIx (refsC M).length (refsC M).length (some (-1)) = M.length - 1 := by
          rw [lr]
          show (if (-1 : Int) < 0 then ((-1 : Int) + (M.length : Int)).toNat else min (-1 : Int).toNat M.length) = _
          rw [if_pos (by decide)]
          omega
        have i0 : HT.sIx (refsC M).length 0 none = 0 := rfl
        refine ⟨_, rfl, _, rfl, _, rfl, 1, rfl, _, rfl, ct, refsC M, rfl, SqT.of (S5 _ _ hct), ?_, fun t7 ht7 => ?_⟩
        · rintro ⟨_, z⟩
          have z' : HT.sIx (refsC M).length (refsC M).length (some (-1)) = (refsC M).length := z
          rw [i1, lr] at z'
          omega
        have ecut : cutV (refsC M) none (some (-1)) = (refsC M).take (M.length - 1) := by
          unfold cutV
          rw [i1, i0, List.drop_zero, Nat.sub_zero]
        have st := same_new (o := .tup (cutV (refsC M) none (some (-1)))) ht7
        have S7 := S5.trans st
        have th7 : Th false [60, 5, 1] (upd H5 t7 (.tup (cutV (refsC M) none (some (-1))))) (.ref t7) (cusP ((cuesC L).take (M.length - 1))) := hth.cut hct S7 (by rw [upd_same, ecut])
        have hj7 : judgeD len 0 (((cuesC L).take (M.length - 1)).map cuP) = none := by
          rw [List.map_take]
          exact judge_take _ hj
        refine reel_good l1 l2 (.inl th7.up) (tupD_cus _) hj7 (by rw [List.length_take]; omega) fun H8 y8 L8 s8 hR8 hc8 hg8 => ?_
        have S8 := S7.trans s8
        obtain ⟨d8, _, _, _, _, hx8, _⟩ := id hR8
        refine ⟨x, y8, dx, d8, _, _, rfl, rfl, S8 _ _ hx, hx8, x, y8, len, len, L, L8, rfl, hR.keep S8, hR8, hg, by rw [hc8]; exact hg8, ⟨_, rfl⟩, ?_⟩
        have e8 : decide (len = len ∧ cuesC L = cuesC L8) = false := decide_eq_false fun z => by
          have := congrArg List.length z.2
          rw [hc8, List.length_take, List.length_map] at this
          omega
        rw [e8]
        exact ⟨_, _, rfl, same_pl trivial, fun H9 s9 => ⟨_, rfl, rfl, S8.trans s9⟩⟩
    rintro σ' H6 ⟨rfl, S6⟩
    refine ⟨_, rfl, _, rfl, _, rfl, (by show 2 ≤ sizeLine; decide), fun t6 ht6 => ?_⟩
    have st := same_new (o := .tup [V.int len, V.ref ct]) ht6
    have S7 := S6.trans st
    refine ⟨x, t6, dx, _, _, rfl, rfl, S7 _ _ hx, upd_same, x, t6, _, rfl, upd_same, ⟨_, rfl⟩, ?_⟩
    refine ⟨_, _, rfl, same_pl trivial, fun H8 s8 => ⟨_, rfl, iteT ?_⟩⟩
    have S8 := S7.trans s8
    refine ⟨_, rfl, ?_⟩
    refine reel_good (cd := .tuple []) (cs := []) l1 l2 (.inr ⟨rfl, aE, rfl, hE⟩) rfl rfl (Nat.zero_le _) fun H9 y9 L9 s9 hR9 hc9 _ => ?_
    have S9 := S8.trans s9
    obtain ⟨d9, _, _, _, _, hx9, _⟩ := id hR9
    refine ⟨_, rfl, y9, x, d9, dx, _, _, rfl, rfl, hx9, S9 _ _ hx, y9, x, len, len, L9, L, rfl, hR9, hR.keep S9, by rw [hc9]; exact fun _ h => (nomatch h), hg, ⟨_, rfl⟩, _, rfl, _, .inr (.inl ⟨_, SqT.of (S9 _ _ hct), rfl⟩), ?_⟩
    have e9 : decide (len = len ∧ cuesC L9 = cuesC L) = !(!(refsC M).isEmpty) := by
      cases L with
      | nil =>
        have : M = [] := List.length_eq_zero_iff.mp lM
        subst this
        rw [decide_eq_true (⟨rfl, hc9⟩ : len = len ∧ cuesC L9 = cuesC [])]
        rfl
      | cons e r =>
        have : M ≠ [] := fun z => by rw [z] at lM; cases lM
        cases M with
        | nil => exact absurd rfl this
        | cons d q =>
          rw [decide_eq_false]
          · rfl
          · rintro ⟨_, z⟩
            rw [hc9] at z
            cases z
    rw [e9]
    exact ⟨_, _, rfl, same_pl trivial, fun H10 s10 => q _ (S9.trans s10)⟩
end
end Sea
namespace Sea
open PySem PySem.Spec PyProof.Rows L2
/-! the law -/
theorem due_some {lx : V} {ld cd : PyData} {k : Nat} {v : V} (h : dueK lx cd = some (k, v)) : ∃ (nm : Str) (w : V), dueVs ld (some (k, v)) = [.str nm, w] ∧ decide (V.str nm = V.str (Str.ofString "none")) = false ∧ Plain w := by
  have n0 : decide (V.str sBL = V.str (Str.ofString "none")) = false := by decide +kernel
  have n1 : decide (V.str sBC = V.str (Str.ofString "none")) = false := by decide +kernel
  have n2 : decide (V.str sTM = V.str (Str.ofString "none")) = false := by decide +kernel
  unfold dueK at h
  split at h
  · cases h
    exact ⟨_, _, rfl, n0, trivial⟩
  · split at h
    · cases h
      exact ⟨_, _, rfl, n1, trivial⟩
    · split at h
      · cases h
        exact ⟨_, _, rfl, n1, trivial⟩
      · split at h
        · cases h
          exact ⟨_, _, rfl, n2, trivial⟩
        · cases h
theorem same_self {n : Nat} {H : Hp} : ∀ {xs : List V}, (∀ x ∈ xs, Plain x) → Paired (SameV n H) xs xs
  | [], _ => .nil
  | x :: r, h => .cons (same_pl (h x List.mem_cons_self)) (same_self fun y hy => h y (List.mem_cons_of_mem _ hy))
theorem ref_plain {lx : V} {ld cd : PyData} : (∀ x ∈ refVs ld (dueK lx cd), Plain x) ∧ (refVs ld (dueK lx cd)).length ≤ 1000 := by
  rcases h : dueK lx cd with _ | ⟨k, v⟩
  · exact ⟨all_c trivial all_n, (show (1 : Nat) ≤ 1000 by decide)⟩
  · obtain ⟨nm, w, e, _, hw⟩ := due_some (ld := ld) h
    have e2 : refVs ld (some (k, v)) = [.str nm, w, .bl false] := by
      show dueVs ld (some (k, v)) ++ [V.bl false] = _
      rw [e]
      rfl
    rw [e2]
    exact ⟨all_c trivial (all_c hw (all_c trivial all_n)), (show (3 : Nat) ≤ 1000 by decide)⟩
theorem same_refs {H : Hp} {a b : Addr} {lx : V} {ld cd : PyData} (ha : H a = some (.tup (refVs ld (dueK lx cd)))) (hb : H b = some (.tup (refVs ld (dueK lx cd)))) : SameV 3 H (.ref a) (.ref b) :=
  same_tup ha hb ref_plain.2 (same_self ref_plain.1)
theorem IsTh.paired {ms : List Nat} {H : Hp} : ∀ {xs : List V}, (∀ x ∈ xs, IsTh ms H x) → ∃ ds, Paired (Th true ms H) xs ds
  | [], _ => ⟨[], .nil⟩
  | x :: r, h => by
    obtain ⟨d, hd⟩ := h x List.mem_cons_self
    obtain ⟨ds, hs⟩ := IsTh.paired fun y hy => h y (List.mem_cons_of_mem _ hy)
    exact ⟨d :: ds, .cons hd.up hs⟩
theorem list_th {H : Hp} {b : Addr} {xs : List V} (hb : H b = some (.lst xs)) (hl : xs.length ≤ 60) (h : ∀ x ∈ xs, IsTh [5, 1] H x) : ∃ d, Th true [60, 5, 1] H (.ref b) d := by
  obtain ⟨ds, hs⟩ := IsTh.paired h
  exact ⟨.list ds, .inr ⟨b, xs, ds, rfl, by rw [← paired_len hs]; exact hl, hs, .inr ⟨rfl, rfl, hb⟩⟩⟩
/-- tuples of cues, as data says -/
theorem cues_at {H : Hp} : ∀ {ys : List V} {cs : List Cue}, Paired (Th false [5, 1] H) ys (cs.map cuP) → ∃ M : List (Addr × Cue), refsC M = ys ∧ cuesC M = cs ∧ ∀ e ∈ M, At H e
  | ys, [], h => by
    cases h
    exact ⟨[], rfl, rfl, fun _ h => nomatch h⟩
  | ys, c :: r, h => by
    cases h with
    | cons a t =>
      obtain ⟨M, h1, h2, h3⟩ := cues_at t
      rcases a with h | ⟨a, xs, ds, rfl, hm, hp, ⟨e, h⟩ | ⟨e, _⟩⟩
      · exact h.elim
      · have ed := PyData.tuple.inj e
        subst ed
        obtain ⟨va, vb, vc, ve, da, db, dc, de, rfl, e4, ra, rb, rc, re⟩ := paired4 hp (paired_len hp)
        obtain ⟨e5, e6⟩ := List.cons.inj e4
        obtain ⟨e7, e8⟩ := List.cons.inj e6
        obtain ⟨e9, e10⟩ := List.cons.inj e8
        obtain ⟨e11, _⟩ := List.cons.inj e10
        subst e5 e7 e9 e11
        have q1 := ra.int
        have q2 := rb.int
        have q3 := rc.str.1
        have q4 := re.str.1
        subst q1 q2 q3 q4
        refine ⟨(a, c) :: M, by rw [← h1]; rfl, by rw [← h2]; rfl, fun d hd => ?_⟩
        rcases List.mem_cons.mp hd with z | z
        · rw [z]
          exact h
        · exact h3 d z
      · cases e
theorem cues_tup {H : Hp} {y : V} {cs : List Cue} (h : Th false [60, 5, 1] H y (cusP cs)) : ∃ (ct : Addr) (M : List (Addr × Cue)), y = .ref ct ∧ CuesT H ct M ∧ cuesC M = cs := by
  rcases h with h | ⟨a, xs, ds, rfl, hm, hp, ⟨e, h⟩ | ⟨e, _⟩⟩
  · exact h.elim
  · have ed := PyData.tuple.inj e
    subst ed
    obtain ⟨M, h1, h2, h3⟩ := cues_at hp
    exact ⟨a, M, rfl, ⟨by rw [h1]; exact h, h3⟩, h2⟩
  · cases e
theorem tupD_good {d : PyData} {ds : List PyData} {cs : List Cue} (hs : seqD d = some ds) (h : cs.map some = ds.map cueD) : tupD d = cusP cs := by
  rw [tupD_seq hs]
  show PyData.tuple _ = PyData.tuple _
  congr 1
  refine List.ext_getElem? fun i => ?_
  have := congrArg (·[i]?) h
  simp only [List.getElem?_map] at this ⊢
  cases h3 : ds[i]? with
  | none =>
    rw [h3] at this
    cases h4 : cs[i]? with
    | none => rfl
    | some c => rw [h4] at this; cases this
  | some d =>
    rw [h3] at this
    cases h4 : cs[i]? with
    | none => rw [h4] at this; cases this
    | some c =>
      rw [h4] at this
      have h5 : some c = cueD d := Option.some.inj this
      show some (tupD d) = some (cuP c)
      rw [cueD_tup.mp h5.symm]
theorem ReelAt.over {H : Hp} {CR x ha : Addr} {len : Int} {L : List (Addr × Cue)} {xs ys : List V} (h : ReelAt H CR x len L) (hh : H ha = some (.lst xs)) : ReelAt (upd H ha (.lst ys)) CR x len L := by
  obtain ⟨dx, t, sp, nm, zs, h1, h2, h3, h4, h5, h6⟩ := h
  have kt : KT H (upd H ha (.lst ys)) := (KT.refl H).over hh
  exact ⟨dx, t, sp, nm, zs, by rw [upd_ne (fun z => by rw [z, hh] at h1; cases h1)]; exact h1, kt _ _ h2, fun e he => kt _ _ (h3 e he), kt _ _ h4, h5, kt _ _ h6⟩
def spLaw (K : PySem.W.Frag) : Sp := fun vs H Q _ => ∃ (a : Addr) (ns : List Int), vs = [.ref a] ∧ SqL K H a (ns.map V.int) ∧ ns.length ≤ 63 ∧ ∀ H', Q (.bl true) H'
section
variable {P : Program} {w : World} {K : PySem.W.Frag} {mg : Str → Option Value} {base : Heap} {CB CM CR CLn CE fR fI aE : Addr}
theorem ok_law {f : Addr} {fd : FuncData} (F : Fun K "law" "law" s_law f fd) (m_isinstance : mg "isinstance" = none) (m_list : mg "list" = none) (m_range : mg "range" = none) (m_repr : mg "repr" = none) (T : RC K mg CR fI)
    {fdR : FuncData} (FR : FnOk P w K mg base (L2.CX P w) 5 fI fdR ["self", "length", "cues"] (spReelA K CR CB CM CLn)) (bR : Binds K fdR ["self", "length", "cues"] [])
    (c__law_tape : Cal P w K mg base 1 "_law_tape" (spTape K)) (c__law_pick : Cal P w K mg base 1 "_law_pick" spPick) (c__law_rarely : Cal P w K mg base 2 "_law_rarely" spRarely) (c__law_made : Cal P w K mg base 5 "_law_made" spMadeL) (c__law_bend : Cal P w K mg base 3 "_law_bend" spBend)
    (c__law_lists : Cal P w K mg base 4 "_law_lists" (spListsN [60, 5, 1])) (c__law_tuples : Cal P w K mg base 4 "_law_tuples" (spTuplesN [60, 5, 1])) (c__law_same : Cal P w K mg base 4 "_law_same" (spSame 3)) (c__law_due : CalG P w K mg base 3 "_law_due" spDueL)
    (c__law_refusal : CalG P w K mg base 7 "_law_refusal" spRefuseL) (c__law_under_base : Cal P w K mg base 7 "_law_under_base" spUnderL) (c__law_reel_right : CalG P w K mg base 8 "_law_reel_right" (spReelRt CR)) (c__law_alike : Cal P w K mg base 7 "_law_alike" (spAlike CR))
    (c__law_things : Cal P w K mg base 3 "_law_things" spThings) (c__law_things_right : Cal P w K mg base 5 "_law_things_right" spThingsR) : FnG P w K mg base CX0 9 f fd ["_law_script"] (spLaw K) := by
  refine FunG.ok F sc_law (fun vs H Q E h => ?_) (fun cdv A outer s H vs Q E ga hr h => ?_)
  · obtain ⟨a, ns, rfl, _⟩ := h
    rfl
  · obtain ⟨sa, sns, rfl, hS, hl, q⟩ := h
    refine ⟨_, (pss_cons (ps_set (i := 1) sc_law.nd rfl (Or.inl rfl) (pe_c c__law_tape hr (by decide) rfl (pa_cons (pv 0) pa_nil)))
    (pss_cons (ps_set (i := 2) sc_law.nd rfl (Or.inl rfl) (pe_c c__law_made hr (by decide) rfl (pa_cons (pv 1) pa_nil)))
    (pss_cons (ps_set (i := 3) sc_law.nd rfl (Or.inl rfl) (pe_lst (pa_cons (pe_ix ix_list (pv 2) (pe_int) (fun _ _ => rfl)) (pa_cons (pe_callTy call_list_of (by rfl) m_list (by decide +kernel) (pa_cons (pe_ix ix_list (pv 2) (pe_int) (fun _ _ => rfl)) pa_nil)) pa_nil))))
    (pss_cons (ps_for PassesOwn.never rfl (pi_range1 (by rfl) m_range (pa_cons (pe_op op_fdivN (pe_c c__law_pick hr (by decide) rfl (pa_cons (pv 1) (pa_cons (pe_int) pa_nil))) (pe_int)) pa_nil)) (pg_name (i := 4) sc_law.nd rfl (Or.inl rfl))
    (pss_one (ps_expr (pe_c c__law_bend hr (by decide) rfl (pa_cons (pv 1) (pa_cons (pe_ix ix_list (pv 2) (pe_int) (fun _ _ => rfl)) (pa_cons (pe_ix ix_list (pv 2) (pe_int) (fun _ _ => rfl)) (pa_cons (pv 3) pa_nil))))))))
    (pss_cons (ps_set (i := 5) sc_law.nd rfl (Or.inl rfl) (pe_ix ix_list (pv 3) (pe_int) (fun _ _ => rfl)))
    (C8.pss_cut (ps_if (pt_val (pe_c c__law_rarely hr (by decide) rfl (pa_cons (pv 1) (pa_cons (pe_int) pa_nil))))
    (pss_one (ps_set (i := 5) sc_law.nd rfl (Or.inl rfl) (pe_c c__law_lists hr (by decide) rfl (pa_cons (pe_ix ix_list (pv 3) (pe_int) (fun _ _ => rfl)) pa_nil))))
    pss_nil)
    (pss_cons (ps_set (i := 6) sc_law.nd rfl (Or.inl rfl) (pe_callB (call_reprD ga hr.units) (by rfl) m_repr (by decide +kernel) (pa_cons (pv 5) pa_nil)))
    (pss_cons (ps_set (i := 7) sc_law.nd rfl (Or.inl rfl) (pe_cG c__law_due ga hr (by decide) rfl (pa_cons (pe_ix ix_list (pv 3) (pe_int) (fun _ _ => rfl)) (pa_cons (pv 5) pa_nil))))
    (C8.pss_cut (ps_if (pt_cmpR op_ne (pe_ix ix_tup (pv 7) (pe_int) (fun _ _ => rfl)) (pe_str) (nomark _))
    (pss_cons (ps_if (PW.pt (pw_or (pt_not (pt_val (pe_c c__law_same hr (by decide) rfl (pa_cons (pe_cG c__law_refusal ga hr (by decide) rfl (pa_cons (pe_ix ix_list (pv 3) (pe_int) (fun _ _ => rfl)) (pa_cons (pv 5) pa_nil))) (pa_cons (pe_op op_catT (pv 7) (pe_tup (pa_cons (pe_bl) pa_nil))) pa_nil))))) (pw_or1 (pt_not (pt_val (pe_c c__law_under_base hr (by decide) rfl (pa_cons (pe_ix ix_list (pv 3) (pe_int) (fun _ _ => rfl)) (pa_cons (pv 5) pa_nil))))))))
    (pss_one (ps_ret (pe_bl)))
    pss_nil)
    (pss_cons (ps_set (i := 8) sc_law.nd rfl (Or.inl rfl) (pe_cG c__law_due ga hr (by decide) rfl (pa_cons (pe_ix ix_list (pv 2) (pe_int) (fun _ _ => rfl)) (pa_cons (pe_ix ix_list (pv 2) (pe_int) (fun _ _ => rfl)) pa_nil))))
    (C8.pss_cut (ps_if (pt_cmpR op_ne (pe_ix ix_tup (pv 8) (pe_int) (fun _ _ => rfl)) (pe_str) (nomark _))
    (pss_one (ps_set (i := 8) sc_law.nd rfl (Or.inl rfl) (pe_op op_catT (pv 8) (pe_tup (pa_cons (pe_bl) pa_nil)))))
    pss_nil)
    (pss_one (ps_if (PW.pt (pw_or (pt_cmpR op_ne (pe_callB (call_reprD ga hr.units) (by rfl) m_repr (by decide +kernel) (pa_cons (pv 5) pa_nil)) (pv 6) (nomark _)) (pw_or1 (pt_not (pt_val (pe_c c__law_same hr (by decide) rfl (pa_cons (pe_cG c__law_refusal ga hr (by decide) rfl (pa_cons (pe_ix ix_list (pv 2) (pe_int) (fun _ _ => rfl)) (pa_cons (pe_ix ix_list (pv 2) (pe_int) (fun _ _ => rfl)) pa_nil))) (pa_cons (pv 8) pa_nil))))))))
    (pss_one (ps_ret (pe_bl)))
    pss_nil)))))
    (pss_cons (ps_set (i := 9) sc_law.nd rfl (Or.inl rfl) (pe_c c__law_tuples hr (by decide) rfl (pa_cons (pv 5) pa_nil)))
    (pss_cons (ps_set (i := 10) sc_law.nd rfl (Or.inl rfl) (pe_make (E := E0) T.made FR (hr.mono (by decide)) rfl T.g bR .nil (passes_call takes0 (fun _ _ _ _ h => h)) (pa_cons (pe_ix ix_list (pv 3) (pe_int) (fun _ _ => rfl)) (pa_cons (pv 5) pa_nil))))
    (pss_cons (ps_if (PW.pt (pw_or (pt_cmpR op_ne (pe_callB (call_reprD ga hr.units) (by rfl) m_repr (by decide +kernel) (pa_cons (pv 5) pa_nil)) (pv 6) (nomark _)) (pw_or1 (pt_not (pt_val (pe_cG c__law_reel_right ga hr (by decide) rfl (pa_cons (pv 10) (pa_cons (pe_ix ix_list (pv 3) (pe_int) (fun _ _ => rfl)) (pa_cons (pv 9) pa_nil)))))))))
    (pss_one (ps_ret (pe_bl)))
    pss_nil)
    (C8.pss_cut (ps_if (pt_val (pe_callB call_isi (by rfl) m_isinstance (by decide +kernel) (pa_cons (pv 5) (pa_cons (pe_bltn (v := .ty "list") (by rfl) m_list (by decide +kernel) rfl) pa_nil))))
    (pss_cons (ps_expr (pe_bm PySem.F.plainAttrs_list PySem.F.slot_list_append PySem.F.type_list_append mt_append (pv 5) (pa_cons (pe_int) pa_nil)))
    (pss_one (ps_asg (pe_non) (pg_sub (pv 5) (pe_int) set_list))))
    pss_nil)
    (pss_one (ps_if (PW.pt (pw_or (pt_not (pt_val (pe_c c__law_alike hr (by decide) rfl (pa_cons (pv 10) (pa_cons (pe_ix ix_list (pv 3) (pe_int) (fun _ _ => rfl)) (pa_cons (pv 9) pa_nil)))))) (pw_or1 (pt_not (pt_val (pe_cG c__law_reel_right ga hr (by decide) rfl (pa_cons (pv 10) (pa_cons (pe_ix ix_list (pv 3) (pe_int) (fun _ _ => rfl)) (pa_cons (pv 9) pa_nil)))))))))
    (pss_one (ps_ret (pe_bl)))
    pss_nil)))))))
    (pss_one (ps_ret (pe_c c__law_things_right hr (by decide) rfl (pa_cons (pe_c c__law_things hr (by decide) rfl (pa_cons (pv 1) pa_nil)) pa_nil))))))))))))), ?_⟩
    have at0 : ∀ {x y : V}, atI [x, y] 0 = some x := fun {x y} => atI_nat (j := 0) rfl
    have at1 : ∀ {x y : V}, atI [x, y] 1 = some y := fun {x y} => atI_nat (j := 1) rfl
    refine ⟨_, rfl, sa, sns, rfl, hS, hl, fun H1 tp cl ns s1 T1 => ?_⟩
    refine ⟨_, rfl, tp, cl, ns, rfl, T1, fun H2 r a len L k2 T2 ntr nta nra hM => ?_⟩
    obtain ⟨hMr, hMa, _⟩ := id hM
    refine ⟨_, rfl, r, _, 0, _, rfl, rfl, SqL.of hMr, at0, _, rfl, r, _, 1, _, rfl, rfl, SqL.of hMr, at1, a, _, rfl, .inl (SqL.of hMa), fun b hb => ⟨(by show 2 ≤ sizeLine; decide), fun nw hnw => ?_⟩⟩
    have sb := same_new (o := .lst (refsC L)) hb
    have sn := same_new (o := .lst [V.int len, V.ref b]) hnw
    have Tb := T2.new (o := .lst (refsC L)) hb
    have fb := T2.fresh hb
    have fn := Tb.fresh hnw
    have ap : Apart5 tp cl r a nw b := ⟨ntr, nta, fn.1.symm, fb.1.symm, ne_of_none (sb _ _ hMr) hnw, ne_of_none hMr hb, ne_of_none (sb _ _ hMa) hnw, ne_of_none hMa hb, (fun e => by rw [e, upd_same] at hnw; cases hnw), fn.2, fb.2⟩
    have hM3 := (hM.same sb).same sn
    have A0 : AllAt (upd (upd H2 b (.lst (refsC L))) nw (.lst [V.int len, V.ref b])) tp cl r a nw b ns len L := by
      refine ⟨Tb.new hnw, hM3, .int len, .ref b, upd_same, th_int (by have := hM3.2.2.2.1; omega) (by have := hM3.2.2.2.2.1; omega), .inr ⟨_, rfl, sn _ _ upd_same, List.length_map .., fun x hx => ?_⟩⟩
      obtain ⟨e, he, rfl⟩ := List.mem_map.mp hx
      obtain ⟨hA, hT⟩ := hM3.2.2.1 e he
      exact th_tup hA (show (4 : Nat) ≤ 5 by decide) hT.th
    generalize (upd (upd H2 b (.lst (refsC L))) nw (.lst [V.int len, V.ref b])) = H3 at A0 ⊢
    refine ⟨_, rfl, tp, cl, ns, 5, rfl, A0.t, by decide, fun H4 d k4 T4 d0 d1 => ⟨_, _, rfl, rfl, ⟨by decide, by decide⟩, ?_⟩⟩
    have A4 := A0.kb ap k4 T4
    have hdv : 0 ≤ d.fdiv 2 ∧ d.fdiv 2 ≤ 2 := by
      have hd : d = 0 ∨ d = 1 ∨ d = 2 ∨ d = 3 ∨ d = 4 := by omega
      rcases hd with h | h | h | h | h <;> subst h <;> decide
    refine ⟨_, rfl, by omega, by omega, ?_⟩
    refine for_it (walk_range (lo := 0) (n := (d.fdiv 2).toNat)) (fun i σ H' => ∃ k4 : Option V, σ = [some (.ref sa), some (.ref tp), some (.ref r), some (.ref nw), k4, none, none, none, none, none, none] ∧ AllAt H' tp cl r a nw b ns len L) ⟨none, rfl, A4⟩ (fun _ _ _ _ _ => trivial) ?_ ?_
    · rintro i x σ Ha Hb hi ⟨k4, rfl, Ax⟩ ⟨rfl, rfl⟩
      obtain ⟨hr1, ha1, _⟩ := id Ax.m
      exact ⟨_, rfl, _, rfl, r, _, 0, _, rfl, rfl, SqL.of hr1, at0, _, rfl, r, _, 1, _, rfl, rfl, SqL.of hr1, at1, _, rfl, tp, cl, r, a, nw, b, ns, len, L, rfl, Ax.t, ap, Ax.m, Ax.n, fun H' t m n => ⟨_, rfl, ⟨t, m, n⟩⟩⟩
    rintro σ H5 ⟨k4', rfl, A5⟩
    obtain ⟨lx, cx, hn5, ⟨ld, hld⟩, ways⟩ := id A5.n
    have l42 := A5.m.2.2.2.2.2
    -- what is handed
    have hcx : ∃ cd, Th true [60, 5, 1] H5 cx cd := by
      rcases ways with ⟨_, d, hd⟩ | ⟨xs, rfl, hb5, hl5, hxs⟩
      · exact ⟨d, hd.th⟩
      · exact list_th hb5 (by omega) hxs
    obtain ⟨cd, hcd⟩ := hcx
    have apart : ∀ ha, cx = .ref ha → ha ≠ tp ∧ ha ≠ cl ∧ ha ≠ nw := fun ha e => by
      rcases ways with ⟨hp, _⟩ | ⟨xs, e2, _⟩
      · rw [e] at hp
        exact hp.elim
      · rw [e] at e2
        cases e2
        exact ⟨ap.fb, ap.cb.symm, ap.nb.symm⟩
    refine ⟨_, rfl, nw, _, 1, _, rfl, rfl, SqL.of hn5, at1, ?_⟩
    refine ⟨fun σ' H' => ∃ (hv : V) (hd : PyData), σ' = [some (.ref sa), some (.ref tp), some (.ref r), some (.ref nw), k4', some hv, none, none, none, none, none] ∧ Tape H' tp cl ns ∧ MadeAt H' r a len L ∧ H' nw = some (.lst [lx, cx]) ∧ Th false [1] H' lx ld ∧
      Th true [60, 5, 1] H' hv hd ∧ ∀ ha, hv = .ref ha → ha ≠ tp ∧ ha ≠ cl ∧ ha ≠ nw, ?_, ?_⟩
    · refine ⟨_, rfl, tp, cl, ns, 2, rfl, A5.t, by decide, fun H6 bb k6 T6 => ⟨bb, rfl, ?_⟩⟩
      have A6 := A5.kb ap k6 T6
      have hn6 := k6 _ _ ap.fw hn5
      have hld6 := hld.kt (k6.kt A5.t)
      have hcd6 : ∃ cd, Th true [60, 5, 1] H6 cx cd := by
        rcases ways with ⟨_, d, hd⟩ | ⟨xs, rfl, hb5, hl5, hxs⟩
        · exact ⟨d, hd.th⟩
        · exact list_th (k6 _ _ ap.fb hb5) (by omega) fun x hx => (hxs x hx).kt (k6.kt A5.t)
      obtain ⟨cd6, hcd6⟩ := hcd6
      cases bb with
      | false => exact ⟨cx, cd6, rfl, T6, A6.m, hn6, hld6, hcd6, apart⟩
      | true =>
        refine ⟨_, rfl, nw, _, 1, _, rfl, rfl, SqL.of hn6, at1, cx, cd6, rfl, hcd6, fun H7 y d' s7 t7 _ => ⟨y, d', rfl, T6.same s7, A6.m.same s7, s7 _ _ hn6, hld6.keep s7, t7.keep new_sub, fun ha e => ?_⟩⟩
        subst e
        rcases t7.seq with ⟨h, _⟩ | ⟨a', xs, ds, e, _, _, _, _, h⟩
        · exact h.plain.elim
        · cases e
          have hn : H6 ha = none := by
            rcases h with h | h
            · exact (new_old h).1
            · exact (new_old h).1
          obtain ⟨f1, f2⟩ := T6.fresh hn
          exact ⟨f1.symm, f2.symm, fun z => by rw [z, hn6] at hn; cases hn⟩
    rintro σ' H8 ⟨hv, hd, rfl, T8, M8, hn8, hl8, hh8, apt⟩
    obtain ⟨r1, r2, r3, r4, r5⟩ := hh8.reprF size3 (by decide)
    have hr8 := M8.1
    -- how it is shown, what is due
    refine ⟨_, rfl, _, hd, rfl, hh8.dp, r1, r2, r3, r4, r5, ?_⟩
    refine ⟨_, rfl, nw, _, 0, _, rfl, rfl, SqL.of hn8, at0, _, rfl, lx, hv, ld, hd, rfl, hl8.up, hh8, fun H9 t9 s9 h9 => ?_⟩
    refine ⟨fun σ' H' => (∃ k8 k9 k10, σ' = [some (.ref sa), some (.ref tp), some (.ref r), some (.ref nw), k4', some hv, some (.str hd.shown), some (.ref t9), k8, k9, k10]) ∧ Tape H' tp cl ns, ?_, ?_⟩
    · have hnS : ∀ {H'}, Same H8 H' → H' nw = some (.lst [lx, cx]) := fun s => s _ _ hn8
      rcases hk : dueK lx hd with _ | ⟨kk, kv⟩
      · -- it is good
        rw [hk] at h9
        refine ⟨_, rfl, t9, _, 0, _, rfl, rfl, SqT.of h9, atI_nat (j := 0) rfl, rfl, _, rfl, ?_⟩
        rw [decide_eq_true rfl]
        refine iteF ?_
        refine ⟨_, rfl, hv, hd, rfl, hh8.keep s9, fun H10 y s10 t10 => ?_⟩
        have S10 := s9.trans s10
        refine ⟨_, rfl, nw, _, 0, _, rfl, rfl, SqL.of (hnS S10), at0, _, rfl, ?_⟩
        refine reel_reads (hl8.up.keep S10) (.inl (hh8.keep S10)) (fun H2 q h => ?_) (fun v H2 q h => ?_) (fun v H2 q h => ?_) (fun ln ds H11 x Lr el l1 l2 hs hj hm ek s11 hR hcs hg => ?_)
        · rw [hk] at h
          cases h
        · rw [hk] at h
          cases h
        · rw [hk] at h
          cases h
        subst el
        have S11 := S10.trans s11
        have etup := tupD_good hs hcs
        rw [etup] at t10
        obtain ⟨ct, M, rfl, hC10, hcM⟩ := cues_tup t10
        have hC11 := hC10.keep s11
        have th11 := t10.keep s11
        have lL : Lr.length = ds.length := by
          have := congrArg List.length hcs
          rw [List.length_map, List.length_map, List.length_map] at this
          exact this
        have hj2 : judgeD ln 0 ((cuesC Lr).map cuP) = none := by
          rw [judge_cong (es := ds) (by rw [cus_cueD]; exact hcs)]
          exact hj
        have hh11 := hh8.keep S11
        refine ⟨_, rfl, _, hd, rfl, hh11.dp, r1, r2, r3, r4, r5, _, rfl, rfl, _, rfl, ?_⟩
        rw [decide_eq_true rfl]
        refine ⟨_, rfl, _, rfl, nw, _, 0, _, rfl, rfl, SqL.of (hnS S11), at0, _, rfl, x, ct, ln, Lr, M, rfl, hR, hC11, hcM, hg, by omega, fun H12 s12 => ⟨_, rfl, ?_⟩⟩
        have S12 := S11.trans s12
        have hR12 := hR.keep s12
        have hC12 := hC11.keep s12
        have th12 := th11.keep s12
        -- lists that are changed later
        refine ⟨fun σ' H' => (∃ k8 : Option V, σ' = [some (.ref sa), some (.ref tp), some (.ref r), some (.ref nw), k4', some hv, some (.str hd.shown), some (.ref t9), k8, some (.ref ct), some (.ref x)]) ∧ Tape H' tp cl ns ∧ H' nw = some (.lst [.int ln, cx]) ∧
          ReelAt H' CR x ln Lr ∧ CuesT H' ct M ∧ Th false [60, 5, 1] H' (.ref ct) (cusP (cuesC Lr)), ?_, ?_⟩
        · rcases (hh8.keep S12).seq with ⟨hsc, hn⟩ | ⟨ha, xs, es, rfl, _, _, _, _, hq⟩
          · rw [hs] at hn
            cases hn
          rcases hq with hq | hq
          · exact ⟨_, rfl, _, _, _, _, false, rfl, .ty _, .base (.tup hq), kit_ty (by decide +kernel), false, rfl, ⟨_, rfl⟩, T8.same S12, hnS S12, hR12, hC12, th12⟩
          · obtain ⟨f1, f2, f3⟩ := apt ha rfl
            refine ⟨_, rfl, _, _, _, _, true, rfl, .ty _, .base (.lst hq), kit_ty (by decide +kernel), true, rfl, _, rfl, .inl ⟨rfl, _, SqL.of hq⟩, ha, _, _, rfl, rfl, hq, ?_, ?_⟩
            · have h60 : xs.length ≤ 1000 := by
                rcases (hh8.keep S12).seq with ⟨hsc, hn⟩ | ⟨ha', xs', es', e1, e2, e3, _, _, hq'⟩
                · exact hsc.plain.elim
                · cases e1
                  rcases hq' with hq' | hq'
                  · rw [hq] at hq'
                    cases hq'
                  · rw [hq] at hq'
                    cases hq'
                    omega
              exact small_line (by omega)
            have hq2 : (upd H12 ha (.lst (xs ++ [V.int 7]))) ha = some (.lst (xs ++ [V.int 7])) := upd_same
            have k1 : KT H12 (upd H12 ha (.lst (xs ++ [V.int 7]))) := (KT.refl H12).over hq
            have k2 : KT (upd H12 ha (.lst (xs ++ [V.int 7]))) (upd (upd H12 ha (.lst (xs ++ [V.int 7]))) ha (.lst ((xs ++ [V.int 7]).set 0 .non))) := (KT.refl _).over hq2
            refine ⟨_, rfl, ha, _, 0, 0, rfl, rfl, hq2, ixN_in (j := 0) (by rw [List.length_append]; exact Nat.succ_pos _), ⟨_, rfl⟩, ((T8.same S12).other f1.symm f2.symm).other f1.symm f2.symm, ?_, (hR12.over hq).over hq2, ⟨k2 _ _ (k1 _ _ hC12.1), fun e he => k2 _ _ (k1 _ _ (hC12.2 e he))⟩, th12.kt (k1.trans k2)⟩
            rw [upd_ne f3.symm, upd_ne f3.symm]
            exact hnS S12
        rintro σ' H13 ⟨⟨k8, rfl⟩, T13, hn13, hR13, hC13, th13⟩
        refine ⟨_, rfl, _, rfl, nw, _, 0, _, rfl, rfl, SqL.of hn13, at0, _, rfl, x, ct, ln, Lr, M, rfl, hR13, hC13, hcM, hg, by omega, l1, l2, hj2, th13, fun H14 s14 => ⟨_, rfl, ?_⟩⟩
        refine ⟨_, rfl, _, rfl, nw, _, 0, _, rfl, rfl, SqL.of (s14 _ _ hn13), at0, _, rfl, x, ct, ln, Lr, M, rfl, hR13.keep s14, hC13.keep s14, hcM, hg, by omega, fun H15 s15 => ⟨_, rfl, ?_⟩⟩
        exact ⟨⟨_, _, _, rfl⟩, (T13.same s14).same s15⟩
      · -- an error is due
        obtain ⟨nm, wv, ev, ne, pw⟩ := due_some (ld := ld) hk
        rw [hk, ev] at h9
        refine ⟨_, rfl, t9, _, 0, _, rfl, rfl, SqT.of h9, atI_nat (j := 0) rfl, rfl, _, rfl, ?_⟩
        rw [ne]
        refine iteT ?_
        have hh9 := hh8.keep s9
        refine ⟨_, rfl, nw, _, 0, _, rfl, rfl, SqL.of (hnS s9), at0, _, rfl, lx, hv, ld, hd, rfl, hl8.up.keep s9, hh9, fun H10 t10 s10 h10 => ?_⟩
        have S10 := s9.trans s10
        refine ⟨_, rfl, (by show 1 ≤ sizeLine; decide), fun t11 ht11 => ?_⟩
        have s11 := same_new (o := .tup [V.bl false]) ht11
        refine ⟨t9, t11, _, _, rfl, rfl, SqT.of (s11 _ _ (s10 _ _ h9)), SqT.of upd_same, (fun z => nomatch z), (by show 3 ≤ sizeLine; decide), (fun z => nomatch z), fun _ t12 ht12 => ?_⟩
        have s12 := same_new (o := .tup ([V.str nm, wv] ++ [V.bl false])) ht12
        have e10 : refVs ld (dueK lx hd) = [V.str nm, wv] ++ [V.bl false] := by
          rw [hk]
          show dueVs ld (some (kk, kv)) ++ [V.bl false] = _
          rw [ev]
        have q12 : (upd (upd H10 t11 (.tup [V.bl false])) t12 (.tup ([V.str nm, wv] ++ [V.bl false]))) t12 = some (.tup (refVs ld (dueK lx hd))) := by rw [upd_same, e10]
        refine ⟨_, _, rfl, same_refs (s12 _ _ (s11 _ _ h10)) q12, fun H13 s13 => ⟨_, rfl, ?_⟩⟩
        have S13 := ((S10.trans s11).trans s12).trans s13
        refine ⟨_, rfl, nw, _, 0, _, rfl, rfl, SqL.of (hnS S13), at0, _, rfl, lx, hv, ld, hd, rfl, hl8.up.keep S13, hh8.keep S13, (by rw [hk]; exact fun z => nomatch z), fun H14 s14 => ⟨_, rfl, ?_⟩⟩
        have S14 := S13.trans s14
        -- the good ones beside it
        have M14 := M8.same S14
        obtain ⟨hr14, ha14, hL14, len0, len1, _⟩ := id M14
        have thl : Th true [1] H14 (.int len) (.int len) := Sc.th ⟨rfl, Nat.lt_of_le_of_lt (by omega : len.natAbs ≤ 2000) (by decide)⟩
        obtain ⟨md, hmd⟩ := list_th ha14 (by rw [List.length_map]; omega) fun x hx => by
          obtain ⟨e, he, rfl⟩ := List.mem_map.mp hx
          obtain ⟨hA, hT⟩ := hL14 e he
          exact th_tup (m := 5) (r := [1]) hA (show (4 : Nat) ≤ 5 by decide) hT.th
        refine ⟨_, rfl, r, _, 0, _, rfl, rfl, SqL.of hr14, at0, _, rfl, r, _, 1, _, rfl, rfl, SqL.of hr14, at1, _, _, .int len, md, rfl, thl, hmd, fun H15 t15 s15 h15 => ?_⟩
        have S15 := S14.trans s15
        refine ⟨fun σ' H' => (∃ g, σ' = [some (.ref sa), some (.ref tp), some (.ref r), some (.ref nw), k4', some hv, some (.str hd.shown), some (.ref t9), some (.ref g), none, none] ∧ H' g = some (.tup (refVs (.int len) (dueK (.int len) md)))) ∧ Same H15 H', ?_, ?_⟩
        · rcases hk2 : dueK (.int len) md with _ | ⟨k2, v2⟩
          · rw [hk2] at h15
            refine ⟨_, rfl, t15, _, 0, _, rfl, rfl, SqT.of h15, atI_nat (j := 0) rfl, rfl, _, rfl, ?_⟩
            rw [decide_eq_true rfl]
            exact iteF ⟨⟨t15, rfl, h15⟩, Same.refl _⟩
          · obtain ⟨nm2, w2, ev2, ne2, pw2⟩ := due_some (ld := .int len) hk2
            rw [hk2, ev2] at h15
            refine ⟨_, rfl, t15, _, 0, _, rfl, rfl, SqT.of h15, atI_nat (j := 0) rfl, rfl, _, rfl, ?_⟩
            rw [ne2]
            refine iteT ⟨_, rfl, (by show 1 ≤ sizeLine; decide), fun t16 ht16 => ?_⟩
            have s16 := same_new (o := .tup [V.bl false]) ht16
            refine ⟨t15, t16, _, _, rfl, rfl, SqT.of (s16 _ _ h15), SqT.of upd_same, (fun z => nomatch z), (by show 3 ≤ sizeLine; decide), (fun z => nomatch z), fun _ t17 ht17 => ⟨⟨t17, rfl, ?_⟩, s16.trans (same_new ht17)⟩⟩
            rw [upd_same]
            show _ = some (HO.tup (dueVs (.int len) (some (k2, v2)) ++ [V.bl false]))
            rw [ev2]
        rintro σ' H18 ⟨⟨g, rfl, hg18⟩, s18⟩
        have S18 := S15.trans s18
        have hh18 := hh8.keep S18
        refine ⟨_, rfl, _, hd, rfl, hh18.dp, r1, r2, r3, r4, r5, _, rfl, rfl, _, rfl, ?_⟩
        rw [decide_eq_true rfl]
        have s1418 := s15.trans s18
        refine ⟨_, rfl, r, _, 0, _, rfl, rfl, SqL.of (s1418 _ _ hr14), at0, _, rfl, r, _, 1, _, rfl, rfl, SqL.of (s1418 _ _ hr14), at1, _, _, .int len, md, rfl, thl.keep s1418, hmd.keep s1418, fun H19 t19 s19 h19 => ?_⟩
        refine ⟨_, rfl, _, _, rfl, same_refs h19 (s19 _ _ hg18), fun H20 s20 => ⟨_, rfl, ?_⟩⟩
        exact ⟨⟨_, _, _, rfl⟩, T8.same ((S18.trans s19).trans s20)⟩
    -- names and texts
    rintro σ' H21 ⟨⟨k8, k9, k10, rfl⟩, T21⟩
    refine ⟨_, rfl, tp, cl, ns, rfl, T21, fun H22 p xs hp hlx hall => ?_⟩
    exact ⟨p, xs, rfl, hp, hall, fun H23 _ => q H23⟩
end
end Sea
/-! the end of a law that runs where no guard stands around it -/
namespace Sea
open PySem PySem.Spec PyProof.Rows L2
section
variable {P : Program} {w : World} {K : PySem.W.Frag} {mg mb : Str → Option Value} {k : Nat} {fa p : Addr} {fd : FuncData} {x : Str} {sp : Sp} {st : Shared} {us : List Value} {zs : List Int}
/-- what is wanted of the call -/
abbrev WantT (st : Shared) : Result → Shared → Prop := fun r s' => r = .ok (.ret (.bool true)) ∧ OldK st.heap s'.heap ∧ s'.os = st.os ∧ AllBare s'.gens
/-- over a heap in which the script alone may be tracked -/
theorem over_one (kin : K.In st.heap) (glob : st.heap.Ns mainGlobals mg) (blt : st.heap.Ns builtinsNs mb) (boot : ∀ y : Str, y ≠ "__name__" → mb y = bootBuiltins y) (free : st.heap.NoLimit) (still : st.gens = #[])
    (there : st.heap.get? p = some { cls := .type "list", data := .seq us.toArray }) (room : Room k callerA)
    (F : ∀ base : Heap, K.In base → base.Ns mainGlobals mg → FnG P w K mg base CX0 k fa fd [x] sp) (bt : ∀ (s : Shared) (u : Value), BindsTo s fd ⟨[u], []⟩ [(x, u)])
    {H : Hp} (only : Only H) (ok : HOk P w H st.heap) (one : ∀ b, H b ≠ none → b = p) (off : H p ≠ none → K.lookup p = none) (h : sp [.ref p] H (fun v _ => v = .bl true) E0) :
    codeAny (model P w) callerA (.call (.ref fa) ⟨[.ref p], []⟩) (WantT st) st := by
  have low : ∀ {b : Addr} {o : Obj}, st.heap.get? b = some o → H b = none → (hidT st.heap H).get? b = some o := fun e n => hidT_get e n
  have dictOff : ∀ {b : Addr} {o : Obj} {es : Array DictEntry} {n : Nat}, st.heap.get? b = some o → o.data = .dict es n → H b = none := by
    intro b o es n e hd
    cases q : H b with
    | none => rfl
    | some t =>
      have hb : b = p := one b (by rw [q]; simp)
      rw [hb, there] at e
      cases e
      have hd' : Data.seq us.toArray _ = Data.dict es n := hd
      cases hd'
  have names : ∀ {b : Addr} {m : Str → Option Value}, st.heap.Ns b m → (hidT st.heap H).Ns b m := by
    rintro b m ⟨o, es, n, e, hd, r⟩
    exact ⟨o, es, n, low e (dictOff e hd), hd, r⟩
  have kinB : K.In (hidT st.heap H) := by
    intro b o e
    refine low (kin b o e) ?_
    cases q : H b with
    | none => rfl
    | some t =>
      have hb : b = p := one b (by rw [q]; simp)
      rw [hb, off (by rw [← hb, q]; simp)] at e
      cases e
  have modB : Mod K mg (hidT st.heap H) := by
    obtain ⟨mc, f1, f2⟩ := free
    exact ⟨kinB, names glob, ⟨mb, names blt, boot⟩, ⟨mc, names f1, f2⟩⟩
  have nil : ∀ b : Addr, b ∉ ([] : List Addr) := fun b hb => by cases hb
  have env : Env0 P w K mg (hidT st.heap H) callerA [] st H :=
    ⟨rfl, modB, fun b o e => of_hidT e, Nat.le_of_eq (hidT_size _ _), trivial, fun b hb => absurd (show b ∈ ([] : List Addr) from hb) (nil b), ok, .of_eq still⟩
  have run := (F _ kinB (names glob)).runs callerA [] st H ⟨[.ref p], []⟩ [.ref p] [.ref p] _ E0 rfl room env (bt st (.ref p)) (.cons rfl .nil) h
  refine codeAny_mono run fun r s' got => ?_
  cases r with
  | error e => exact got.elim
  | ok fl =>
    cases fl with
    | ret u =>
      obtain ⟨v, H', os, bare, un, ok', rv, ev⟩ := got
      have ev' : v = .bl true := ev
      subst ev'
      obtain rfl : u = Value.bool true := rv
      refine ⟨rfl, OldK.of_keep ?_, os, bare⟩
      intro b o e
      cases q : H b with
      | none => exact un.keep b o e q (nil b) (nil b)
      | some t =>
        rcases only b with z | ⟨ob, ys, z⟩
        · rw [q] at z
          cases z
        · obtain ⟨e1, _⟩ := ok b _ z
          obtain ⟨e2, _⟩ := ok' b _ (un.frzs b ob _ z)
          rw [e] at e1
          cases e1
          exact e2
    | next => exact False.elim got
    | brk => exact False.elim got
    | cont => exact False.elim got
theorem law_at (kin : K.In st.heap) (glob : st.heap.Ns mainGlobals mg) (blt : st.heap.Ns builtinsNs mb) (boot : ∀ y : Str, y ≠ "__name__" → mb y = bootBuiltins y) (free : st.heap.NoLimit) (still : st.gens = #[])
    (there : st.heap.get? p = some { cls := .type "list", data := .seq us.toArray }) (nums : IntsAre us zs) (fits : zs.length ≤ sizeLine) (room : Room k callerA)
    (F : ∀ base : Heap, K.In base → base.Ns mainGlobals mg → FnG P w K mg base CX0 k fa fd [x] sp) (bt : ∀ (s : Shared) (u : Value), BindsTo s fd ⟨[u], []⟩ [(x, u)])
    (h : ∀ H : Hp, SqL K H p (zs.map V.int) → sp [.ref p] H (fun v _ => v = .bl true) E0) : codeAny (model P w) callerA (.call (.ref fa) ⟨[.ref p], []⟩) (WantT st) st := by
  have vals := vals_ints nums
  have many := nums.length
  cases q : K.lookup p with
  | some o =>
    have e := kin p o q
    rw [there] at e
    cases e
    refine over_one kin glob blt boot free still there room F bt (H := fun _ => none) (fun _ => Or.inl rfl) (fun b t z => by cases (show (none : Option HO) = some t from z)) (fun b z => absurd rfl z) (fun z => absurd rfl z) (h _ (Or.inr ?_))
    exact ⟨_, us.toArray, _, q, rfl, rfl, rfl, by rw [List.size_toArray, many]; exact fits, by simpa using vals⟩
  | none =>
    have at_ : ∀ {b : Addr} {t : HO}, (if b = p then some (HO.frz { cls := .type "list", data := .seq us.toArray } (.lst (zs.map V.int))) else none) = some t → b = p ∧ t = .frz { cls := .type "list", data := .seq us.toArray } (.lst (zs.map V.int)) := by
      intro b t z
      by_cases hb : b = p
      · rw [if_pos hb] at z
        exact ⟨hb, (Option.some.inj z).symm⟩
      · rw [if_neg hb] at z
        cases z
    refine over_one kin glob blt boot free still there room F bt (H := fun b => if b = p then some (.frz { cls := .type "list", data := .seq us.toArray } (.lst (zs.map V.int))) else none) (fun b => ?_) (fun b t z => ?_) (fun b z => ?_) (fun _ => q) (h _ (Or.inl (Or.inr ⟨_, if_pos rfl⟩)))
    · by_cases hb : b = p
      · exact Or.inr ⟨_, _, if_pos hb⟩
      · exact Or.inl (if_neg hb)
    · obtain ⟨hb, ht⟩ := at_ z
      subst hb ht
      exact ⟨there, by rw [List.length_map]; exact fits, us, _, vals, there⟩
    · by_cases hb : b = p
      · exact hb
      · exact absurd (if_neg hb) z
end
theorem walk_at {l : PySem.W.OpenLaw} {n k : Nat} {q : Program} {loose : List Str} {XP : (Str → Option Value) → Heap → Prop} {YP : World → Heap → Prop} {d : DefRec} {K : Params → PySem.W.Frag} {sp : World → Sp} {x : Str}
    (most : l.most = some n) (small : n ≤ sizeLine) (plain : d.params.defaults = []) (room : Room k callerA) (kin : ∀ (w : World) (h : Heap), YP w h → (K w.params).In h)
    (F : ∀ (w : World) (mg : Str → Option Value) (fa : Addr) (h : Heap), (K w.params).In h → h.Ns mainGlobals mg → mg d.name = some (.ref fa) → ∃ fd : FuncData, (∀ (s : Shared) (u : Value), BindsTo s fd ⟨[u], []⟩ [(x, u)]) ∧
      ∀ base : Heap, (K w.params).In base → base.Ns mainGlobals mg → FnG l.prog w (K w.params) mg base CX0 k fa fd [x] (sp w))
    (start : ∀ (w : World) (H : Hp) (a : Addr) (ns : List Int), ns.length ≤ n → SqL (K w.params) H a (ns.map V.int) → sp w [.ref a] H (fun v _ => v = .bl true) E0) :
    PySem.W.WalkO q loose XP YP l.row.toRowW d [] (fun f vs => PySem.call f vs) := by
  refine Att.attach_call most plain ?_
  intro w s0 s1 mg mb fa o pm cd doc a vs ns G Y ho hd hcd hmg hobj hints hlen hg
  have KX := kin w _ Y
  obtain ⟨fd, hb, hF⟩ := F w mg fa _ KX G.T.g hmg
  exact law_at KX G.T.g G.T.b G.T.builtins G.T.nolimit hg hobj hints (Nat.le_trans hlen small) room hF hb fun H hS => start w H a ns hlen hS
end Sea
namespace Sea
open PySem PySem.Spec PyProof.Rows L2
/-! what the top has left -/
theorem exm_mk {K : PySem.W.Frag} {T S : Addr} {b : Bool} (h1 : PySem.W.subIn K (.ref S) (.type "BaseException") = some true) (h2 : PySem.W.isClsIn K S = true) (h3 : PySem.W.typeIn K (.ref S) = some (.type "type")) (h4 : PySem.W.subIn K (.ref T) (.ref S) = some b) :
    PySem.W.exmOne K (.ref T) (.ref S) = some b := by
  have e1 : (PySem.W.subIn K (.ref S) (.type "BaseException") == some true) = true := by rw [h1] <;> rfl
  have e2 : ((PySem.W.clsIn K S).isSome && PySem.W.typeIn K (.ref S) == some (.type "type")) = true := by
    have h2' : (PySem.W.clsIn K S).isSome = true := h2
    rw [h2', h3] <;> rfl
  show (if (PySem.W.subIn K (.ref S) (.type "BaseException") == some true) = true then (if ((PySem.W.clsIn K S).isSome && PySem.W.typeIn K (.ref S) == some (.type "type")) = true then PySem.W.subIn K (.ref T) (.ref S) else none) else none) = some b
  rw [if_pos e1, if_pos e2]
  exact h4
theorem kit_no {K : PySem.W.Frag} {T S : Addr} (h0 : PySem.W.subIn K (.ref T) (.ref T) = some true) (h2 : PySem.W.isClsIn K S = true) (h3 : PySem.W.typeIn K (.ref S) = some (.type "type")) (h4 : PySem.W.subIn K (.ref T) (.ref S) = some false) :
    PySem.W.kitOne K (.ref T) (.ref S) = some false := by
  have ne : ((Value.ref T == Value.ref S) = true) → False := fun e => by
    have e' : Value.ref T = Value.ref S := eq_of_beq e
    rw [← e', h0] at h4
    cases h4
  have e2 : ((PySem.W.clsIn K S).isSome && PySem.W.typeIn K (.ref S) == some (.type "type")) = true := by
    have h2' : (PySem.W.clsIn K S).isSome = true := h2
    rw [h2', h3] <;> rfl
  show (if (Value.ref T == Value.ref S) = true then some true else if ((PySem.W.clsIn K S).isSome && PySem.W.typeIn K (.ref S) == some (.type "type")) = true then PySem.W.subIn K (.ref T) (.ref S) else none) = some false
  rw [if_neg ne, if_pos e2]
  exact h4
theorem kit_two {K : PySem.W.Frag} {T A B : Addr} (h1 : PySem.W.kitOne K (.ref T) (.ref A) = some false) (h2 : PySem.W.kitOne K (.ref T) (.ref B) = some false) : PySem.W.kitAny K (.ref T) [.ref A, .ref B] = some false :=
  kitAny_cons h1 (fun _ => kitAny_cons h2 (fun _ => rfl) (fun z => nomatch z)) (fun z => nomatch z)
theorem kit_ve {K : PySem.W.Frag} {T : Addr} (h : PySem.W.subIn K (.ref T) (.type "ValueError") = some true) : PySem.W.kitOne K (.ref T) (.type "ValueError") = some true := by
  show (if (Value.ref T == Value.type "ValueError") = true then some true else if PySem.W.kitMeta "ValueError" = true then PySem.W.subIn K (.ref T) (.type "ValueError") else none) = some true
  rw [if_neg (fun e => nomatch (eq_of_beq e : Value.ref T = Value.type "ValueError")), if_pos (by decide +kernel)]
  exact h

theorem kit_noT {K : PySem.W.Frag} {S : Addr} {s : String} (h2 : PySem.W.isClsIn K S = true) (h3 : PySem.W.typeIn K (.ref S) = some (.type "type")) (h4 : PySem.W.subIn K (.type s) (.ref S) = some false) :
    PySem.W.kitOne K (.type s) (.ref S) = some false := by
  have ne : ((Value.type s == Value.ref S) = true) → False := fun e => nomatch (eq_of_beq e : Value.type s = Value.ref S)
  have e2 : ((PySem.W.clsIn K S).isSome && PySem.W.typeIn K (.ref S) == some (.type "type")) = true := by
    have h2' : (PySem.W.clsIn K S).isSome = true := h2
    rw [h2', h3] <;> rfl
  show (if (Value.type s == Value.ref S) = true then some true else if ((PySem.W.clsIn K S).isSome && PySem.W.typeIn K (.ref S) == some (.type "type")) = true then PySem.W.subIn K (.type s) (.ref S) else none) = some false
  rw [if_neg ne, if_pos e2]
  exact h4

theorem ok_iLn {P : Program} {w : World} {K : PySem.W.Frag} {mg : Str → Option Value} {base : Heap} {C f : Addr} {fd : FuncData} (F : Fun K "__init__" "BadLength.__init__" s_BadLength___init__ f fd) : FnOk P w K mg base CX0 1 f fd ["self", "length"] (spIni K C "length") := by
  refine F.ok sc_BadLength___init__ (fun vs H Q E h => ?_) (fun cdv A outer s H vs Q E hr h => ?_)
  · obtain ⟨a, v, rfl, _⟩ := h
    rfl
  · obtain ⟨a, v, rfl, ox, no, ha, q⟩ := h
    exact ⟨_, pss_one (ps_ost (pv 0) (pv 1)), _, rfl, _, rfl, a, C, rfl, ox, no, .inl ⟨ha, q⟩⟩

theorem ok_iB {P : Program} {w : World} {K : PySem.W.Frag} {mg : Str → Option Value} {base : Heap} {C f : Addr} {fd : FuncData} (F : Fun K "__init__" "BadCue.__init__" s_BadCue___init__ f fd) : FnOk P w K mg base CX0 1 f fd ["self", "number"] (spIni K C "number") := by
  refine F.ok sc_BadCue___init__ (fun vs H Q E h => ?_) (fun cdv A outer s H vs Q E hr h => ?_)
  · obtain ⟨a, v, rfl, _⟩ := h
    rfl
  · obtain ⟨a, v, rfl, ox, no, ha, q⟩ := h
    exact ⟨_, pss_one (ps_ost (pv 0) (pv 1)), _, rfl, _, rfl, a, C, rfl, ox, no, .inl ⟨ha, q⟩⟩

theorem ok_iM {P : Program} {w : World} {K : PySem.W.Frag} {mg : Str → Option Value} {base : Heap} {C f : Addr} {fd : FuncData} (F : Fun K "__init__" "TooMany.__init__" s_TooMany___init__ f fd) : FnOk P w K mg base CX0 1 f fd ["self", "word"] (spIni K C "word") := by
  refine F.ok sc_TooMany___init__ (fun vs H Q E h => ?_) (fun cdv A outer s H vs Q E hr h => ?_)
  · obtain ⟨a, v, rfl, _⟩ := h
    rfl
  · obtain ⟨a, v, rfl, ox, no, ha, q⟩ := h
    exact ⟨_, pss_one (ps_ost (pv 0) (pv 1)), _, rfl, _, rfl, a, C, rfl, ox, no, .inl ⟨ha, q⟩⟩

theorem ok_same3 {P : Program} {w : World} {K : PySem.W.Frag} {mg : Str → Option Value} {base : Heap} {f : Addr} {fd : FuncData} (F : Fun K "_law_same" "_law_same" s__law_same f fd) (m_isinstance : mg "isinstance" = none) (m_tuple : mg "tuple" = none) (m_bool : mg "bool" = none) (m_str : mg "str" = none) (m_int : mg "int" = none)
    (m_len : mg "len" = none) (m_all : mg "all" = none) (m_range : mg "range" = none) (g : mg "_law_same" = some (.ref f)) (kp : PySem.W.keepIn K (.ref f) = true) (b : Binds K fd ["_law_told", "_law_due_here"] []) :
    FnOk P w K mg base CX0 4 f fd ["_law_told", "_law_due_here"] (spSame 3) := by
  have f0 : FnOk P w K mg base CX0 0 f fd ["_law_told", "_law_due_here"] spNever := ⟨fun _ _ _ _ h => h.elim, fun _ _ _ _ _ _ _ _ _ _ _ _ _ h => h.elim⟩
  have step : ∀ {k n : Nat}, FnOk P w K mg base CX0 k f fd ["_law_told", "_law_due_here"] (spSame n) → FnOk P w K mg base CX0 (k + 1) f fd ["_law_told", "_law_due_here"] (spSame (n + 1)) := fun {k n} h =>
    ok_same_at F m_isinstance m_tuple m_bool m_str m_int m_len m_all m_range ⟨f, fd, _, h, g, kp, b⟩ fun vs H Q E hs => by
      obtain ⟨x, y, rfl, hw, q⟩ := hs
      refine ⟨x, y, rfl, q, ?_⟩
      rcases hw with hw | ⟨a, b, xs, ys, h1, h2, h3, h4, h5, h6, h7⟩
      · exact .inl hw
      · exact .inr ⟨a, b, xs, ys, h1, h2, h3, h4, h5, h6, fun i u v e1 e2 H1 Q1 E1 s1 q1 => ⟨u, v, rfl, (h7 i u v e1 e2).keep s1, q1⟩⟩
  have f1 : FnOk P w K mg base CX0 1 f fd ["_law_told", "_law_due_here"] (spSame 0) :=
    ok_same_at F m_isinstance m_tuple m_bool m_str m_int m_len m_all m_range ⟨f, fd, _, f0, g, kp, b⟩ fun vs H Q E hs => by
      obtain ⟨x, y, rfl, hw, q⟩ := hs
      exact ⟨x, y, rfl, q, .inl hw⟩
  exact step (step (step f1))


theorem ok_lists3 {P : Program} {w : World} {K : PySem.W.Frag} {mg : Str → Option Value} {base : Heap} {f : Addr} {fd : FuncData} (F : Fun K "_law_lists" "_law_lists" s__law_lists f fd) (m_isinstance : mg "isinstance" = none) (m_list : mg "list" = none) (m_tuple : mg "tuple" = none)
    (g : mg "_law_lists" = some (.ref f)) (kp : PySem.W.keepIn K (.ref f) = true) (b : Binds K fd ["_law_thing"] []) : FnOk P w K mg base CX0 4 f fd ["_law_thing"] (spListsN [60, 5, 1]) := by
  have f0 : FnOk P w K mg base CX0 0 f fd ["_law_thing"] spNever := ⟨fun _ _ _ _ h => h.elim, fun _ _ _ _ _ _ _ _ _ _ _ _ _ h => h.elim⟩
  have f1 : FnOk P w K mg base CX0 1 f fd ["_law_thing"] (spListsN []) := ok_listsN F m_isinstance m_list m_tuple (fun _ h => nomatch h) ⟨f, fd, _, f0, g, kp, b⟩ fun _ _ e => nomatch e
  have f2 : FnOk P w K mg base CX0 2 f fd ["_law_thing"] (spListsN [1]) := ok_listsN F m_isinstance m_list m_tuple (by decide) ⟨f, fd, _, f1, g, kp, b⟩ fun _ _ e => by cases e; rfl
  have f3 : FnOk P w K mg base CX0 3 f fd ["_law_thing"] (spListsN [5, 1]) := ok_listsN F m_isinstance m_list m_tuple (by decide) ⟨f, fd, _, f2, g, kp, b⟩ fun _ _ e => by cases e; rfl
  exact ok_listsN F m_isinstance m_list m_tuple (by decide) ⟨f, fd, _, f3, g, kp, b⟩ fun _ _ e => by cases e; rfl

theorem ok_tuples3 {P : Program} {w : World} {K : PySem.W.Frag} {mg : Str → Option Value} {base : Heap} {f : Addr} {fd : FuncData} (F : Fun K "_law_tuples" "_law_tuples" s__law_tuples f fd) (m_isinstance : mg "isinstance" = none) (m_list : mg "list" = none) (m_tuple : mg "tuple" = none)
    (g : mg "_law_tuples" = some (.ref f)) (kp : PySem.W.keepIn K (.ref f) = true) (b : Binds K fd ["_law_thing"] []) : FnOk P w K mg base CX0 4 f fd ["_law_thing"] (spTuplesN [60, 5, 1]) := by
  have f0 : FnOk P w K mg base CX0 0 f fd ["_law_thing"] spNever := ⟨fun _ _ _ _ h => h.elim, fun _ _ _ _ _ _ _ _ _ _ _ _ _ h => h.elim⟩
  have f1 : FnOk P w K mg base CX0 1 f fd ["_law_thing"] (spTuplesN []) := ok_tuplesN F m_isinstance m_list m_tuple (fun _ h => nomatch h) ⟨f, fd, _, f0, g, kp, b⟩ fun _ _ e => nomatch e
  have f2 : FnOk P w K mg base CX0 2 f fd ["_law_thing"] (spTuplesN [1]) := ok_tuplesN F m_isinstance m_list m_tuple (by decide) ⟨f, fd, _, f1, g, kp, b⟩ fun _ _ e => by cases e; rfl
  have f3 : FnOk P w K mg base CX0 3 f fd ["_law_thing"] (spTuplesN [5, 1]) := ok_tuplesN F m_isinstance m_list m_tuple (by decide) ⟨f, fd, _, f2, g, kp, b⟩ fun _ _ e => by cases e; rfl
  exact ok_tuplesN F m_isinstance m_list m_tuple (by decide) ⟨f, fd, _, f3, g, kp, b⟩ fun _ _ e => by cases e; rfl

theorem all_mk {l : PySem.W.OpenLaw} {w : World} {K : PySem.W.Frag} {h : Heap} {mg : Str → Option Value} {fa CE CLn CB CM CR TD aE p_sp p_nm f_is_integer f_is_within f_items_of f_parts_of f_is_name f_has_percent f_is_text f_cue_of f_judged_cues f__law_tape f__law_pick f__law_some f__law_rarely f__law_names f__law_text f__law_few_text f__law_same f__law_lists f__law_tuples f__law_is_number f__law_name_good f__law_text_good f__law_cue_good f__law_due f__law_refusal f__law_under_base f__law_no_cue f__law_words f__law_made f__law_odd_part f__law_bend f__law_things f__law_things_right f__law_reel_right f__law_alike f_law f_iLn f_iB f_iM f_iR f_get f_len f_iter f_eq f_sp f_nm : Addr} (X : K.In h) (G : h.Ns mainGlobals mg) (hfa : mg "law" = some (.ref fa))
    {od_is_integer an_is_integer od_is_within an_is_within od_items_of an_items_of od_parts_of an_parts_of od_is_name an_is_name od_has_percent an_has_percent od_is_text an_is_text od_cue_of an_cue_of od_judged_cues an_judged_cues od__law_tape an__law_tape od__law_pick an__law_pick od__law_some an__law_some od__law_rarely an__law_rarely od__law_names an__law_names od__law_text an__law_text od__law_few_text an__law_few_text od__law_same an__law_same od__law_lists an__law_lists od__law_tuples an__law_tuples od__law_is_number an__law_is_number od__law_name_good an__law_name_good od__law_text_good an__law_text_good od__law_cue_good an__law_cue_good od__law_due an__law_due od__law_refusal an__law_refusal od__law_under_base an__law_under_base od__law_no_cue an__law_no_cue od__law_words an__law_words od__law_made an__law_made od__law_odd_part an__law_odd_part od__law_bend an__law_bend od__law_things an__law_things od__law_things_right an__law_things_right od__law_reel_right an__law_reel_right od__law_alike an__law_alike od_law an_law od_iLn an_iLn od_iB an_iB od_iM an_iM od_iR an_iR od_get an_get od_len an_len od_iter an_iter od_eq an_eq od_sp an_sp od_nm an_nm : Option Addr} {sl_is_integer sl_is_within sl_items_of sl_parts_of sl_is_name sl_has_percent sl_is_text sl_cue_of sl_judged_cues sl__law_tape sl__law_pick sl__law_some sl__law_rarely sl__law_names sl__law_text sl__law_few_text sl__law_same sl__law_lists sl__law_tuples sl__law_is_number sl__law_name_good sl__law_text_good sl__law_cue_good sl__law_due sl__law_refusal sl__law_under_base sl__law_no_cue sl__law_words sl__law_made sl__law_odd_part sl__law_bend sl__law_things sl__law_things_right sl__law_reel_right sl__law_alike sl_law sl_iLn sl_iB sl_iM sl_iR sl_get sl_len sl_iter sl_eq sl_sp sl_nm : Array (Option Value)} {oc_is_integer kV_is_integer dc_is_integer pm_is_integer cd_is_integer ct_is_integer oc_is_within kV_is_within dc_is_within pm_is_within cd_is_within ct_is_within oc_items_of kV_items_of dc_items_of pm_items_of cd_items_of ct_items_of oc_parts_of kV_parts_of dc_parts_of pm_parts_of cd_parts_of ct_parts_of oc_is_name kV_is_name dc_is_name pm_is_name cd_is_name ct_is_name oc_has_percent kV_has_percent dc_has_percent pm_has_percent cd_has_percent ct_has_percent oc_is_text kV_is_text dc_is_text pm_is_text cd_is_text ct_is_text oc_cue_of kV_cue_of dc_cue_of pm_cue_of cd_cue_of ct_cue_of oc_judged_cues kV_judged_cues dc_judged_cues pm_judged_cues cd_judged_cues ct_judged_cues oc__law_tape kV__law_tape dc__law_tape pm__law_tape cd__law_tape ct__law_tape oc__law_pick kV__law_pick dc__law_pick pm__law_pick cd__law_pick ct__law_pick oc__law_some kV__law_some dc__law_some pm__law_some cd__law_some ct__law_some oc__law_rarely kV__law_rarely dc__law_rarely pm__law_rarely cd__law_rarely ct__law_rarely oc__law_names kV__law_names dc__law_names pm__law_names cd__law_names ct__law_names oc__law_text kV__law_text dc__law_text pm__law_text cd__law_text ct__law_text oc__law_few_text kV__law_few_text dc__law_few_text pm__law_few_text cd__law_few_text ct__law_few_text oc__law_same kV__law_same dc__law_same pm__law_same cd__law_same ct__law_same oc__law_lists kV__law_lists dc__law_lists pm__law_lists cd__law_lists ct__law_lists oc__law_tuples kV__law_tuples dc__law_tuples pm__law_tuples cd__law_tuples ct__law_tuples oc__law_is_number kV__law_is_number dc__law_is_number pm__law_is_number cd__law_is_number ct__law_is_number oc__law_name_good kV__law_name_good dc__law_name_good pm__law_name_good cd__law_name_good ct__law_name_good oc__law_text_good kV__law_text_good dc__law_text_good pm__law_text_good cd__law_text_good ct__law_text_good oc__law_cue_good kV__law_cue_good dc__law_cue_good pm__law_cue_good cd__law_cue_good ct__law_cue_good oc__law_due kV__law_due dc__law_due pm__law_due cd__law_due ct__law_due oc__law_refusal kV__law_refusal dc__law_refusal pm__law_refusal cd__law_refusal ct__law_refusal oc__law_under_base kV__law_under_base dc__law_under_base pm__law_under_base cd__law_under_base ct__law_under_base oc__law_no_cue kV__law_no_cue dc__law_no_cue pm__law_no_cue cd__law_no_cue ct__law_no_cue oc__law_words kV__law_words dc__law_words pm__law_words cd__law_words ct__law_words oc__law_made kV__law_made dc__law_made pm__law_made cd__law_made ct__law_made oc__law_odd_part kV__law_odd_part dc__law_odd_part pm__law_odd_part cd__law_odd_part ct__law_odd_part oc__law_bend kV__law_bend dc__law_bend pm__law_bend cd__law_bend ct__law_bend oc__law_things kV__law_things dc__law_things pm__law_things cd__law_things ct__law_things oc__law_things_right kV__law_things_right dc__law_things_right pm__law_things_right cd__law_things_right ct__law_things_right oc__law_reel_right kV__law_reel_right dc__law_reel_right pm__law_reel_right cd__law_reel_right ct__law_reel_right oc__law_alike kV__law_alike dc__law_alike pm__law_alike cd__law_alike ct__law_alike oc_law kV_law dc_law pm_law cd_law ct_law oc_iLn kV_iLn dc_iLn pm_iLn cd_iLn ct_iLn oc_iB kV_iB dc_iB pm_iB cd_iB ct_iB oc_iM kV_iM dc_iM pm_iM cd_iM ct_iM oc_iR kV_iR dc_iR pm_iR cd_iR ct_iR oc_get kV_get dc_get pm_get cd_get ct_get oc_len kV_len dc_len pm_len cd_len ct_len oc_iter kV_iter dc_iter pm_iter cd_iter ct_iter oc_eq kV_eq dc_eq pm_eq cd_eq ct_eq oc_sp kV_sp dc_sp pm_sp cd_sp ct_sp oc_nm kV_nm dc_nm pm_nm cd_nm ct_nm : Value} {re_sp re_nm : List Value} {tP tT tQ tL : Tok} {oTD oE : Obj} {nTD nE : Nat}
    {nmLn qLn : Str} {NLn : Addr} {bsLn : List Value} {snLn : List Str} {subLn : List Value} {abLn : Bool} {colLn : Option Bool} {ddLn : Option Addr} {m0Ln m1Ln m2Ln m3Ln m5Ln : Option Value}
    {nmB qB : Str} {NB : Addr} {bsB : List Value} {snB : List Str} {subB : List Value} {abB : Bool} {colB : Option Bool} {ddB : Option Addr} {m0B m1B m2B m3B m5B : Option Value}
    {nmM qM : Str} {NM : Addr} {bsM : List Value} {snM : List Str} {subM : List Value} {abM : Bool} {colM : Option Bool} {ddM : Option Addr} {m0M m1M m2M m3M m5M : Option Value}
    (a_is_integer : PySem.W.nsIn K mainGlobals "is_integer" = some (some (.ref f_is_integer)))
    (l_is_integer : K.lookup f_is_integer = some ⟨oc_is_integer, od_is_integer, .func (PySem.W.fnOf "is_integer" "is_integer" (defArgs s_is_integer) (defBody s_is_integer) (defScope s_is_integer) .none kV_is_integer dc_is_integer pm_is_integer an_is_integer cd_is_integer ct_is_integer), sl_is_integer⟩)
    (c_is_integer_ : PySem.W.codeIn K cd_is_integer "is_integer" = true)
    (k_is_integer : PySem.W.keepIn K (.ref f_is_integer) = true)
    (a_is_within : PySem.W.nsIn K mainGlobals "is_within" = some (some (.ref f_is_within)))
    (l_is_within : K.lookup f_is_within = some ⟨oc_is_within, od_is_within, .func (PySem.W.fnOf "is_within" "is_within" (defArgs s_is_within) (defBody s_is_within) (defScope s_is_within) .none kV_is_within dc_is_within pm_is_within an_is_within cd_is_within ct_is_within), sl_is_within⟩)
    (c_is_within_ : PySem.W.codeIn K cd_is_within "is_within" = true)
    (k_is_within : PySem.W.keepIn K (.ref f_is_within) = true)
    (a_items_of : PySem.W.nsIn K mainGlobals "items_of" = some (some (.ref f_items_of)))
    (l_items_of : K.lookup f_items_of = some ⟨oc_items_of, od_items_of, .func (PySem.W.fnOf "items_of" "items_of" (defArgs s_items_of) (defBody s_items_of) (defScope s_items_of) .none kV_items_of dc_items_of pm_items_of an_items_of cd_items_of ct_items_of), sl_items_of⟩)
    (c_items_of_ : PySem.W.codeIn K cd_items_of "items_of" = true)
    (k_items_of : PySem.W.keepIn K (.ref f_items_of) = true)
    (a_parts_of : PySem.W.nsIn K mainGlobals "parts_of" = some (some (.ref f_parts_of)))
    (l_parts_of : K.lookup f_parts_of = some ⟨oc_parts_of, od_parts_of, .func (PySem.W.fnOf "parts_of" "parts_of" (defArgs s_parts_of) (defBody s_parts_of) (defScope s_parts_of) .none kV_parts_of dc_parts_of pm_parts_of an_parts_of cd_parts_of ct_parts_of), sl_parts_of⟩)
    (c_parts_of_ : PySem.W.codeIn K cd_parts_of "parts_of" = true)
    (k_parts_of : PySem.W.keepIn K (.ref f_parts_of) = true)
    (a_is_name : PySem.W.nsIn K mainGlobals "is_name" = some (some (.ref f_is_name)))
    (l_is_name : K.lookup f_is_name = some ⟨oc_is_name, od_is_name, .func (PySem.W.fnOf "is_name" "is_name" (defArgs s_is_name) (defBody s_is_name) (defScope s_is_name) .none kV_is_name dc_is_name pm_is_name an_is_name cd_is_name ct_is_name), sl_is_name⟩)
    (c_is_name_ : PySem.W.codeIn K cd_is_name "is_name" = true)
    (k_is_name : PySem.W.keepIn K (.ref f_is_name) = true)
    (a_has_percent : PySem.W.nsIn K mainGlobals "has_percent" = some (some (.ref f_has_percent)))
    (l_has_percent : K.lookup f_has_percent = some ⟨oc_has_percent, od_has_percent, .func (PySem.W.fnOf "has_percent" "has_percent" (defArgs s_has_percent) (defBody s_has_percent) (defScope s_has_percent) .none kV_has_percent dc_has_percent pm_has_percent an_has_percent cd_has_percent ct_has_percent), sl_has_percent⟩)
    (c_has_percent_ : PySem.W.codeIn K cd_has_percent "has_percent" = true)
    (k_has_percent : PySem.W.keepIn K (.ref f_has_percent) = true)
    (a_is_text : PySem.W.nsIn K mainGlobals "is_text" = some (some (.ref f_is_text)))
    (l_is_text : K.lookup f_is_text = some ⟨oc_is_text, od_is_text, .func (PySem.W.fnOf "is_text" "is_text" (defArgs s_is_text) (defBody s_is_text) (defScope s_is_text) .none kV_is_text dc_is_text pm_is_text an_is_text cd_is_text ct_is_text), sl_is_text⟩)
    (c_is_text_ : PySem.W.codeIn K cd_is_text "is_text" = true)
    (k_is_text : PySem.W.keepIn K (.ref f_is_text) = true)
    (a_cue_of : PySem.W.nsIn K mainGlobals "cue_of" = some (some (.ref f_cue_of)))
    (l_cue_of : K.lookup f_cue_of = some ⟨oc_cue_of, od_cue_of, .func (PySem.W.fnOf "cue_of" "cue_of" (defArgs s_cue_of) (defBody s_cue_of) (defScope s_cue_of) .none kV_cue_of dc_cue_of pm_cue_of an_cue_of cd_cue_of ct_cue_of), sl_cue_of⟩)
    (c_cue_of_ : PySem.W.codeIn K cd_cue_of "cue_of" = true)
    (k_cue_of : PySem.W.keepIn K (.ref f_cue_of) = true)
    (a_judged_cues : PySem.W.nsIn K mainGlobals "judged_cues" = some (some (.ref f_judged_cues)))
    (l_judged_cues : K.lookup f_judged_cues = some ⟨oc_judged_cues, od_judged_cues, .func (PySem.W.fnOf "judged_cues" "judged_cues" (defArgs s_judged_cues) (defBody s_judged_cues) (defScope s_judged_cues) .none kV_judged_cues dc_judged_cues pm_judged_cues an_judged_cues cd_judged_cues ct_judged_cues), sl_judged_cues⟩)
    (c_judged_cues_ : PySem.W.codeIn K cd_judged_cues "judged_cues" = true)
    (k_judged_cues : PySem.W.keepIn K (.ref f_judged_cues) = true)
    (a__law_tape : PySem.W.nsIn K mainGlobals "_law_tape" = some (some (.ref f__law_tape)))
    (l__law_tape : K.lookup f__law_tape = some ⟨oc__law_tape, od__law_tape, .func (PySem.W.fnOf "_law_tape" "_law_tape" (defArgs s__law_tape) (defBody s__law_tape) (defScope s__law_tape) .none kV__law_tape dc__law_tape pm__law_tape an__law_tape cd__law_tape ct__law_tape), sl__law_tape⟩)
    (c__law_tape_ : PySem.W.codeIn K cd__law_tape "_law_tape" = true)
    (k__law_tape : PySem.W.keepIn K (.ref f__law_tape) = true)
    (a__law_pick : PySem.W.nsIn K mainGlobals "_law_pick" = some (some (.ref f__law_pick)))
    (l__law_pick : K.lookup f__law_pick = some ⟨oc__law_pick, od__law_pick, .func (PySem.W.fnOf "_law_pick" "_law_pick" (defArgs s__law_pick) (defBody s__law_pick) (defScope s__law_pick) .none kV__law_pick dc__law_pick pm__law_pick an__law_pick cd__law_pick ct__law_pick), sl__law_pick⟩)
    (c__law_pick_ : PySem.W.codeIn K cd__law_pick "_law_pick" = true)
    (k__law_pick : PySem.W.keepIn K (.ref f__law_pick) = true)
    (a__law_some : PySem.W.nsIn K mainGlobals "_law_some" = some (some (.ref f__law_some)))
    (l__law_some : K.lookup f__law_some = some ⟨oc__law_some, od__law_some, .func (PySem.W.fnOf "_law_some" "_law_some" (defArgs s__law_some) (defBody s__law_some) (defScope s__law_some) .none kV__law_some dc__law_some pm__law_some an__law_some cd__law_some ct__law_some), sl__law_some⟩)
    (c__law_some_ : PySem.W.codeIn K cd__law_some "_law_some" = true)
    (k__law_some : PySem.W.keepIn K (.ref f__law_some) = true)
    (a__law_rarely : PySem.W.nsIn K mainGlobals "_law_rarely" = some (some (.ref f__law_rarely)))
    (l__law_rarely : K.lookup f__law_rarely = some ⟨oc__law_rarely, od__law_rarely, .func (PySem.W.fnOf "_law_rarely" "_law_rarely" (defArgs s__law_rarely) (defBody s__law_rarely) (defScope s__law_rarely) .none kV__law_rarely dc__law_rarely pm__law_rarely an__law_rarely cd__law_rarely ct__law_rarely), sl__law_rarely⟩)
    (c__law_rarely_ : PySem.W.codeIn K cd__law_rarely "_law_rarely" = true)
    (k__law_rarely : PySem.W.keepIn K (.ref f__law_rarely) = true)
    (a__law_names : PySem.W.nsIn K mainGlobals "_law_names" = some (some (.ref f__law_names)))
    (l__law_names : K.lookup f__law_names = some ⟨oc__law_names, od__law_names, .func (PySem.W.fnOf "_law_names" "_law_names" (defArgs s__law_names) (defBody s__law_names) (defScope s__law_names) .none kV__law_names dc__law_names pm__law_names an__law_names cd__law_names ct__law_names), sl__law_names⟩)
    (c__law_names_ : PySem.W.codeIn K cd__law_names "_law_names" = true)
    (k__law_names : PySem.W.keepIn K (.ref f__law_names) = true)
    (a__law_text : PySem.W.nsIn K mainGlobals "_law_text" = some (some (.ref f__law_text)))
    (l__law_text : K.lookup f__law_text = some ⟨oc__law_text, od__law_text, .func (PySem.W.fnOf "_law_text" "_law_text" (defArgs s__law_text) (defBody s__law_text) (defScope s__law_text) .none kV__law_text dc__law_text pm__law_text an__law_text cd__law_text ct__law_text), sl__law_text⟩)
    (c__law_text_ : PySem.W.codeIn K cd__law_text "_law_text" = true)
    (k__law_text : PySem.W.keepIn K (.ref f__law_text) = true)
    (a__law_few_text : PySem.W.nsIn K mainGlobals "_law_few_text" = some (some (.ref f__law_few_text)))
    (l__law_few_text : K.lookup f__law_few_text = some ⟨oc__law_few_text, od__law_few_text, .func (PySem.W.fnOf "_law_few_text" "_law_few_text" (defArgs s__law_few_text) (defBody s__law_few_text) (defScope s__law_few_text) .none kV__law_few_text dc__law_few_text pm__law_few_text an__law_few_text cd__law_few_text ct__law_few_text), sl__law_few_text⟩)
    (c__law_few_text_ : PySem.W.codeIn K cd__law_few_text "_law_few_text" = true)
    (k__law_few_text : PySem.W.keepIn K (.ref f__law_few_text) = true)
    (a__law_same : PySem.W.nsIn K mainGlobals "_law_same" = some (some (.ref f__law_same)))
    (l__law_same : K.lookup f__law_same = some ⟨oc__law_same, od__law_same, .func (PySem.W.fnOf "_law_same" "_law_same" (defArgs s__law_same) (defBody s__law_same) (defScope s__law_same) .none kV__law_same dc__law_same pm__law_same an__law_same cd__law_same ct__law_same), sl__law_same⟩)
    (c__law_same_ : PySem.W.codeIn K cd__law_same "_law_same" = true)
    (k__law_same : PySem.W.keepIn K (.ref f__law_same) = true)
    (a__law_lists : PySem.W.nsIn K mainGlobals "_law_lists" = some (some (.ref f__law_lists)))
    (l__law_lists : K.lookup f__law_lists = some ⟨oc__law_lists, od__law_lists, .func (PySem.W.fnOf "_law_lists" "_law_lists" (defArgs s__law_lists) (defBody s__law_lists) (defScope s__law_lists) .none kV__law_lists dc__law_lists pm__law_lists an__law_lists cd__law_lists ct__law_lists), sl__law_lists⟩)
    (c__law_lists_ : PySem.W.codeIn K cd__law_lists "_law_lists" = true)
    (k__law_lists : PySem.W.keepIn K (.ref f__law_lists) = true)
    (a__law_tuples : PySem.W.nsIn K mainGlobals "_law_tuples" = some (some (.ref f__law_tuples)))
    (l__law_tuples : K.lookup f__law_tuples = some ⟨oc__law_tuples, od__law_tuples, .func (PySem.W.fnOf "_law_tuples" "_law_tuples" (defArgs s__law_tuples) (defBody s__law_tuples) (defScope s__law_tuples) .none kV__law_tuples dc__law_tuples pm__law_tuples an__law_tuples cd__law_tuples ct__law_tuples), sl__law_tuples⟩)
    (c__law_tuples_ : PySem.W.codeIn K cd__law_tuples "_law_tuples" = true)
    (k__law_tuples : PySem.W.keepIn K (.ref f__law_tuples) = true)
    (a__law_is_number : PySem.W.nsIn K mainGlobals "_law_is_number" = some (some (.ref f__law_is_number)))
    (l__law_is_number : K.lookup f__law_is_number = some ⟨oc__law_is_number, od__law_is_number, .func (PySem.W.fnOf "_law_is_number" "_law_is_number" (defArgs s__law_is_number) (defBody s__law_is_number) (defScope s__law_is_number) .none kV__law_is_number dc__law_is_number pm__law_is_number an__law_is_number cd__law_is_number ct__law_is_number), sl__law_is_number⟩)
    (c__law_is_number_ : PySem.W.codeIn K cd__law_is_number "_law_is_number" = true)
    (k__law_is_number : PySem.W.keepIn K (.ref f__law_is_number) = true)
    (a__law_name_good : PySem.W.nsIn K mainGlobals "_law_name_good" = some (some (.ref f__law_name_good)))
    (l__law_name_good : K.lookup f__law_name_good = some ⟨oc__law_name_good, od__law_name_good, .func (PySem.W.fnOf "_law_name_good" "_law_name_good" (defArgs s__law_name_good) (defBody s__law_name_good) (defScope s__law_name_good) .none kV__law_name_good dc__law_name_good pm__law_name_good an__law_name_good cd__law_name_good ct__law_name_good), sl__law_name_good⟩)
    (c__law_name_good_ : PySem.W.codeIn K cd__law_name_good "_law_name_good" = true)
    (k__law_name_good : PySem.W.keepIn K (.ref f__law_name_good) = true)
    (a__law_text_good : PySem.W.nsIn K mainGlobals "_law_text_good" = some (some (.ref f__law_text_good)))
    (l__law_text_good : K.lookup f__law_text_good = some ⟨oc__law_text_good, od__law_text_good, .func (PySem.W.fnOf "_law_text_good" "_law_text_good" (defArgs s__law_text_good) (defBody s__law_text_good) (defScope s__law_text_good) .none kV__law_text_good dc__law_text_good pm__law_text_good an__law_text_good cd__law_text_good ct__law_text_good), sl__law_text_good⟩)
    (c__law_text_good_ : PySem.W.codeIn K cd__law_text_good "_law_text_good" = true)
    (k__law_text_good : PySem.W.keepIn K (.ref f__law_text_good) = true)
    (a__law_cue_good : PySem.W.nsIn K mainGlobals "_law_cue_good" = some (some (.ref f__law_cue_good)))
    (l__law_cue_good : K.lookup f__law_cue_good = some ⟨oc__law_cue_good, od__law_cue_good, .func (PySem.W.fnOf "_law_cue_good" "_law_cue_good" (defArgs s__law_cue_good) (defBody s__law_cue_good) (defScope s__law_cue_good) .none kV__law_cue_good dc__law_cue_good pm__law_cue_good an__law_cue_good cd__law_cue_good ct__law_cue_good), sl__law_cue_good⟩)
    (c__law_cue_good_ : PySem.W.codeIn K cd__law_cue_good "_law_cue_good" = true)
    (k__law_cue_good : PySem.W.keepIn K (.ref f__law_cue_good) = true)
    (a__law_due : PySem.W.nsIn K mainGlobals "_law_due" = some (some (.ref f__law_due)))
    (l__law_due : K.lookup f__law_due = some ⟨oc__law_due, od__law_due, .func (PySem.W.fnOf "_law_due" "_law_due" (defArgs s__law_due) (defBody s__law_due) (defScope s__law_due) .none kV__law_due dc__law_due pm__law_due an__law_due cd__law_due ct__law_due), sl__law_due⟩)
    (c__law_due_ : PySem.W.codeIn K cd__law_due "_law_due" = true)
    (k__law_due : PySem.W.keepIn K (.ref f__law_due) = true)
    (a__law_refusal : PySem.W.nsIn K mainGlobals "_law_refusal" = some (some (.ref f__law_refusal)))
    (l__law_refusal : K.lookup f__law_refusal = some ⟨oc__law_refusal, od__law_refusal, .func (PySem.W.fnOf "_law_refusal" "_law_refusal" (defArgs s__law_refusal) (defBody s__law_refusal) (defScope s__law_refusal) .none kV__law_refusal dc__law_refusal pm__law_refusal an__law_refusal cd__law_refusal ct__law_refusal), sl__law_refusal⟩)
    (c__law_refusal_ : PySem.W.codeIn K cd__law_refusal "_law_refusal" = true)
    (k__law_refusal : PySem.W.keepIn K (.ref f__law_refusal) = true)
    (a__law_under_base : PySem.W.nsIn K mainGlobals "_law_under_base" = some (some (.ref f__law_under_base)))
    (l__law_under_base : K.lookup f__law_under_base = some ⟨oc__law_under_base, od__law_under_base, .func (PySem.W.fnOf "_law_under_base" "_law_under_base" (defArgs s__law_under_base) (defBody s__law_under_base) (defScope s__law_under_base) .none kV__law_under_base dc__law_under_base pm__law_under_base an__law_under_base cd__law_under_base ct__law_under_base), sl__law_under_base⟩)
    (c__law_under_base_ : PySem.W.codeIn K cd__law_under_base "_law_under_base" = true)
    (k__law_under_base : PySem.W.keepIn K (.ref f__law_under_base) = true)
    (a__law_no_cue : PySem.W.nsIn K mainGlobals "_law_no_cue" = some (some (.ref f__law_no_cue)))
    (l__law_no_cue : K.lookup f__law_no_cue = some ⟨oc__law_no_cue, od__law_no_cue, .func (PySem.W.fnOf "_law_no_cue" "_law_no_cue" (defArgs s__law_no_cue) (defBody s__law_no_cue) (defScope s__law_no_cue) .none kV__law_no_cue dc__law_no_cue pm__law_no_cue an__law_no_cue cd__law_no_cue ct__law_no_cue), sl__law_no_cue⟩)
    (c__law_no_cue_ : PySem.W.codeIn K cd__law_no_cue "_law_no_cue" = true)
    (k__law_no_cue : PySem.W.keepIn K (.ref f__law_no_cue) = true)
    (a__law_words : PySem.W.nsIn K mainGlobals "_law_words" = some (some (.ref f__law_words)))
    (l__law_words : K.lookup f__law_words = some ⟨oc__law_words, od__law_words, .func (PySem.W.fnOf "_law_words" "_law_words" (defArgs s__law_words) (defBody s__law_words) (defScope s__law_words) .none kV__law_words dc__law_words pm__law_words an__law_words cd__law_words ct__law_words), sl__law_words⟩)
    (c__law_words_ : PySem.W.codeIn K cd__law_words "_law_words" = true)
    (k__law_words : PySem.W.keepIn K (.ref f__law_words) = true)
    (a__law_made : PySem.W.nsIn K mainGlobals "_law_made" = some (some (.ref f__law_made)))
    (l__law_made : K.lookup f__law_made = some ⟨oc__law_made, od__law_made, .func (PySem.W.fnOf "_law_made" "_law_made" (defArgs s__law_made) (defBody s__law_made) (defScope s__law_made) .none kV__law_made dc__law_made pm__law_made an__law_made cd__law_made ct__law_made), sl__law_made⟩)
    (c__law_made_ : PySem.W.codeIn K cd__law_made "_law_made" = true)
    (k__law_made : PySem.W.keepIn K (.ref f__law_made) = true)
    (a__law_odd_part : PySem.W.nsIn K mainGlobals "_law_odd_part" = some (some (.ref f__law_odd_part)))
    (l__law_odd_part : K.lookup f__law_odd_part = some ⟨oc__law_odd_part, od__law_odd_part, .func (PySem.W.fnOf "_law_odd_part" "_law_odd_part" (defArgs s__law_odd_part) (defBody s__law_odd_part) (defScope s__law_odd_part) .none kV__law_odd_part dc__law_odd_part pm__law_odd_part an__law_odd_part cd__law_odd_part ct__law_odd_part), sl__law_odd_part⟩)
    (c__law_odd_part_ : PySem.W.codeIn K cd__law_odd_part "_law_odd_part" = true)
    (k__law_odd_part : PySem.W.keepIn K (.ref f__law_odd_part) = true)
    (a__law_bend : PySem.W.nsIn K mainGlobals "_law_bend" = some (some (.ref f__law_bend)))
    (l__law_bend : K.lookup f__law_bend = some ⟨oc__law_bend, od__law_bend, .func (PySem.W.fnOf "_law_bend" "_law_bend" (defArgs s__law_bend) (defBody s__law_bend) (defScope s__law_bend) .none kV__law_bend dc__law_bend pm__law_bend an__law_bend cd__law_bend ct__law_bend), sl__law_bend⟩)
    (c__law_bend_ : PySem.W.codeIn K cd__law_bend "_law_bend" = true)
    (k__law_bend : PySem.W.keepIn K (.ref f__law_bend) = true)
    (a__law_things : PySem.W.nsIn K mainGlobals "_law_things" = some (some (.ref f__law_things)))
    (l__law_things : K.lookup f__law_things = some ⟨oc__law_things, od__law_things, .func (PySem.W.fnOf "_law_things" "_law_things" (defArgs s__law_things) (defBody s__law_things) (defScope s__law_things) .none kV__law_things dc__law_things pm__law_things an__law_things cd__law_things ct__law_things), sl__law_things⟩)
    (c__law_things_ : PySem.W.codeIn K cd__law_things "_law_things" = true)
    (k__law_things : PySem.W.keepIn K (.ref f__law_things) = true)
    (a__law_things_right : PySem.W.nsIn K mainGlobals "_law_things_right" = some (some (.ref f__law_things_right)))
    (l__law_things_right : K.lookup f__law_things_right = some ⟨oc__law_things_right, od__law_things_right, .func (PySem.W.fnOf "_law_things_right" "_law_things_right" (defArgs s__law_things_right) (defBody s__law_things_right) (defScope s__law_things_right) .none kV__law_things_right dc__law_things_right pm__law_things_right an__law_things_right cd__law_things_right ct__law_things_right), sl__law_things_right⟩)
    (c__law_things_right_ : PySem.W.codeIn K cd__law_things_right "_law_things_right" = true)
    (k__law_things_right : PySem.W.keepIn K (.ref f__law_things_right) = true)
    (a__law_reel_right : PySem.W.nsIn K mainGlobals "_law_reel_right" = some (some (.ref f__law_reel_right)))
    (l__law_reel_right : K.lookup f__law_reel_right = some ⟨oc__law_reel_right, od__law_reel_right, .func (PySem.W.fnOf "_law_reel_right" "_law_reel_right" (defArgs s__law_reel_right) (defBody s__law_reel_right) (defScope s__law_reel_right) .none kV__law_reel_right dc__law_reel_right pm__law_reel_right an__law_reel_right cd__law_reel_right ct__law_reel_right), sl__law_reel_right⟩)
    (c__law_reel_right_ : PySem.W.codeIn K cd__law_reel_right "_law_reel_right" = true)
    (k__law_reel_right : PySem.W.keepIn K (.ref f__law_reel_right) = true)
    (a__law_alike : PySem.W.nsIn K mainGlobals "_law_alike" = some (some (.ref f__law_alike)))
    (l__law_alike : K.lookup f__law_alike = some ⟨oc__law_alike, od__law_alike, .func (PySem.W.fnOf "_law_alike" "_law_alike" (defArgs s__law_alike) (defBody s__law_alike) (defScope s__law_alike) .none kV__law_alike dc__law_alike pm__law_alike an__law_alike cd__law_alike ct__law_alike), sl__law_alike⟩)
    (c__law_alike_ : PySem.W.codeIn K cd__law_alike "_law_alike" = true)
    (k__law_alike : PySem.W.keepIn K (.ref f__law_alike) = true)
    (a_law : PySem.W.nsIn K mainGlobals "law" = some (some (.ref f_law)))
    (l_law : K.lookup f_law = some ⟨oc_law, od_law, .func (PySem.W.fnOf "law" "law" (defArgs s_law) (defBody s_law) (defScope s_law) .none kV_law dc_law pm_law an_law cd_law ct_law), sl_law⟩)
    (c_law_ : PySem.W.codeIn K cd_law "law" = true)
    (k_law : PySem.W.keepIn K (.ref f_law) = true)
    (aCE : PySem.W.nsIn K mainGlobals "CaptionError" = some (some (.ref CE)))
    (eCE : PySem.W.subIn K (.ref CE) (.type "BaseException") = some true)
    (iCE : PySem.W.isClsIn K CE = true)
    (tCE : PySem.W.typeIn K (.ref CE) = some (.type "type"))
    (aLn : PySem.W.nsIn K mainGlobals "BadLength" = some (some (.ref CLn)))
    (xLn_ : K.lookup CLn = some (excClassObj nmLn qLn CLn NLn bsLn [.ref CE, .type "ValueError", .type "Exception", .type "BaseException", .type "object"] true snLn subLn abLn colLn ddLn m0Ln m1Ln m2Ln m3Ln m5Ln "ValueError.__new__"))
    (saLn : PySem.W.findIn K (.ref CLn) "__setattr__" = some (some (.builtin "object.__setattr__")))
    (eLn : PySem.W.subIn K (.ref CLn) (.type "BaseException") = some true)
    (vLn : PySem.W.subIn K (.ref CLn) (.type "ValueError") = some true)
    (tLn : PySem.W.typeIn K (.ref CLn) = some (.type "type"))
    (kpLn : PySem.W.keepIn K (.ref CLn) = true)
    (inLn : PySem.W.findIn K (.ref CLn) "__init__" = some (some (.ref f_iLn)))
    (tILn : PySem.W.typeIn K (.ref f_iLn) = some (.type "function"))
    (noLn : PySem.W.findIn K (.ref CLn) "length" = some none)
    (iLn : PySem.W.isClsIn K CLn = true)
    (gaLn : PySem.W.findIn K (.ref CLn) "__getattribute__" = some (some (.builtin "BaseException.__getattribute__")))
    (ggLn : PySem.W.findIn K (.ref CLn) "__getattr__" = some none)
    (klLn : PySem.W.findIn K (.ref CLn) "__class__" = some (some (.builtin "object.__class__")))
    (mrLn : PySem.W.mroIn K CLn (.type "object") = some true)
    (hdLn : PySem.W.hasDictIn K CLn = true)
    (l_iLn : K.lookup f_iLn = some ⟨oc_iLn, od_iLn, .func (PySem.W.fnOf "__init__" "BadLength.__init__" (defArgs s_BadLength___init__) (defBody s_BadLength___init__) (defScope s_BadLength___init__) .none kV_iLn dc_iLn pm_iLn an_iLn cd_iLn ct_iLn), sl_iLn⟩)
    (c_iLn_ : PySem.W.codeIn K cd_iLn "BadLength.__init__" = true)
    (k_iLn : PySem.W.keepIn K (.ref f_iLn) = true)
    (aB : PySem.W.nsIn K mainGlobals "BadCue" = some (some (.ref CB)))
    (xB_ : K.lookup CB = some (excClassObj nmB qB CB NB bsB [.ref CE, .type "ValueError", .type "Exception", .type "BaseException", .type "object"] true snB subB abB colB ddB m0B m1B m2B m3B m5B "ValueError.__new__"))
    (saB : PySem.W.findIn K (.ref CB) "__setattr__" = some (some (.builtin "object.__setattr__")))
    (eB : PySem.W.subIn K (.ref CB) (.type "BaseException") = some true)
    (vB : PySem.W.subIn K (.ref CB) (.type "ValueError") = some true)
    (tB : PySem.W.typeIn K (.ref CB) = some (.type "type"))
    (kpB : PySem.W.keepIn K (.ref CB) = true)
    (inB : PySem.W.findIn K (.ref CB) "__init__" = some (some (.ref f_iB)))
    (tIB : PySem.W.typeIn K (.ref f_iB) = some (.type "function"))
    (noB : PySem.W.findIn K (.ref CB) "number" = some none)
    (iB : PySem.W.isClsIn K CB = true)
    (gaB : PySem.W.findIn K (.ref CB) "__getattribute__" = some (some (.builtin "BaseException.__getattribute__")))
    (ggB : PySem.W.findIn K (.ref CB) "__getattr__" = some none)
    (klB : PySem.W.findIn K (.ref CB) "__class__" = some (some (.builtin "object.__class__")))
    (mrB : PySem.W.mroIn K CB (.type "object") = some true)
    (hdB : PySem.W.hasDictIn K CB = true)
    (l_iB : K.lookup f_iB = some ⟨oc_iB, od_iB, .func (PySem.W.fnOf "__init__" "BadCue.__init__" (defArgs s_BadCue___init__) (defBody s_BadCue___init__) (defScope s_BadCue___init__) .none kV_iB dc_iB pm_iB an_iB cd_iB ct_iB), sl_iB⟩)
    (c_iB_ : PySem.W.codeIn K cd_iB "BadCue.__init__" = true)
    (k_iB : PySem.W.keepIn K (.ref f_iB) = true)
    (aM : PySem.W.nsIn K mainGlobals "TooMany" = some (some (.ref CM)))
    (xM_ : K.lookup CM = some (excClassObj nmM qM CM NM bsM [.ref CE, .type "ValueError", .type "Exception", .type "BaseException", .type "object"] true snM subM abM colM ddM m0M m1M m2M m3M m5M "ValueError.__new__"))
    (saM : PySem.W.findIn K (.ref CM) "__setattr__" = some (some (.builtin "object.__setattr__")))
    (eM : PySem.W.subIn K (.ref CM) (.type "BaseException") = some true)
    (vM : PySem.W.subIn K (.ref CM) (.type "ValueError") = some true)
    (tM : PySem.W.typeIn K (.ref CM) = some (.type "type"))
    (kpM : PySem.W.keepIn K (.ref CM) = true)
    (inM : PySem.W.findIn K (.ref CM) "__init__" = some (some (.ref f_iM)))
    (tIM : PySem.W.typeIn K (.ref f_iM) = some (.type "function"))
    (noM : PySem.W.findIn K (.ref CM) "word" = some none)
    (iM : PySem.W.isClsIn K CM = true)
    (gaM : PySem.W.findIn K (.ref CM) "__getattribute__" = some (some (.builtin "BaseException.__getattribute__")))
    (ggM : PySem.W.findIn K (.ref CM) "__getattr__" = some none)
    (klM : PySem.W.findIn K (.ref CM) "__class__" = some (some (.builtin "object.__class__")))
    (mrM : PySem.W.mroIn K CM (.type "object") = some true)
    (hdM : PySem.W.hasDictIn K CM = true)
    (l_iM : K.lookup f_iM = some ⟨oc_iM, od_iM, .func (PySem.W.fnOf "__init__" "TooMany.__init__" (defArgs s_TooMany___init__) (defBody s_TooMany___init__) (defScope s_TooMany___init__) .none kV_iM dc_iM pm_iM an_iM cd_iM ct_iM), sl_iM⟩)
    (c_iM_ : PySem.W.codeIn K cd_iM "TooMany.__init__" = true)
    (k_iM : PySem.W.keepIn K (.ref f_iM) = true)
    (gt : PySem.W.specialIn K (.builtin "object.__class__") "__get__" = some (some (.builtin "getset_descriptor.__get__")))
    (tk : PySem.W.takesIn K (.builtin "object.__class__") = some true)
    (sLnLn : PySem.W.subIn K (.ref CLn) (.ref CLn) = some true)
    (sLnB : PySem.W.subIn K (.ref CLn) (.ref CB) = some false)
    (sLnM : PySem.W.subIn K (.ref CLn) (.ref CM) = some false)
    (sLnE : PySem.W.subIn K (.ref CLn) (.ref CE) = some true)
    (sBLn : PySem.W.subIn K (.ref CB) (.ref CLn) = some false)
    (sBB : PySem.W.subIn K (.ref CB) (.ref CB) = some true)
    (sBM : PySem.W.subIn K (.ref CB) (.ref CM) = some false)
    (sBE : PySem.W.subIn K (.ref CB) (.ref CE) = some true)
    (sMLn : PySem.W.subIn K (.ref CM) (.ref CLn) = some false)
    (sMB : PySem.W.subIn K (.ref CM) (.ref CB) = some false)
    (sMM : PySem.W.subIn K (.ref CM) (.ref CM) = some true)
    (sME : PySem.W.subIn K (.ref CM) (.ref CE) = some true)
    (aCR : PySem.W.nsIn K mainGlobals "Reel" = some (some (.ref CR)))
    (pgCR : PySem.W.plainGet K CR Str.empty = true)
    (hdCR : PySem.W.hasDictIn K CR = true)
    (poCR : PySem.W.plainOver K CR = true)
    (saCR : PySem.W.findIn K (.ref CR) "__setattr__" = some (some (.builtin "object.__setattr__")))
    (mkCR : PySem.W.makesIn K CR = true)
    (inCR : PySem.W.findIn K (.ref CR) "__init__" = some (some (.ref f_iR)))
    (fnCR : PySem.W.isFn K (.ref f_iR) = true)
    (kpCR : PySem.W.keepIn K (.ref CR) = true)
    (nCR_length : PySem.W.findIn K (.ref CR) "length" = some none)
    (nCR_cues : PySem.W.findIn K (.ref CR) "cues" = some none)
    (nCR__speakers : PySem.W.findIn K (.ref CR) "_speakers" = some none)
    (nCR__naming : PySem.W.findIn K (.ref CR) "_naming" = some none)
    (l_iR : K.lookup f_iR = some ⟨oc_iR, od_iR, .func (PySem.W.fnOf "__init__" "Reel.__init__" (defArgs s_Reel___init__) (defBody s_Reel___init__) (defScope s_Reel___init__) (.ref TD) kV_iR dc_iR pm_iR an_iR cd_iR ct_iR), sl_iR⟩)
    (c_iR_ : PySem.W.codeIn K cd_iR "Reel.__init__" = true)
    (klCR : PySem.W.findIn K (.ref CR) "__class__" = some (some (.builtin "object.__class__")))
    (mrCR : PySem.W.mroIn K CR (.type "object") = some true)
    (isCR : PySem.W.isClsIn K CR = true)
    (tyCR : PySem.W.typeIn K (.ref CR) = some (.type "type"))
    (sT : PySem.W.subIn K (.type "tuple") (.ref CR) = some false)
    (lTD : K.lookup TD = some oTD)
    (dTD : oTD.data = .seq #[.ref aE] nTD)
    (lE : K.lookup aE = some oE)
    (clE : oE.cls = .type "tuple")
    (dE : oE.data = .seq #[] nE)
    (a_get : PySem.W.findIn K (.ref CR) "__getitem__" = some (some (.ref f_get)))
    (i_get : PySem.W.isFn K (.ref f_get) = true)
    (n_get : PySem.W.fnIn K f_get = true)
    (l_get : K.lookup f_get = some ⟨oc_get, od_get, .func (PySem.W.fnOf "__getitem__" "Reel.__getitem__" (defArgs s_Reel___getitem__) (defBody s_Reel___getitem__) (defScope s_Reel___getitem__) .none kV_get dc_get pm_get an_get cd_get ct_get), sl_get⟩)
    (c_get_ : PySem.W.codeIn K cd_get "Reel.__getitem__" = true)
    (k_get : PySem.W.keepIn K (.ref f_get) = true)
    (a_len : PySem.W.findIn K (.ref CR) "__len__" = some (some (.ref f_len)))
    (i_len : PySem.W.isFn K (.ref f_len) = true)
    (n_len : PySem.W.fnIn K f_len = true)
    (l_len : K.lookup f_len = some ⟨oc_len, od_len, .func (PySem.W.fnOf "__len__" "Reel.__len__" (defArgs s_Reel___len__) (defBody s_Reel___len__) (defScope s_Reel___len__) .none kV_len dc_len pm_len an_len cd_len ct_len), sl_len⟩)
    (c_len_ : PySem.W.codeIn K cd_len "Reel.__len__" = true)
    (k_len : PySem.W.keepIn K (.ref f_len) = true)
    (a_iter : PySem.W.findIn K (.ref CR) "__iter__" = some (some (.ref f_iter)))
    (i_iter : PySem.W.isFn K (.ref f_iter) = true)
    (n_iter : PySem.W.fnIn K f_iter = true)
    (l_iter : K.lookup f_iter = some ⟨oc_iter, od_iter, .func (PySem.W.fnOf "__iter__" "Reel.__iter__" (defArgs s_Reel___iter__) (defBody s_Reel___iter__) (defScope s_Reel___iter__) .none kV_iter dc_iter pm_iter an_iter cd_iter ct_iter), sl_iter⟩)
    (c_iter_ : PySem.W.codeIn K cd_iter "Reel.__iter__" = true)
    (k_iter : PySem.W.keepIn K (.ref f_iter) = true)
    (a_eq : PySem.W.findIn K (.ref CR) "__eq__" = some (some (.ref f_eq)))
    (i_eq : PySem.W.isFn K (.ref f_eq) = true)
    (n_eq : PySem.W.fnIn K f_eq = true)
    (l_eq : K.lookup f_eq = some ⟨oc_eq, od_eq, .func (PySem.W.fnOf "__eq__" "Reel.__eq__" (defArgs s_Reel___eq__) (defBody s_Reel___eq__) (defScope s_Reel___eq__) .none kV_eq dc_eq pm_eq an_eq cd_eq ct_eq), sl_eq⟩)
    (c_eq_ : PySem.W.codeIn K cd_eq "Reel.__eq__" = true)
    (k_eq : PySem.W.keepIn K (.ref f_eq) = true)
    (a_sp : PySem.W.findIn K (.ref CR) "speakers" = some (some (.ref p_sp)))
    (g_sp : PySem.W.specialIn K (.ref p_sp) "__get__" = some (some (.builtin "property.__get__")))
    (tk_sp : PySem.W.takesIn K (.ref p_sp) = some true)
    (r_sp : PySem.W.recIn K p_sp "property" = some (.ref f_sp :: re_sp))
    (l_sp : K.lookup f_sp = some ⟨oc_sp, od_sp, .func (PySem.W.fnOf "speakers" "Reel.speakers" (defArgs s_Reel_speakers) (defBody s_Reel_speakers) (defScope s_Reel_speakers) .none kV_sp dc_sp pm_sp an_sp cd_sp ct_sp), sl_sp⟩)
    (c_sp_ : PySem.W.codeIn K cd_sp "Reel.speakers" = true)
    (k_sp : PySem.W.keepIn K (.ref f_sp) = true)
    (a_nm : PySem.W.findIn K (.ref CR) "naming" = some (some (.ref p_nm)))
    (g_nm : PySem.W.specialIn K (.ref p_nm) "__get__" = some (some (.builtin "property.__get__")))
    (tk_nm : PySem.W.takesIn K (.ref p_nm) = some true)
    (r_nm : PySem.W.recIn K p_nm "property" = some (.ref f_nm :: re_nm))
    (l_nm : K.lookup f_nm = some ⟨oc_nm, od_nm, .func (PySem.W.fnOf "naming" "Reel.naming" (defArgs s_Reel_naming) (defBody s_Reel_naming) (defScope s_Reel_naming) .none kV_nm dc_nm pm_nm an_nm cd_nm ct_nm), sl_nm⟩)
    (c_nm_ : PySem.W.codeIn K cd_nm "Reel.naming" = true)
    (k_nm : PySem.W.keepIn K (.ref f_nm) = true)
    (gP : PySem.W.nsIn K mainGlobals "PERCENT" = some (some (.int 37 tP)))
    (gT : PySem.W.nsIn K mainGlobals "MOST_TICKS" = some (some (.int 2000 tT)))
    (gQ : PySem.W.nsIn K mainGlobals "MOST_CUES" = some (some (.int 40 tQ)))
    (gLE : PySem.W.nsIn K mainGlobals "LETTERS" = some (some (.str LET tL)))
    (z_isinstance : PySem.W.nsIn K mainGlobals "isinstance" = some none)
    (z_int : PySem.W.nsIn K mainGlobals "int" = some none)
    (z_bool : PySem.W.nsIn K mainGlobals "bool" = some none)
    (z_str : PySem.W.nsIn K mainGlobals "str" = some none)
    (z_len : PySem.W.nsIn K mainGlobals "len" = some none)
    (z_ord : PySem.W.nsIn K mainGlobals "ord" = some none)
    (z_all : PySem.W.nsIn K mainGlobals "all" = some none)
    (z_enumerate : PySem.W.nsIn K mainGlobals "enumerate" = some none)
    (z_max : PySem.W.nsIn K mainGlobals "max" = some none)
    (z_abs : PySem.W.nsIn K mainGlobals "abs" = some none)
    (z_range : PySem.W.nsIn K mainGlobals "range" = some none)
    (z_tuple : PySem.W.nsIn K mainGlobals "tuple" = some none)
    (z_list : PySem.W.nsIn K mainGlobals "list" = some none)
    (z_sorted : PySem.W.nsIn K mainGlobals "sorted" = some none)
    (z_set : PySem.W.nsIn K mainGlobals "set" = some none)
    (z_repr : PySem.W.nsIn K mainGlobals "repr" = some none)
    (z_iter : PySem.W.nsIn K mainGlobals "iter" = some none)
    (z_ValueError : PySem.W.nsIn K mainGlobals "ValueError" = some none)
    : ∃ fd : FuncData, (∀ (s : Shared) (v : Value), BindsTo s fd ⟨[v], []⟩ [("_law_script", v)]) ∧ ∀ base : Heap, K.In base → base.Ns mainGlobals mg → FnG l.prog w K mg base CX0 9 fa fd ["_law_script"] (spLaw K) := by
  have e := hfa.symm.trans (PySem.W.mg_of X G a_law)
  cases e
  have m_isinstance := PySem.W.mg_none_of X G z_isinstance
  have m_int := PySem.W.mg_none_of X G z_int
  have m_bool := PySem.W.mg_none_of X G z_bool
  have m_str := PySem.W.mg_none_of X G z_str
  have m_len := PySem.W.mg_none_of X G z_len
  have m_ord := PySem.W.mg_none_of X G z_ord
  have m_all := PySem.W.mg_none_of X G z_all
  have m_enumerate := PySem.W.mg_none_of X G z_enumerate
  have m_max := PySem.W.mg_none_of X G z_max
  have m_abs := PySem.W.mg_none_of X G z_abs
  have m_range := PySem.W.mg_none_of X G z_range
  have m_tuple := PySem.W.mg_none_of X G z_tuple
  have m_list := PySem.W.mg_none_of X G z_list
  have m_sorted := PySem.W.mg_none_of X G z_sorted
  have m_set := PySem.W.mg_none_of X G z_set
  have m_repr := PySem.W.mg_none_of X G z_repr
  have m_iter := PySem.W.mg_none_of X G z_iter
  have m_ValueError := PySem.W.mg_none_of X G z_ValueError
  have g_PERCENT := PySem.W.mg_of X G gP
  have g_MOST_TICKS := PySem.W.mg_of X G gT
  have g_MOST_CUES := PySem.W.mg_of X G gQ
  have g_LETTERS := PySem.W.mg_of X G gLE
  have g_CE := PySem.W.mg_of X G aCE
  have F_is_integer := fun_mk (st := s_is_integer) l_is_integer c_is_integer_ k_is_integer
  have b_is_integer := F_is_integer.binds (ps := ["thing"]) fun _ _ _ _ _ _ us hl => match us, hl with | [_], _ => rfl
  have F_is_within := fun_mk (st := s_is_within) l_is_within c_is_within_ k_is_within
  have b_is_within := F_is_within.binds (ps := ["thing", "low", "high"]) fun _ _ _ _ _ _ us hl => match us, hl with | [_, _, _], _ => rfl
  have F_items_of := fun_mk (st := s_items_of) l_items_of c_items_of_ k_items_of
  have b_items_of := F_items_of.binds (ps := ["thing"]) fun _ _ _ _ _ _ us hl => match us, hl with | [_], _ => rfl
  have F_parts_of := fun_mk (st := s_parts_of) l_parts_of c_parts_of_ k_parts_of
  have b_parts_of := F_parts_of.binds (ps := ["thing", "many"]) fun _ _ _ _ _ _ us hl => match us, hl with | [_, _], _ => rfl
  have F_is_name := fun_mk (st := s_is_name) l_is_name c_is_name_ k_is_name
  have b_is_name := F_is_name.binds (ps := ["thing"]) fun _ _ _ _ _ _ us hl => match us, hl with | [_], _ => rfl
  have F_has_percent := fun_mk (st := s_has_percent) l_has_percent c_has_percent_ k_has_percent
  have b_has_percent := F_has_percent.binds (ps := ["word"]) fun _ _ _ _ _ _ us hl => match us, hl with | [_], _ => rfl
  have F_is_text := fun_mk (st := s_is_text) l_is_text c_is_text_ k_is_text
  have b_is_text := F_is_text.binds (ps := ["thing"]) fun _ _ _ _ _ _ us hl => match us, hl with | [_], _ => rfl
  have F_cue_of := fun_mk (st := s_cue_of) l_cue_of c_cue_of_ k_cue_of
  have b_cue_of := F_cue_of.binds (ps := ["thing", "earliest", "length"]) fun _ _ _ _ _ _ us hl => match us, hl with | [_, _, _], _ => rfl
  have F_judged_cues := fun_mk (st := s_judged_cues) l_judged_cues c_judged_cues_ k_judged_cues
  have b_judged_cues := F_judged_cues.binds (ps := ["length", "cues"]) fun _ _ _ _ _ _ us hl => match us, hl with | [_, _], _ => rfl
  have F__law_tape := fun_mk (st := s__law_tape) l__law_tape c__law_tape_ k__law_tape
  have b__law_tape := F__law_tape.binds (ps := ["_law_script"]) fun _ _ _ _ _ _ us hl => match us, hl with | [_], _ => rfl
  have F__law_pick := fun_mk (st := s__law_pick) l__law_pick c__law_pick_ k__law_pick
  have b__law_pick := F__law_pick.binds (ps := ["_law_tape_here", "_law_many"]) fun _ _ _ _ _ _ us hl => match us, hl with | [_, _], _ => rfl
  have F__law_some := fun_mk (st := s__law_some) l__law_some c__law_some_ k__law_some
  have b__law_some := F__law_some.binds (ps := ["_law_tape_here", "_law_low", "_law_high"]) fun _ _ _ _ _ _ us hl => match us, hl with | [_, _, _], _ => rfl
  have F__law_rarely := fun_mk (st := s__law_rarely) l__law_rarely c__law_rarely_ k__law_rarely
  have b__law_rarely := F__law_rarely.binds (ps := ["_law_tape_here", "_law_many"]) fun _ _ _ _ _ _ us hl => match us, hl with | [_, _], _ => rfl
  have F__law_names := fun_mk (st := s__law_names) l__law_names c__law_names_ k__law_names
  have b__law_names := F__law_names.binds (ps := ["_law_tape_here", "_law_many"]) fun _ _ _ _ _ _ us hl => match us, hl with | [_, _], _ => rfl
  have F__law_text := fun_mk (st := s__law_text) l__law_text c__law_text_ k__law_text
  have b__law_text := F__law_text.binds (ps := ["_law_tape_here", "_law_most"]) fun _ _ _ _ _ _ us hl => match us, hl with | [_, _], _ => rfl
  have F__law_few_text := fun_mk (st := s__law_few_text) l__law_few_text c__law_few_text_ k__law_few_text
  have b__law_few_text := F__law_few_text.binds (ps := ["_law_tape_here"]) fun _ _ _ _ _ _ us hl => match us, hl with | [_], _ => rfl
  have F__law_same := fun_mk (st := s__law_same) l__law_same c__law_same_ k__law_same
  have b__law_same := F__law_same.binds (ps := ["_law_told", "_law_due_here"]) fun _ _ _ _ _ _ us hl => match us, hl with | [_, _], _ => rfl
  have F__law_lists := fun_mk (st := s__law_lists) l__law_lists c__law_lists_ k__law_lists
  have b__law_lists := F__law_lists.binds (ps := ["_law_thing"]) fun _ _ _ _ _ _ us hl => match us, hl with | [_], _ => rfl
  have F__law_tuples := fun_mk (st := s__law_tuples) l__law_tuples c__law_tuples_ k__law_tuples
  have b__law_tuples := F__law_tuples.binds (ps := ["_law_thing"]) fun _ _ _ _ _ _ us hl => match us, hl with | [_], _ => rfl
  have F__law_is_number := fun_mk (st := s__law_is_number) l__law_is_number c__law_is_number_ k__law_is_number
  have b__law_is_number := F__law_is_number.binds (ps := ["_law_thing", "_law_low", "_law_high"]) fun _ _ _ _ _ _ us hl => match us, hl with | [_, _, _], _ => rfl
  have F__law_name_good := fun_mk (st := s__law_name_good) l__law_name_good c__law_name_good_ k__law_name_good
  have b__law_name_good := F__law_name_good.binds (ps := ["_law_thing"]) fun _ _ _ _ _ _ us hl => match us, hl with | [_], _ => rfl
  have F__law_text_good := fun_mk (st := s__law_text_good) l__law_text_good c__law_text_good_ k__law_text_good
  have b__law_text_good := F__law_text_good.binds (ps := ["_law_thing"]) fun _ _ _ _ _ _ us hl => match us, hl with | [_], _ => rfl
  have F__law_cue_good := fun_mk (st := s__law_cue_good) l__law_cue_good c__law_cue_good_ k__law_cue_good
  have b__law_cue_good := F__law_cue_good.binds (ps := ["_law_cue", "_law_low", "_law_length"]) fun _ _ _ _ _ _ us hl => match us, hl with | [_, _, _], _ => rfl
  have F__law_due := fun_mk (st := s__law_due) l__law_due c__law_due_ k__law_due
  have b__law_due := F__law_due.binds (ps := ["_law_length", "_law_cues"]) fun _ _ _ _ _ _ us hl => match us, hl with | [_, _], _ => rfl
  have F__law_refusal := fun_mk (st := s__law_refusal) l__law_refusal c__law_refusal_ k__law_refusal
  have b__law_refusal := F__law_refusal.binds (ps := ["_law_length", "_law_cues"]) fun _ _ _ _ _ _ us hl => match us, hl with | [_, _], _ => rfl
  have F__law_under_base := fun_mk (st := s__law_under_base) l__law_under_base c__law_under_base_ k__law_under_base
  have b__law_under_base := F__law_under_base.binds (ps := ["_law_length", "_law_cues"]) fun _ _ _ _ _ _ us hl => match us, hl with | [_, _], _ => rfl
  have F__law_no_cue := fun_mk (st := s__law_no_cue) l__law_no_cue c__law_no_cue_ k__law_no_cue
  have b__law_no_cue := F__law_no_cue.binds (ps := ["_law_reel", "_law_number"]) fun _ _ _ _ _ _ us hl => match us, hl with | [_, _], _ => rfl
  have F__law_words := fun_mk (st := s__law_words) l__law_words c__law_words_ k__law_words
  have b__law_words := F__law_words.binds (ps := ["_law_tape_here", "_law_speaker", "_law_names_here"]) fun _ _ _ _ _ _ us hl => match us, hl with | [_, _, _], _ => rfl
  have F__law_made := fun_mk (st := s__law_made) l__law_made c__law_made_ k__law_made
  have b__law_made := F__law_made.binds (ps := ["_law_tape_here"]) fun _ _ _ _ _ _ us hl => match us, hl with | [_], _ => rfl
  have F__law_odd_part := fun_mk (st := s__law_odd_part) l__law_odd_part c__law_odd_part_ k__law_odd_part
  have b__law_odd_part := F__law_odd_part.binds (ps := ["_law_tape_here", "_law_way", "_law_length", "_law_cue", "_law_ahead"]) fun _ _ _ _ _ _ us hl => match us, hl with | [_, _, _, _, _], _ => rfl
  have F__law_bend := fun_mk (st := s__law_bend) l__law_bend c__law_bend_ k__law_bend
  have b__law_bend := F__law_bend.binds (ps := ["_law_tape_here", "_law_length", "_law_cues", "_law_now"]) fun _ _ _ _ _ _ us hl => match us, hl with | [_, _, _, _], _ => rfl
  have F__law_things := fun_mk (st := s__law_things) l__law_things c__law_things_ k__law_things
  have b__law_things := F__law_things.binds (ps := ["_law_tape_here"]) fun _ _ _ _ _ _ us hl => match us, hl with | [_], _ => rfl
  have F__law_things_right := fun_mk (st := s__law_things_right) l__law_things_right c__law_things_right_ k__law_things_right
  have b__law_things_right := F__law_things_right.binds (ps := ["_law_things_here"]) fun _ _ _ _ _ _ us hl => match us, hl with | [_], _ => rfl
  have F__law_reel_right := fun_mk (st := s__law_reel_right) l__law_reel_right c__law_reel_right_ k__law_reel_right
  have b__law_reel_right := F__law_reel_right.binds (ps := ["_law_reel", "_law_length", "_law_cues"]) fun _ _ _ _ _ _ us hl => match us, hl with | [_, _, _], _ => rfl
  have F__law_alike := fun_mk (st := s__law_alike) l__law_alike c__law_alike_ k__law_alike
  have b__law_alike := F__law_alike.binds (ps := ["_law_reel", "_law_length", "_law_cues"]) fun _ _ _ _ _ _ us hl => match us, hl with | [_, _, _], _ => rfl
  have F_law := fun_mk (st := s_law) l_law c_law_ k_law
  have F_iLn := fun_mk (st := s_BadLength___init__) l_iLn c_iLn_ k_iLn
  have b_iLn := F_iLn.binds (ps := ["self", "length"]) fun _ _ _ _ _ _ us hl => match us, hl with | [_, _], _ => rfl
  have XLn : XC K mg "BadLength" "length" CLn f_iLn := ⟨PySem.W.mg_of X G aLn, ⟨⟨_, _, _, _, _, _, _, _, _, _, _, _, _, _, _, xLn_, rfl⟩, saLn, eLn, tLn, kpLn⟩, inLn, tILn, noLn, ⟨iLn, gaLn, ggLn, eLn, klLn, gt, tk, mrLn⟩, hdLn⟩
  have F_iB := fun_mk (st := s_BadCue___init__) l_iB c_iB_ k_iB
  have b_iB := F_iB.binds (ps := ["self", "number"]) fun _ _ _ _ _ _ us hl => match us, hl with | [_, _], _ => rfl
  have XB : XC K mg "BadCue" "number" CB f_iB := ⟨PySem.W.mg_of X G aB, ⟨⟨_, _, _, _, _, _, _, _, _, _, _, _, _, _, _, xB_, rfl⟩, saB, eB, tB, kpB⟩, inB, tIB, noB, ⟨iB, gaB, ggB, eB, klB, gt, tk, mrB⟩, hdB⟩
  have F_iM := fun_mk (st := s_TooMany___init__) l_iM c_iM_ k_iM
  have b_iM := F_iM.binds (ps := ["self", "word"]) fun _ _ _ _ _ _ us hl => match us, hl with | [_, _], _ => rfl
  have XM : XC K mg "TooMany" "word" CM f_iM := ⟨PySem.W.mg_of X G aM, ⟨⟨_, _, _, _, _, _, _, _, _, _, _, _, _, _, _, xM_, rfl⟩, saM, eM, tM, kpM⟩, inM, tIM, noM, ⟨iM, gaM, ggM, eM, klM, gt, tk, mrM⟩, hdM⟩
  have x3 : EX3 K CLn CB CM CE := ⟨exm_mk eLn iLn tLn sLnLn, exm_mk eLn iLn tLn sBLn, exm_mk eB iB tB sBB, exm_mk eLn iLn tLn sMLn, exm_mk eB iB tB sMB, exm_mk eM iM tM sMM, exm_mk eCE iCE tCE sLnE, exm_mk eCE iCE tCE sBE, exm_mk eCE iCE tCE sME, kit_two (kit_no sLnLn iB tB sLnB) (kit_no sLnLn iM tM sLnM), kit_two (kit_no sBB iLn tLn sBLn) (kit_no sBB iM tM sBM), kit_two (kit_no sMM iLn tLn sMLn) (kit_no sMM iB tB sMB), kit_ve vLn, kit_ve vB, kit_ve vM⟩
  have TR : RC K mg CR f_iR := ⟨⟨pgCR, hdCR, poCR, saCR⟩, ⟨mkCR, inCR, fnCR, kpCR⟩, PySem.W.mg_of X G aCR, nCR_length, nCR_cues, nCR__speakers, nCR__naming, klCR, gt, tk, mrCR⟩
  have F_iR : FunVE K "__init__" "Reel.__init__" s_Reel___init__ f_iR _ aE := ⟨⟨_, _, TD, _, _, _, _, _, _, _, oTD, nTD, rfl, l_iR, c_iR_, lTD, dTD⟩, ⟨oE, nE, lE, clE, dE⟩⟩
  have b_iR := reel_binds F_iR.v
  have b_iR1 := reel_binds1 F_iR
  have F_get := fun_mk (st := s_Reel___getitem__) l_get c_get_ k_get
  have b_get := F_get.binds (ps := ["self", "at"]) fun _ _ _ _ _ _ us hl => match us, hl with | [_, _], _ => rfl
  have F_len := fun_mk (st := s_Reel___len__) l_len c_len_ k_len
  have b_len := F_len.binds (ps := ["self"]) fun _ _ _ _ _ _ us hl => match us, hl with | [_], _ => rfl
  have F_iter := fun_mk (st := s_Reel___iter__) l_iter c_iter_ k_iter
  have b_iter := F_iter.binds (ps := ["self"]) fun _ _ _ _ _ _ us hl => match us, hl with | [_], _ => rfl
  have F_eq := fun_mk (st := s_Reel___eq__) l_eq c_eq_ k_eq
  have b_eq := F_eq.binds (ps := ["self", "other"]) fun _ _ _ _ _ _ us hl => match us, hl with | [_, _], _ => rfl
  have F_sp := fun_mk (st := s_Reel_speakers) l_sp c_sp_ k_sp
  have b_sp := F_sp.binds (ps := ["self"]) fun _ _ _ _ _ _ us hl => match us, hl with | [_], _ => rfl
  have F_nm := fun_mk (st := s_Reel_naming) l_nm c_nm_ k_nm
  have b_nm := F_nm.binds (ps := ["self"]) fun _ _ _ _ _ _ us hl => match us, hl with | [_], _ => rfl
  refine ⟨PySem.W.fnOf "law" "law" (defArgs s_law) (defBody s_law) (defScope s_law) .none kV_law dc_law pm_law an_law cd_law ct_law, fun s v => .of_eq rfl, fun base _ _ => ?_⟩
  have xLn : XI l.prog w K mg base "BadLength" "length" CLn := ⟨f_iLn, _, XLn, ok_iLn F_iLn, b_iLn⟩
  have xB : XI l.prog w K mg base "BadCue" "number" CB := ⟨f_iB, _, XB, ok_iB F_iB, b_iB⟩
  have xM : XI l.prog w K mg base "TooMany" "word" CM := ⟨f_iM, _, XM, ok_iM F_iM, b_iM⟩
  have c_is_integer : Cal l.prog w K mg base 1 "is_integer" spIsIntA := ⟨f_is_integer, _, _, ok_is_integerA F_is_integer m_isinstance m_int m_bool, PySem.W.mg_of X G a_is_integer, k_is_integer, b_is_integer⟩
  have c_is_within : Cal l.prog w K mg base 2 "is_within" spWithinA := ⟨f_is_within, _, _, ok_is_withinA F_is_within c_is_integer, PySem.W.mg_of X G a_is_within, k_is_within, b_is_within⟩
  have c_items_of : Cal l.prog w K mg base 1 "items_of" (spItemsA K) := ⟨f_items_of, _, _, ok_items_ofA F_items_of m_isinstance m_tuple m_list, PySem.W.mg_of X G a_items_of, k_items_of, b_items_of⟩
  have c_parts_of : Cal l.prog w K mg base 2 "parts_of" spPartsA := ⟨f_parts_of, _, _, ok_parts_ofA F_parts_of m_len c_items_of, PySem.W.mg_of X G a_parts_of, k_parts_of, b_parts_of⟩
  have c_is_name : Cal l.prog w K mg base 1 "is_name" spNameA := ⟨f_is_name, _, _, ok_is_nameA F_is_name m_isinstance m_str m_len m_all g_LETTERS, PySem.W.mg_of X G a_is_name, k_is_name, b_is_name⟩
  have c_has_percent : Cal l.prog w K mg base 1 "has_percent" spPercent := ⟨f_has_percent, _, _, ok_has_percent F_has_percent g_PERCENT m_ord, PySem.W.mg_of X G a_has_percent, k_has_percent, b_has_percent⟩
  have c_is_text : Cal l.prog w K mg base 2 "is_text" spIsText := ⟨f_is_text, _, _, ok_is_text F_is_text m_isinstance m_str m_len m_all c_has_percent, PySem.W.mg_of X G a_is_text, k_is_text, b_is_text⟩
  have c_cue_of : Cal l.prog w K mg base 3 "cue_of" spCueA := ⟨f_cue_of, _, _, ok_cue_ofA F_cue_of c_parts_of c_is_integer c_is_name c_is_text, PySem.W.mg_of X G a_cue_of, k_cue_of, b_cue_of⟩
  have c_judged_cues : CalX l.prog w K mg base 4 "judged_cues" (spJudgedA K CB CM) := ⟨f_judged_cues, _, _, ok_judged_cuesA F_judged_cues m_enumerate m_len m_tuple g_MOST_CUES xB xM c_items_of c_cue_of, PySem.W.mg_of X G a_judged_cues, k_judged_cues, b_judged_cues⟩
  have D_iR := ok_reelA (P := l.prog) (w := w) (base := base) F_iR.v m_enumerate m_tuple m_sorted m_set g_MOST_TICKS TR xLn c_is_within c_judged_cues
  have D_get := ok_itemR (P := l.prog) (w := w) (base := base) F_get TR m_len xB c_is_within
  have D_len := ok_lenR (P := l.prog) (w := w) (mg := mg) (base := base) F_len TR m_len
  have D_iter := ok_iterR (P := l.prog) (w := w) (mg := mg) (base := base) F_iter TR m_iter
  have D_eq := ok_reel_eqA (P := l.prog) (w := w) (base := base) F_eq TR m_isinstance
  have D_eqT := ok_reel_eqT (P := l.prog) (w := w) (base := base) F_eq TR m_isinstance (kit_noT isCR tyCR sT)
  have D_sp := ok_speakR (P := l.prog) (w := w) (base := base) F_sp TR
  have D_nm := ok_namingR (P := l.prog) (w := w) (base := base) F_nm TR
  have oL : OwnM l.prog w K mg base CX0 1 CR "__len__" ["self"] (spLenR CR) := ⟨f_len, _, D_len, a_len, i_len, n_len, b_len⟩
  have oG : OwnM l.prog w K mg base (L2.CX l.prog w) 3 CR "__getitem__" ["self", "at"] (spItemR CR CB) := ⟨f_get, _, D_get, a_get, i_get, n_get, b_get⟩
  have oI : OwnS l.prog w K mg base 1 CR "__iter__" ["self"] (spIterR CR) := ⟨f_iter, _, D_iter, a_iter, i_iter, b_iter⟩
  have pS : OwnP l.prog w K mg base 1 CR "speakers" (spSpeak CR) := ⟨p_sp, f_sp, _, ⟨a_sp, g_sp, tk_sp, ⟨_, r_sp⟩⟩, D_sp, b_sp⟩
  have pN : OwnP l.prog w K mg base 1 CR "naming" (spNamingR CR) := ⟨p_nm, f_nm, _, ⟨a_nm, g_nm, tk_nm, ⟨_, r_nm⟩⟩, D_nm, b_nm⟩
  have c__law_tape : Cal l.prog w K mg base 1 "_law_tape" (spTape K) := ⟨f__law_tape, _, _, ok_tape F__law_tape m_abs m_int, PySem.W.mg_of X G a__law_tape, k__law_tape, b__law_tape⟩
  have c__law_pick : Cal l.prog w K mg base 1 "_law_pick" spPick := ⟨f__law_pick, _, _, ok_pick F__law_pick m_len m_int, PySem.W.mg_of X G a__law_pick, k__law_pick, b__law_pick⟩
  have c__law_some : Cal l.prog w K mg base 2 "_law_some" spSome := ⟨f__law_some, _, _, ok_some F__law_some c__law_pick, PySem.W.mg_of X G a__law_some, k__law_some, b__law_some⟩
  have c__law_rarely : Cal l.prog w K mg base 2 "_law_rarely" spRarely := ⟨f__law_rarely, _, _, ok_rarely F__law_rarely c__law_pick, PySem.W.mg_of X G a__law_rarely, k__law_rarely, b__law_rarely⟩
  have c__law_names : Cal l.prog w K mg base 2 "_law_names" spNames := ⟨f__law_names, _, _, ok_names F__law_names m_range m_len c__law_pick, PySem.W.mg_of X G a__law_names, k__law_names, b__law_names⟩
  have c__law_text : Cal l.prog w K mg base 3 "_law_text" spText := ⟨f__law_text, _, _, ok_text F__law_text m_range m_len c__law_pick c__law_some, PySem.W.mg_of X G a__law_text, k__law_text, b__law_text⟩
  have c__law_few_text : Cal l.prog w K mg base 2 "_law_few_text" spFewText := ⟨f__law_few_text, _, _, ok_few_text F__law_few_text m_len c__law_pick, PySem.W.mg_of X G a__law_few_text, k__law_few_text, b__law_few_text⟩
  have c__law_same : Cal l.prog w K mg base 4 "_law_same" (spSame 3) := ⟨f__law_same, _, _, ok_same3 F__law_same m_isinstance m_tuple m_bool m_str m_int m_len m_all m_range (PySem.W.mg_of X G a__law_same) k__law_same b__law_same, PySem.W.mg_of X G a__law_same, k__law_same, b__law_same⟩
  have c__law_lists : Cal l.prog w K mg base 4 "_law_lists" (spListsN [60, 5, 1]) := ⟨f__law_lists, _, _, ok_lists3 F__law_lists m_isinstance m_list m_tuple (PySem.W.mg_of X G a__law_lists) k__law_lists b__law_lists, PySem.W.mg_of X G a__law_lists, k__law_lists, b__law_lists⟩
  have c__law_tuples : Cal l.prog w K mg base 4 "_law_tuples" (spTuplesN [60, 5, 1]) := ⟨f__law_tuples, _, _, ok_tuples3 F__law_tuples m_isinstance m_list m_tuple (PySem.W.mg_of X G a__law_tuples) k__law_tuples b__law_tuples, PySem.W.mg_of X G a__law_tuples, k__law_tuples, b__law_tuples⟩
  have c__law_is_number : Cal l.prog w K mg base 1 "_law_is_number" spWithinA := ⟨f__law_is_number, _, _, ok_is_numberL F__law_is_number m_isinstance m_int m_bool, PySem.W.mg_of X G a__law_is_number, k__law_is_number, b__law_is_number⟩
  have c__law_name_good : Cal l.prog w K mg base 1 "_law_name_good" spNameA := ⟨f__law_name_good, _, _, ok_name_goodL F__law_name_good m_isinstance m_str m_len m_all, PySem.W.mg_of X G a__law_name_good, k__law_name_good, b__law_name_good⟩
  have c__law_text_good : Cal l.prog w K mg base 1 "_law_text_good" spTextL := ⟨f__law_text_good, _, _, ok_text_goodL F__law_text_good m_isinstance m_str m_len, PySem.W.mg_of X G a__law_text_good, k__law_text_good, b__law_text_good⟩
  have c__law_cue_good : Cal l.prog w K mg base 2 "_law_cue_good" spCueL := ⟨f__law_cue_good, _, _, ok_cue_goodL F__law_cue_good m_isinstance m_list m_tuple m_len c__law_is_number c__law_name_good c__law_text_good, PySem.W.mg_of X G a__law_cue_good, k__law_cue_good, b__law_cue_good⟩
  have c__law_due : CalG l.prog w K mg base 3 "_law_due" spDueL := ⟨f__law_due, _, _, ok_dueL F__law_due m_isinstance m_list m_tuple m_len m_range m_repr c__law_is_number c__law_cue_good, PySem.W.mg_of X G a__law_due, k__law_due, b__law_due⟩
  have c__law_refusal : CalG l.prog w K mg base 7 "_law_refusal" spRefuseL := ⟨f__law_refusal, _, _, ok_refuseL F__law_refusal m_isinstance m_repr xLn xB xM g_CE x3 TR D_iR b_iR, PySem.W.mg_of X G a__law_refusal, k__law_refusal, b__law_refusal⟩
  have c__law_under_base : Cal l.prog w K mg base 7 "_law_under_base" spUnderL := ⟨f__law_under_base, _, _, ok_underL F__law_under_base m_isinstance m_ValueError xLn xB xM g_CE x3 TR D_iR b_iR, PySem.W.mg_of X G a__law_under_base, k__law_under_base, b__law_under_base⟩
  have c__law_no_cue : CalG l.prog w K mg base 5 "_law_no_cue" (spNoCue CR) := ⟨f__law_no_cue, _, _, ok_no_cueL F__law_no_cue m_isinstance m_repr xLn xB xM g_CE x3 D_get b_get a_get i_get n_get, PySem.W.mg_of X G a__law_no_cue, k__law_no_cue, b__law_no_cue⟩
  have c__law_words : Cal l.prog w K mg base 4 "_law_words" spWords := ⟨f__law_words, _, _, ok_words F__law_words m_len c__law_pick c__law_some c__law_few_text c__law_text, PySem.W.mg_of X G a__law_words, k__law_words, b__law_words⟩
  have c__law_made : Cal l.prog w K mg base 5 "_law_made" spMadeL := ⟨f__law_made, _, _, ok_made F__law_made m_max m_range c__law_pick c__law_some c__law_rarely c__law_names c__law_words, PySem.W.mg_of X G a__law_made, k__law_made, b__law_made⟩
  have c__law_odd_part : Cal l.prog w K mg base 2 "_law_odd_part" spOdd := ⟨f__law_odd_part, _, _, ok_odd F__law_odd_part c__law_pick, PySem.W.mg_of X G a__law_odd_part, k__law_odd_part, b__law_odd_part⟩
  have c__law_bend : Cal l.prog w K mg base 3 "_law_bend" spBend := ⟨f__law_bend, _, _, ok_bend F__law_bend m_isinstance m_list m_tuple m_len c__law_pick c__law_odd_part, PySem.W.mg_of X G a__law_bend, k__law_bend, b__law_bend⟩
  have c__law_things : Cal l.prog w K mg base 3 "_law_things" spThings := ⟨f__law_things, _, _, ok_things F__law_things m_range c__law_pick c__law_some c__law_rarely, PySem.W.mg_of X G a__law_things, k__law_things, b__law_things⟩
  have c__law_things_right : Cal l.prog w K mg base 5 "_law_things_right" spThingsR := ⟨f__law_things_right, _, _, ok_things_right F__law_things_right c__law_same c_is_name c_is_text c__law_name_good c__law_text_good, PySem.W.mg_of X G a__law_things_right, k__law_things_right, b__law_things_right⟩
  have c__law_reel_right : CalG l.prog w K mg base 8 "_law_reel_right" (spReelRt CR) := ⟨f__law_reel_right, _, _, ok_reel_right F__law_reel_right m_len m_tuple m_range m_all m_sorted TR oL oG oI pS pN c__law_same c__law_no_cue, PySem.W.mg_of X G a__law_reel_right, k__law_reel_right, b__law_reel_right⟩
  have c__law_alike : Cal l.prog w K mg base 7 "_law_alike" (spAlike CR) := ⟨f__law_alike, _, _, ok_alike F__law_alike TR D_iR b_iR b_iR1 F_iR.df D_eq D_eqT b_eq a_eq i_eq sT c__law_same c__law_lists, PySem.W.mg_of X G a__law_alike, k__law_alike, b__law_alike⟩
  exact ok_law F_law m_isinstance m_list m_range m_repr TR D_iR b_iR c__law_tape c__law_pick c__law_rarely c__law_made c__law_bend c__law_lists c__law_tuples c__law_same c__law_due c__law_refusal c__law_under_base c__law_reel_right c__law_alike c__law_things c__law_things_right
end Sea
open PySem PySem.W PyProof.Rows
set_option maxRecDepth 100000 in
set_option maxHeartbeats 0 in
theorem PySem.Challenge.cw_seamfast_k01_reels_judged_holds : PySem.Challenge.rw_seamfast_k01_reels_judged.Holds := by
  w_on; o_law; k_head; (case hw => w_witness2)
  k_fill
  refine Sea.walk_at (l := PySem.Challenge.rw_seamfast_k01_reels_judged) (n := 63) (k := 9) (x := "_law_script") (sp := fun w => Sea.spLaw _) rfl (by decide) rfl ⟨rfl, by decide, by decide⟩ (fun w h Y => PySem.W.kIn_of Y) ?F (fun _ _ a ns hl hS => ⟨a, ns, rfl, hS, hl, fun _ => rfl⟩)
  case F =>
    intro w mg fa h KX G hmg
    refine' Sea.all_mk KX G hmg ?a_is_integer ?l_is_integer ?c_is_integer_ ?k_is_integer ?a_is_within ?l_is_within ?c_is_within_ ?k_is_within ?a_items_of ?l_items_of ?c_items_of_ ?k_items_of ?a_parts_of ?l_parts_of ?c_parts_of_ ?k_parts_of ?a_is_name ?l_is_name ?c_is_name_ ?k_is_name ?a_has_percent ?l_has_percent ?c_has_percent_ ?k_has_percent ?a_is_text ?l_is_text ?c_is_text_ ?k_is_text ?a_cue_of ?l_cue_of ?c_cue_of_ ?k_cue_of ?a_judged_cues ?l_judged_cues ?c_judged_cues_ ?k_judged_cues ?a__law_tape ?l__law_tape ?c__law_tape_ ?k__law_tape ?a__law_pick ?l__law_pick ?c__law_pick_ ?k__law_pick ?a__law_some ?l__law_some ?c__law_some_ ?k__law_some ?a__law_rarely ?l__law_rarely ?c__law_rarely_ ?k__law_rarely ?a__law_names ?l__law_names ?c__law_names_ ?k__law_names ?a__law_text ?l__law_text ?c__law_text_ ?k__law_text ?a__law_few_text ?l__law_few_text ?c__law_few_text_ ?k__law_few_text ?a__law_same ?l__law_same ?c__law_same_ ?k__law_same ?a__law_lists ?l__law_lists ?c__law_lists_ ?k__law_lists ?a__law_tuples ?l__law_tuples ?c__law_tuples_ ?k__law_tuples ?a__law_is_number ?l__law_is_number ?c__law_is_number_ ?k__law_is_number ?a__law_name_good ?l__law_name_good ?c__law_name_good_ ?k__law_name_good ?a__law_text_good ?l__law_text_good ?c__law_text_good_ ?k__law_text_good ?a__law_cue_good ?l__law_cue_good ?c__law_cue_good_ ?k__law_cue_good ?a__law_due ?l__law_due ?c__law_due_ ?k__law_due ?a__law_refusal ?l__law_refusal ?c__law_refusal_ ?k__law_refusal ?a__law_under_base ?l__law_under_base ?c__law_under_base_ ?k__law_under_base ?a__law_no_cue ?l__law_no_cue ?c__law_no_cue_ ?k__law_no_cue ?a__law_words ?l__law_words ?c__law_words_ ?k__law_words ?a__law_made ?l__law_made ?c__law_made_ ?k__law_made ?a__law_odd_part ?l__law_odd_part ?c__law_odd_part_ ?k__law_odd_part ?a__law_bend ?l__law_bend ?c__law_bend_ ?k__law_bend ?a__law_things ?l__law_things ?c__law_things_ ?k__law_things ?a__law_things_right ?l__law_things_right ?c__law_things_right_ ?k__law_things_right ?a__law_reel_right ?l__law_reel_right ?c__law_reel_right_ ?k__law_reel_right ?a__law_alike ?l__law_alike ?c__law_alike_ ?k__law_alike ?a_law ?l_law ?c_law_ ?k_law ?aCE ?eCE ?iCE ?tCE ?aLn ?xLn_ ?saLn ?eLn ?vLn ?tLn ?kpLn ?inLn ?tILn ?noLn ?iLn ?gaLn ?ggLn ?klLn ?mrLn ?hdLn ?l_iLn ?c_iLn_ ?k_iLn ?aB ?xB_ ?saB ?eB ?vB ?tB ?kpB ?inB ?tIB ?noB ?iB ?gaB ?ggB ?klB ?mrB ?hdB ?l_iB ?c_iB_ ?k_iB ?aM ?xM_ ?saM ?eM ?vM ?tM ?kpM ?inM ?tIM ?noM ?iM ?gaM ?ggM ?klM ?mrM ?hdM ?l_iM ?c_iM_ ?k_iM ?gt ?tk ?sLnLn ?sLnB ?sLnM ?sLnE ?sBLn ?sBB ?sBM ?sBE ?sMLn ?sMB ?sMM ?sME ?aCR ?pgCR ?hdCR ?poCR ?saCR ?mkCR ?inCR ?fnCR ?kpCR ?nCR_length ?nCR_cues ?nCR__speakers ?nCR__naming ?l_iR ?c_iR_ ?klCR ?mrCR ?isCR ?tyCR ?sT ?lTD ?dTD ?lE ?clE ?dE ?a_get ?i_get ?n_get ?l_get ?c_get_ ?k_get ?a_len ?i_len ?n_len ?l_len ?c_len_ ?k_len ?a_iter ?i_iter ?n_iter ?l_iter ?c_iter_ ?k_iter ?a_eq ?i_eq ?n_eq ?l_eq ?c_eq_ ?k_eq ?a_sp ?g_sp ?tk_sp ?r_sp ?l_sp ?c_sp_ ?k_sp ?a_nm ?g_nm ?tk_nm ?r_nm ?l_nm ?c_nm_ ?k_nm ?gP ?gT ?gQ ?gLE ?z_isinstance ?z_int ?z_bool ?z_str ?z_len ?z_ord ?z_all ?z_enumerate ?z_max ?z_abs ?z_range ?z_tuple ?z_list ?z_sorted ?z_set ?z_repr ?z_iter ?z_ValueError
    (case a_is_integer => k_is)
    (case l_is_integer => k_is)
    (case c_is_integer_ => k_is)
    (case k_is_integer => k_is)
    (case a_is_within => k_is)
    (case l_is_within => k_is)
    (case c_is_within_ => k_is)
    (case k_is_within => k_is)
    (case a_items_of => k_is)
    (case l_items_of => k_is)
    (case c_items_of_ => k_is)
    (case k_items_of => k_is)
    (case a_parts_of => k_is)
    (case l_parts_of => k_is)
    (case c_parts_of_ => k_is)
    (case k_parts_of => k_is)
    (case a_is_name => k_is)
    (case l_is_name => k_is)
    (case c_is_name_ => k_is)
    (case k_is_name => k_is)
    (case a_has_percent => k_is)
    (case l_has_percent => k_is)
    (case c_has_percent_ => k_is)
    (case k_has_percent => k_is)
    (case a_is_text => k_is)
    (case l_is_text => k_is)
    (case c_is_text_ => k_is)
    (case k_is_text => k_is)
    (case a_cue_of => k_is)
    (case l_cue_of => k_is)
    (case c_cue_of_ => k_is)
    (case k_cue_of => k_is)
    (case a_judged_cues => k_is)
    (case l_judged_cues => k_is)
    (case c_judged_cues_ => k_is)
    (case k_judged_cues => k_is)
    (case a__law_tape => k_is)
    (case l__law_tape => k_is)
    (case c__law_tape_ => k_is)
    (case k__law_tape => k_is)
    (case a__law_pick => k_is)
    (case l__law_pick => k_is)
    (case c__law_pick_ => k_is)
    (case k__law_pick => k_is)
    (case a__law_some => k_is)
    (case l__law_some => k_is)
    (case c__law_some_ => k_is)
    (case k__law_some => k_is)
    (case a__law_rarely => k_is)
    (case l__law_rarely => k_is)
    (case c__law_rarely_ => k_is)
    (case k__law_rarely => k_is)
    (case a__law_names => k_is)
    (case l__law_names => k_is)
    (case c__law_names_ => k_is)
    (case k__law_names => k_is)
    (case a__law_text => k_is)
    (case l__law_text => k_is)
    (case c__law_text_ => k_is)
    (case k__law_text => k_is)
    (case a__law_few_text => k_is)
    (case l__law_few_text => k_is)
    (case c__law_few_text_ => k_is)
    (case k__law_few_text => k_is)
    (case a__law_same => k_is)
    (case l__law_same => k_is)
    (case c__law_same_ => k_is)
    (case k__law_same => k_is)
    (case a__law_lists => k_is)
    (case l__law_lists => k_is)
    (case c__law_lists_ => k_is)
    (case k__law_lists => k_is)
    (case a__law_tuples => k_is)
    (case l__law_tuples => k_is)
    (case c__law_tuples_ => k_is)
    (case k__law_tuples => k_is)
    (case a__law_is_number => k_is)
    (case l__law_is_number => k_is)
    (case c__law_is_number_ => k_is)
    (case k__law_is_number => k_is)
    (case a__law_name_good => k_is)
    (case l__law_name_good => k_is)
    (case c__law_name_good_ => k_is)
    (case k__law_name_good => k_is)
    (case a__law_text_good => k_is)
    (case l__law_text_good => k_is)
    (case c__law_text_good_ => k_is)
    (case k__law_text_good => k_is)
    (case a__law_cue_good => k_is)
    (case l__law_cue_good => k_is)
    (case c__law_cue_good_ => k_is)
    (case k__law_cue_good => k_is)
    (case a__law_due => k_is)
    (case l__law_due => k_is)
    (case c__law_due_ => k_is)
    (case k__law_due => k_is)
    (case a__law_refusal => k_is)
    (case l__law_refusal => k_is)
    (case c__law_refusal_ => k_is)
    (case k__law_refusal => k_is)
    (case a__law_under_base => k_is)
    (case l__law_under_base => k_is)
    (case c__law_under_base_ => k_is)
    (case k__law_under_base => k_is)
    (case a__law_no_cue => k_is)
    (case l__law_no_cue => k_is)
    (case c__law_no_cue_ => k_is)
    (case k__law_no_cue => k_is)
    (case a__law_words => k_is)
    (case l__law_words => k_is)
    (case c__law_words_ => k_is)
    (case k__law_words => k_is)
    (case a__law_made => k_is)
    (case l__law_made => k_is)
    (case c__law_made_ => k_is)
    (case k__law_made => k_is)
    (case a__law_odd_part => k_is)
    (case l__law_odd_part => k_is)
    (case c__law_odd_part_ => k_is)
    (case k__law_odd_part => k_is)
    (case a__law_bend => k_is)
    (case l__law_bend => k_is)
    (case c__law_bend_ => k_is)
    (case k__law_bend => k_is)
    (case a__law_things => k_is)
    (case l__law_things => k_is)
    (case c__law_things_ => k_is)
    (case k__law_things => k_is)
    (case a__law_things_right => k_is)
    (case l__law_things_right => k_is)
    (case c__law_things_right_ => k_is)
    (case k__law_things_right => k_is)
    (case a__law_reel_right => k_is)
    (case l__law_reel_right => k_is)
    (case c__law_reel_right_ => k_is)
    (case k__law_reel_right => k_is)
    (case a__law_alike => k_is)
    (case l__law_alike => k_is)
    (case c__law_alike_ => k_is)
    (case k__law_alike => k_is)
    (case a_law => k_is)
    (case l_law => k_is)
    (case c_law_ => k_is)
    (case k_law => k_is)
    (case aCE => k_is)
    (case eCE => k_is)
    (case iCE => k_is)
    (case tCE => k_is)
    (case aLn => k_is)
    (case xLn_ => k_is)
    (case saLn => k_is)
    (case eLn => k_is)
    (case vLn => k_is)
    (case tLn => k_is)
    (case kpLn => k_is)
    (case inLn => k_is)
    (case tILn => k_is)
    (case noLn => k_is)
    (case iLn => k_is)
    (case gaLn => k_is)
    (case ggLn => k_is)
    (case klLn => k_is)
    (case mrLn => k_is)
    (case hdLn => k_is)
    (case l_iLn => k_is)
    (case c_iLn_ => k_is)
    (case k_iLn => k_is)
    (case aB => k_is)
    (case xB_ => k_is)
    (case saB => k_is)
    (case eB => k_is)
    (case vB => k_is)
    (case tB => k_is)
    (case kpB => k_is)
    (case inB => k_is)
    (case tIB => k_is)
    (case noB => k_is)
    (case iB => k_is)
    (case gaB => k_is)
    (case ggB => k_is)
    (case klB => k_is)
    (case mrB => k_is)
    (case hdB => k_is)
    (case l_iB => k_is)
    (case c_iB_ => k_is)
    (case k_iB => k_is)
    (case aM => k_is)
    (case xM_ => k_is)
    (case saM => k_is)
    (case eM => k_is)
    (case vM => k_is)
    (case tM => k_is)
    (case kpM => k_is)
    (case inM => k_is)
    (case tIM => k_is)
    (case noM => k_is)
    (case iM => k_is)
    (case gaM => k_is)
    (case ggM => k_is)
    (case klM => k_is)
    (case mrM => k_is)
    (case hdM => k_is)
    (case l_iM => k_is)
    (case c_iM_ => k_is)
    (case k_iM => k_is)
    (case gt => k_is)
    (case tk => k_is)
    (case sLnLn => k_is)
    (case sLnB => k_is)
    (case sLnM => k_is)
    (case sLnE => k_is)
    (case sBLn => k_is)
    (case sBB => k_is)
    (case sBM => k_is)
    (case sBE => k_is)
    (case sMLn => k_is)
    (case sMB => k_is)
    (case sMM => k_is)
    (case sME => k_is)
    (case aCR => k_is)
    (case pgCR => k_is)
    (case hdCR => k_is)
    (case poCR => k_is)
    (case saCR => k_is)
    (case mkCR => k_is)
    (case inCR => k_is)
    (case fnCR => k_is)
    (case kpCR => k_is)
    (case nCR_length => k_is)
    (case nCR_cues => k_is)
    (case nCR__speakers => k_is)
    (case nCR__naming => k_is)
    (case l_iR => k_is)
    (case c_iR_ => k_is)
    (case klCR => k_is)
    (case mrCR => k_is)
    (case isCR => k_is)
    (case tyCR => k_is)
    (case sT => k_is)
    (case lTD => k_is)
    (case dTD => rfl)
    (case lE => k_is)
    (case clE => rfl)
    (case dE => rfl)
    (case a_get => k_is)
    (case i_get => k_is)
    (case n_get => k_is)
    (case l_get => k_is)
    (case c_get_ => k_is)
    (case k_get => k_is)
    (case a_len => k_is)
    (case i_len => k_is)
    (case n_len => k_is)
    (case l_len => k_is)
    (case c_len_ => k_is)
    (case k_len => k_is)
    (case a_iter => k_is)
    (case i_iter => k_is)
    (case n_iter => k_is)
    (case l_iter => k_is)
    (case c_iter_ => k_is)
    (case k_iter => k_is)
    (case a_eq => k_is)
    (case i_eq => k_is)
    (case n_eq => k_is)
    (case l_eq => k_is)
    (case c_eq_ => k_is)
    (case k_eq => k_is)
    (case a_sp => k_is)
    (case g_sp => k_is)
    (case tk_sp => k_is)
    (case r_sp => k_is)
    (case l_sp => k_is)
    (case c_sp_ => k_is)
    (case k_sp => k_is)
    (case a_nm => k_is)
    (case g_nm => k_is)
    (case tk_nm => k_is)
    (case r_nm => k_is)
    (case l_nm => k_is)
    (case c_nm_ => k_is)
    (case k_nm => k_is)
    (case gP => k_is)
    (case gT => k_is)
    (case gQ => k_is)
    (case gLE => k_is)
    (case z_isinstance => k_is)
    (case z_int => k_is)
    (case z_bool => k_is)
    (case z_str => k_is)
    (case z_len => k_is)
    (case z_ord => k_is)
    (case z_all => k_is)
    (case z_enumerate => k_is)
    (case z_max => k_is)
    (case z_abs => k_is)
    (case z_range => k_is)
    (case z_tuple => k_is)
    (case z_list => k_is)
    (case z_sorted => k_is)
    (case z_set => k_is)
    (case z_repr => k_is)
    (case z_iter => k_is)
    (case z_ValueError => k_is)
