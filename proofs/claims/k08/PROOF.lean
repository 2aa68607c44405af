import PyProof.Rows.All
import Wide.All
import OpenK.AllK
import Wide.FinOn
import KE.KMinKey
import KE.KExcIs
import HandS.ForMost
import HandS.Walk
import HandS.SortKw
import HandS.Exc
import HandS.ExcInit
import HandS.ExcField
import HandS.TryMany
import HandS.IsInst
import HandS.WordsExc
import HandS.StrMore
import HandS.CallSlots
import HandS.Codes
import HandS.Set
import HandS.Strs
import HandS.SetFor
import PyProof.WalksS
import HandS.Zip0
import HandS.FStr
import HandS.Defaults
import HandS.OwnEq
import PySem.Challenge.RW_seamfast_k08_reel_lines
set_option Elab.async false
set_option linter.all false
set_option maxRecDepth 100000
set_option maxHeartbeats 4000000
/-! enumerate over a text, as something that a for or a comprehension walks. -/
namespace Sea
open PySem PySem.Spec PyProof.Rows L2
/-- the signs of x, each with its number, in a new pair -/
def Iens (x : Str) : It where
  go := fun i _ => i < x.cps.size
  yld := fun i H v H' => ∃ T c, v = .ref T ∧ H T = none ∧ x.cps[i]? = some c ∧ H' = upd H T (.tup [.int (i : Nat), .str ⟨#[c]⟩])
  stop := fun i _ => x.cps.size ≤ i
theorem drawsOf {prog : Program} {w : World} {A : Around} (hh : A.handled = none) (it : Addr) (x : Str) (t : Tok) :
    Draws prog w A it [it] x.cps.size (fun i v => ∃ c u, x.cps[i]? = some c ∧ v = .str ⟨#[c]⟩ u)
      (fun i h => h.IsStrIter it (strIterType x) x t i) := by
  unfold strIterType
  cases x.cps.all (· < 128)
  · exact Draws.strWide hh it x t
  · exact Draws.strAscii hh it x t
theorem turn_ens {P : Program} {w : World} {K : PySem.W.Frag} {elts : List Expr} {kk : Nat} {tpos : Pos}
    (x : Str) (t : Tok) (e it : Addr) (hne : e ≠ it) :
    Turn P w K (.Tuple elts kk tpos) (Iens x) [e, it] e
      (fun i h => (∃ old, IsEnum h e it ((i : Nat) : Int) old) ∧ h.IsStrIter it (strIterType x) x t i) where
  mem := List.mem_cons_self
  obj := fun i h st b hb => by
    obtain ⟨⟨old, he⟩, o, ho, hc, hd⟩ := st
    rcases List.mem_cons.mp hb with z | z
    · subst z
      exact ⟨_, he, fun v q => nomatch q⟩
    · rw [List.mem_singleton.mp z]
      exact ⟨o, ho, fun v q => by rw [hd] at q; cases q⟩
  keep := fun i h h' st k => by
    obtain ⟨⟨old, he⟩, o, ho, r⟩ := st
    exact ⟨⟨old, k e List.mem_cons_self _ he⟩, o, k it (List.mem_cons_of_mem _ List.mem_cons_self) o ho, r⟩
  item := by
    intro X hP hw hK hc i pins s σ H E I hf st hg
    subst hP
    subst hw
    subst hK
    obtain ⟨⟨old, he⟩, hit⟩ := st
    have hel : e < s.heap.objs.size := Heap.lt_size he
    have hil : it < s.heap.objs.size := by
      obtain ⟨_, q, _⟩ := hit
      exact Heap.lt_size q
    have D := drawsOf (prog := X.prog) (w := X.w) (A := X.A.in1) (I.ok.hd hc) it x t
    refine wpAny_pyNext_enum_itemD D he hit hg hne (fun q => hne (List.mem_singleton.mp q)) fun y h' tk hP ho hit' hT hsz hk => ?_
    obtain ⟨c, u, hcx, rfl⟩ := hP
    refine ⟨_, rfl, wpAny_letOwnedTupleGo_enum (s := ⟨h', s.gens, s.drawn, tk + 1, s.os⟩) ho fun h2 he2 sb => ?_⟩
    have hT2 : h2.get? s.heap.objs.size = some { cls := .type "tuple", data := .seq #[.int i tk, .str ⟨#[c]⟩ u] } :=
      (sb.2 _ (Nat.ne_of_gt hel)).trans hT
    have nw : ObjOk X.prog X.w (upd H s.heap.objs.size (.tup [.int (i : Nat), .str ⟨#[c]⟩])) h2 s.heap.objs.size (.tup [.int (i : Nat), .str ⟨#[c]⟩]) :=
      ⟨by show 2 ≤ sizeLine; decide, [.int i tk, .str ⟨#[c]⟩ u], .cons ⟨_, rfl⟩ (.cons ⟨_, rfl⟩ .nil), ⟨_, hT2, rfl, _, rfl⟩⟩
    have kk2 : ∀ b ob, b ∉ [e, it] → s.heap.get? b = some ob → h2.get? b = some ob := fun b ob hb q => by
      have b1 : b ≠ e := fun z => hb (z ▸ List.mem_cons_self)
      have b2 : b ≠ it := fun z => hb (z ▸ List.mem_cons_of_mem _ List.mem_cons_self)
      exact (sb.2 b b1).trans (hk b ob b1 b2 q)
    have J : Inv X pins σ (upd H s.heap.objs.size (.tup [.int (i : Nat), .str ⟨#[c]⟩])) ⟨h2, s.gens, s.drawn, tk + 1, s.os⟩ :=
      I.turnedNew (t' := tk + 1) kk2 hf (Nat.le_refl _) nw
    refine ⟨.ref s.heap.objs.size, _, J, rfl, ⟨_, c, rfl, I.hok.fresh (Nat.le_refl _), hcx, rfl⟩, ⟨⟨.str ⟨#[c]⟩ u, ?_⟩, ?_⟩, fun b hb => ?_⟩
    · have e1 : ((i + 1 : Nat) : Int) = (i : Int) + 1 := Int.natCast_succ i
      rw [e1]
      exact he2
    · obtain ⟨o, ho2, r⟩ := hit'
      exact ⟨o, (sb.2 it hne.symm).trans ho2, r⟩
    · have hlt : b < s.heap.objs.size := by
        rcases List.mem_cons.mp hb with z | z
        · exact z ▸ hel
        · exact (List.mem_singleton.mp z) ▸ hil
      rw [upd_ne (Nat.ne_of_lt hlt)]
      exact (hf b hb).1
  done := by
    intro X hP hw hK hc i pins s σ H E I hf st hg
    subst hP
    subst hw
    subst hK
    obtain ⟨⟨old, he⟩, hit⟩ := st
    obtain ⟨f0, f1, f2, f3, f4, f5⟩ := hf it (List.mem_cons_of_mem _ List.mem_cons_self)
    have hx : x.cps[i]? = none := Array.getElem?_eq_none hg
    have hT : s.TypeIs (.ref e) "enumerate" := ⟨_, he, rfl⟩
    unfold pyNext
    refine wpAny_bind (wpAny_attempt (wpAny_callSpecial?_slot (name := Str.ofString "__next__") hT F.slot_enumerate_next
      (wpAny_call_entry F.slot_enumerate_next hT F.entry_enumerate_next ?_ (F.args_enumerate_next_1 _))))
    show wpAny _ _ (field (.ref e) 2 >>= _) _ _ _
    refine wpAny_bind (wpAny_field he rfl (x := .ref it) rfl ?_)
    have fin : ∀ h' z, Heap.ExtBut it s.heap h' → (∃ o, h'.get? z = some o ∧ o.cls = .type "StopIteration") →
        Inv X pins σ H { s with heap := h' } := fun h' z eb _ => I.turned (t' := s.toks) (fun b o hb q => eb b o hb q) f0 f1 f3 f4 f5
    unfold strIterType at hit
    cases ha : x.cps.all (· < 128)
    · rw [ha] at hit
      refine wpAny_bind (wpAny_nextOf_wide_end (I.ok.hd hc) hit hx fun h' z eb hs => ?_)
      obtain ⟨o, ho, hcl⟩ := id hs
      refine wpAny_bind (wpAny_isInstance (T := "StopIteration") (b := true) ⟨o, ho, hcl⟩ isSubtype_stop ?_)
      exact wpAny_pure ⟨rfl, fin h' z eb hs⟩
    · rw [ha] at hit
      refine wpAny_bind (wpAny_nextOf_ascii_end (I.ok.hd hc) hit hx fun h' z eb hs => ?_)
      obtain ⟨o, ho, hcl⟩ := id hs
      refine wpAny_bind (wpAny_isInstance (T := "StopIteration") (b := true) ⟨o, ho, hcl⟩ isSubtype_stop ?_)
      exact wpAny_pure ⟨rfl, fin h' z eb hs⟩
  self := fun A i s Q E st h => by
    obtain ⟨⟨_, he⟩, _⟩ := st
    exact wpAny_pyIter_enum he h
def iEnS (ta : TA) : TI := fun σ H R => ta σ H fun vs H1 => ∃ x, vs = [.str x] ∧ R (Iens x) H1
theorem pi_ens {X : Cx} {e : Expr} {ta : TA} {p pos tpos : Pos} {elts : List Expr} {kk : Nat} (hg : Gl X "enumerate") (hm : X.mg "enumerate" = none)
    (ha : PA X [e] ta) (hs : starEach [e] X.env = [(false, eval e X.env)] := by rfl) :
    PI X (.Tuple elts kk tpos) (.Call (.Name "enumerate" p) [e] [] pos) (iEnS ta) := by
  refine ⟨fun pins s σ H R I h => ?_⟩
  refine Call_ (ld_blt I hg hm boot_enumerate (PyProof.Rows.callWith_type1 (thn (ha.run pos pins s σ H _ I h)
    fun us s1 ⟨vs, H1, I1, r1, x, ex, q⟩ => ?_) hs rfl))
  subst ex
  cases r1 with
  | cons r rr =>
    cases rr
    obtain ⟨t, rfl⟩ := r
    refine call_enumerate_str fun h' he hit hsz hk => wpAny_pyIter_enum he ?_
    have I2 : Inv X pins σ H1 { s1 with heap := h' } := I1.kept (t' := s1.toks) hk
    have ne : s1.heap.objs.size + 1 ≠ s1.heap.objs.size := Nat.succ_ne_self _
    refine ⟨s1.heap.objs.size + 1, [s1.heap.objs.size + 1, s1.heap.objs.size], _, _, H1, rfl, I2, turn_ens x t _ _ ne, ⟨⟨.none, he⟩, hit⟩, fun b hb => ?_, q⟩
    have hle : s1.heap.objs.size ≤ b := by
      rcases List.mem_cons.mp hb with z | z
      · exact z ▸ Nat.le_succ _
      · exact (List.mem_singleton.mp z) ▸ Nat.le_refl _
    exact I1.fpOk hle (I1.hok.fresh hle)
/-- the turns of it, for for_it and lc_it -/
theorem walk_ens {x : Str} : Walk (Iens x) x.cps.size (fun _ => True)
    (fun i H v H' => ∃ T c, v = .ref T ∧ H T = none ∧ x.cps[i]? = some c ∧ H' = upd H T (.tup [.int (i : Nat), .str ⟨#[c]⟩])) :=
  ⟨fun _ _ hi _ => hi, fun _ _ => Nat.le_refl _, fun _ _ _ _ _ _ y => y⟩
end Sea
/-! min(list, key = an own def of one parameter that changes nothing and gives an int): the first item of the least key. -/
namespace Sea
open PySem PySem.Spec PyProof.Rows L2
/-- kf at i is the least, and stands first -/
def LeastAt (kf : Nat → Int) (n i : Nat) : Prop := i < n ∧ ∀ j, j < n → kf i ≤ kf j ∧ (j < i → kf i < kf j)
section
variable {X : Cx} {pins : List (Addr × Obj)} {σ : L2.St} {H : Hp} {Q : VK} {k : Nat} {f a : Addr} {fd : FuncData} {p : Str} {sp : Sp} {ys : List V} {kf : Nat → Int}
theorem FpOk.nostk {s : Shared} {b : Addr} (I : Inv X pins σ H s) (h : FpOk X pins H b) : b ∉ frs X.stack := fun z => by
  rcases List.mem_cons.mp (I.stkSub b z) with e | e
  · exact h.2.1 e
  · exact h.2.2.1 e
/-- the key of one item is asked -/
theorem key_turn (F : FnOk X.prog X.w X.K X.mg X.base CX0 k f fd [p] sp) (hr : Room (k + 1) X.A) (hb : Binds X.K fd [p] [])
    {s : Shared} {y : V} {v : Value} {n : Int} (I : Inv X pins σ H s) (ry : RelV y v) (hsp : sp [y] H (fun u H' => u = .int n ∧ H' = H) E0) {E : Value → Shared → Prop} :
    wpAny (model X.prog X.w) X.A.in1 (call (.ref f) [v]) (fun u s' => (∃ t, u = .int n t) ∧ Inv X pins σ H s' ∧
      ∀ b o, FpOk X pins H b → s.heap.get? b = some o → s'.heap.get? b = some o) E s := by
  refine wpAny_call (codeAny_mono (F.run X.A.in1 X.stack s H ⟨[v], []⟩ ([v] ++ []) [y] _ E0 hr.in1 I.env0.in1 (hb s [v] I.kIn rfl) (.cons ry .nil) hsp) fun r s' hq => ?_)
  cases r with
  | error e => exact False.elim hq
  | ok fl =>
    cases fl with
    | ret u =>
      obtain ⟨y', H', os, bare, un, hok, r', q1, q2⟩ := hq
      subst q1
      subst q2
      refine ⟨r', I.call' (ch := []) os un hok bare (fun b z => nomatch z), fun b o fp e => ?_⟩
      exact un.keep b o e fp.1 (FpOk.nostk (s := s) I fp) (fun z => nomatch z)
    | next => exact False.elim hq
    | brk => exact False.elim hq
    | cont => exact False.elim hq
theorem under_min (A : Around) (z : Args) : A.under (.builtin "min.loop" z) = A.in1 := Around.under_plainId PySem.F.plain_min_loop _
theorem minkey_loop (hc : X.calm = true) (F : FnOk X.prog X.w X.K X.mg X.base CX0 k f fd [p] sp) (hr : Room (k + 1) X.A) (hb : Binds X.K fd [p] [])
    (hq : SqL X.K H a ys) (hk : ∀ i y, ys[i]? = some y → sp [y] H (fun u H' => u = .int (kf i) ∧ H' = H) E0)
    (hQ : ∀ i y, ys[i]? = some y → LeastAt kf ys.length i → Q y H) {I S : Addr} (fI : FpOk X pins H I) (fS : FpOk X pins H S) (hIS : I ≠ S) :
    ∀ (r j i : Nat) (s : Shared) (y : V) (vb : Value) (tb : Tok) (c : Nat), ys.length - (j + 1) = r → j + 1 ≤ ys.length → Inv X pins σ H s →
      s.heap.IsListIter I a (j + 1) → s.heap.get? S = some (seqObj "list" #[vb, .int (kf i) tb] c) → ys[i]? = some y → RelV y vb → i ≤ j →
      (∀ j', j' ≤ j → kf i ≤ kf j' ∧ (j' < i → kf i < kf j')) →
      codeAny (model X.prog X.w) X.A (.builtin "min.loop" ⟨[.ref I, .ref f, .ref S], []⟩)
        (fun r s' => match r with | .ok (.ret v) => EP X pins σ Q v s' | .ok _ => False | .error e => X.xe e s') s := by
  have hname : (toString "min" ++ toString ".loop" : String) = "min.loop" := by decide
  intro r
  induction r with
  | zero =>
    intro j i s y vb tb c er hj J hit hS hy ry hij hbest
    have ej : j + 1 = ys.length := by omega
    obtain ⟨its, rv, pl, hz⟩ := J.list hq
    have hlen := rv.length
    refine codeAny_builtin PySem.F.entry_min_loop ?_
    rw [under_min]
    show wpAny _ X.A.in1 (seqItems? (.ref S) >>= _) _ _ _
    refine wpAny_bind (wpAny_seqItems hS rfl ?_)
    show wpAny _ X.A.in1 (tryCatch (pyNext (.ref I)) _ >>= _) _ _ _
    refine wpAny_bind (wpAny_tryCatch (wpAny_pyNext_list_end (J.ok.hd hc) hit pl.isList (by simp; omega) fun h' eb => ?_))
    have J1 : Inv X pins σ H { s with heap := h' } := J.turned (t' := s.toks) (fun b o hb e => eb b o hb e) fI.1 fI.2.1 fI.2.2.2.1 fI.2.2.2.2.1 fI.2.2.2.2.2
    have hS1 : h'.get? S = some (seqObj "list" #[vb, .int (kf i) tb] c) := eb S _ hIS.symm hS
    show wpAny _ X.A.in1 (updateSeq S (fun _ => #[]) >>= _) _ _ _
    refine wpAny_bind (wpAny_updateSeq hS1 rfl (wpAny_bind (wpAny_letGo (wpAny_pure ?_))))
    have sb := Heap.SameBut.update h' S (Obj.mapSeq fun _ => (#[] : Array Value))
    refine ⟨y, H, J1.turned (t' := s.toks) (fun b o hb e => (sb.2 b hb).trans e) fS.1 fS.2.1 fS.2.2.2.1 fS.2.2.2.2.1 fS.2.2.2.2.2, ry, hQ i y hy ⟨by omega, fun j' hj' => hbest j' (by omega)⟩⟩
  | succ r ih =>
    intro j i s y vb tb c er hj J hit hS hy ry hij hbest
    have hlt : j + 1 < ys.length := by omega
    obtain ⟨its, rv, pl, hz⟩ := J.list hq
    obtain ⟨u, hu, ru⟩ := rv.get (show ys[j + 1]? = some ys[j + 1] from List.getElem?_eq_getElem hlt)
    refine codeAny_builtin PySem.F.entry_min_loop ?_
    rw [under_min]
    show wpAny _ X.A.in1 (seqItems? (.ref S) >>= _) _ _ _
    refine wpAny_bind (wpAny_seqItems hS rfl ?_)
    show wpAny _ X.A.in1 (tryCatch (pyNext (.ref I)) _ >>= _) _ _ _
    refine wpAny_bind (wpAny_tryCatch (wpAny_pyNext_list_item hit pl.isList (x := u) (by simpa using hu) fun h' hit' sb => ?_))
    have J1 : Inv X pins σ H { s with heap := h' } := J.turned (t' := s.toks) (fun b o hb e => (sb.2 b hb).trans e) fI.1 fI.2.1 fI.2.2.2.1 fI.2.2.2.2.1 fI.2.2.2.2.2
    have hS1 : h'.get? S = some (seqObj "list" #[vb, .int (kf i) tb] c) := (sb.2 S hIS.symm).trans hS
    show wpAny _ X.A.in1 (tryCatch (holding [u] (call (.ref f) [u])) _ >>= _) _ _ _
    refine wpAny_bind (wpAny_tryCatch (wpAny_holding (wpAny_mono (key_turn F hr hb J1 ru (hk (j + 1) _ (List.getElem?_eq_getElem hlt)) (E := fun _ _ => False)) (fun w2 s2 he => ?_) fun _ _ hF => hF.elim)))
    obtain ⟨⟨t2, rfl⟩, J2, kp⟩ := he
    obtain ⟨oI, hoI, hcI, hdI⟩ := hit'
    have hI2 : s2.heap.IsListIter I a (j + 1 + 1) := ⟨oI, kp I oI fI hoI, hcI, hdI⟩
    have hS2 := kp S _ fS hS1
    show wpAny _ X.A.in1 (tryCatch (holding [u, .int (kf (j + 1)) t2] (richCompare .Lt (.int (kf (j + 1)) t2) (.int (kf i) tb) >>= _)) _ >>= _) _ _ _
    refine wpAny_bind (wpAny_tryCatch (wpAny_holding (wpAny_bind (CmpOf.ints_lt (prog := X.prog) (w := X.w) (A := X.A.in1) (P := fun i v => ∃ t, v = .int (kf i) t) kf (fun i v h => h) (j + 1) i _ _ _ _ _ ⟨t2, rfl⟩ ⟨tb, rfl⟩ ?_))))
    refine wpAny_bind (wpAny_holding (wpAny_truthy_bool ?_))
    refine wpAny_bind (wpAny_letGo (wpAny_pure ?_))
    by_cases less : kf (j + 1) < kf i
    · simp only [less, decide_true, if_true]
      have s1 := Heap.SameBut.update s2.heap S (Obj.mapSeq fun _ => #[u, .int (kf (j + 1)) t2])
      obtain ⟨c2, hc2⟩ : ∃ c2, (s2.heap.update S (Obj.mapSeq fun _ => #[u, .int (kf (j + 1)) t2])).get? S = some (seqObj "list" #[u, .int (kf (j + 1)) t2] c2) := ⟨_, get?_update_seq hS2 fun _ => #[u, .int (kf (j + 1)) t2]⟩
      refine wpAny_bind ?_
      refine wpAny_updateSeq hS2 rfl (wpAny_bind (wpAny_letGo ?_))
      rw [hname]
      refine wpAny_pure ⟨plainId_quiet PySem.F.plain_min_loop _, ih (j + 1) (j + 1) _ _ u t2 c2 (by omega) hlt
        (J2.turned (t' := s2.toks) (fun b o hb e => (s1.2 b hb).trans e) fS.1 fS.2.1 fS.2.2.2.1 fS.2.2.2.2.1 fS.2.2.2.2.2) ?_ hc2 (List.getElem?_eq_getElem hlt) ru (Nat.le_refl _) fun j' hj' => ?_⟩
      · obtain ⟨o, h1, h2, h3⟩ := hI2
        exact ⟨o, (s1.2 I hIS).trans h1, h2, h3⟩
      · by_cases e : j' = j + 1
        · subst e
          exact ⟨Int.le_refl _, fun z => absurd z (Nat.lt_irrefl _)⟩
        · have b1 := (hbest j' (by omega)).1
          exact ⟨by omega, fun _ => by omega⟩
    · simp only [less, decide_false, Bool.false_eq_true, if_false]
      refine wpAny_bind (wpAny_letGo ?_)
      rw [hname]
      refine wpAny_pure ⟨plainId_quiet PySem.F.plain_min_loop _, ih (j + 1) i _ y vb tb c (by omega) hlt J2 hI2 hS2 hy ry (by omega) fun j' hj' => ?_⟩
      by_cases e : j' = j + 1
      · subst e
        exact ⟨by omega, fun z => absurd z (by omega)⟩
      · exact hbest j' (by omega)
/-- what is asked of min(xs, key = f) -/
def rMinKey (K : PySem.W.Frag) (f : Addr) (sp : Sp) : List V → List V → Hp → VK → Prop := fun xs zs H Q => ∃ (a : Addr) (ys : List V) (kf : Nat → Int),
  xs = [.ref a] ∧ zs = [.ref f] ∧ SqL K H a ys ∧ 0 < ys.length ∧ (∀ i y, ys[i]? = some y → sp [y] H (fun u H' => u = .int (kf i) ∧ H' = H) E0) ∧
  ∀ i y, ys[i]? = some y → LeastAt kf ys.length i → Q y H
theorem minkey_tree {pr : Program} {w : World} {A : Around} {E : Value → Shared → Prop} {s : Shared} {args : List Value} {kw : List (Str × Value)} {Q : Value → Shared → Prop}
    (ha : argsOk "min" ⟨args, kw⟩)
    (h : wpAny (model pr w) A.in1 (Builtin.«min» ⟨args, kw⟩) (fun fin s' => match fin with
      | .done g => (match (Except.ok g : Result) with | .ok (.ret v) => Q v s' | .ok _ => False | .error e => E e s')
      | .again c' => c'.quiet = true ∧ codeAny (model pr w) A c' (fun r s' => match r with | .ok (.ret v) => Q v s' | .ok _ => False | .error e => E e s') s') E s) :
    wpAny (model pr w) A (call (.builtin "min") args kw) Q E s :=
  kmk_tree PySem.F.kind_min PySem.F.plain_min PySem.F.entry_min ha h
theorem cr_minKey (hc : X.calm = true) (F : FnOk X.prog X.w X.K X.mg X.base CX0 k f fd [p] sp) (hr : Room (k + 1) X.A) (hb : Binds X.K fd [p] []) :
    CallRK X (.builtin "min") [Str.ofString "key"] (rMinKey X.K f sp) := by
  intro pins s σ H xs zs us ws Q J r1 r2 h
  obtain ⟨a, ys, kf, rfl, rfl, hq, hne, hk, hQ⟩ := h
  cases r1 with
  | cons ra rr =>
  cases rr
  cases r2 with
  | cons rf rr =>
  cases rr
  cases ra
  cases rf
  have hname : (toString "min" ++ toString ".loop" : String) = "min.loop" := by decide
  obtain ⟨its, rv, pl, hz⟩ := J.list hq
  refine minkey_tree (kmk_min_key _ _) ?_
  show wpAny _ X.A.in1 (Builtin.Builtins.bindParams "min" ["key", "default"] 0 ⟨[], [(Str.ofString "key", .ref f)]⟩ >>= _) _ _ s
  refine wpAny_bind (wpAny_of_eq (show Builtin.Builtins.bindParams "min" ["key", "default"] 0 ⟨[], [(Str.ofString "key", .ref f)]⟩ = pure [some (.ref f), none] from rfl) ?_)
  refine wpAny_bind (wpAny_pure ?_)
  refine wpAny_bind (wpAny_pyIter_list pl.isList ?_)
  refine wpAny_bind (wpAny_newList ?_ (Nat.zero_le _))
  rw [hname]
  refine wpAny_pure ⟨plainId_quiet PySem.F.plain_min_loop _, ?_⟩
  generalize eO : ({ cls := .type "list_iterator", data := .fields #[.ref a, .int 0 0] } : Obj) = oIt
  have hz1 : (s.heap.push oIt).objs.size = s.heap.objs.size + 1 := Heap.size_push ..
  have gI : ((s.heap.push oIt).push (seqObj "list" #[] 0)).get? s.heap.objs.size = some oIt := Heap.get?_push_of_some _ (Heap.get?_push_size _ (by rw [← eO]; rfl))
  have gS : ((s.heap.push oIt).push (seqObj "list" #[] 0)).get? (s.heap.push oIt).objs.size = some (seqObj "list" #[] 0) := Heap.get?_push_size _ rfl
  have kp : ∀ b o, s.heap.get? b = some o → ((s.heap.push oIt).push (seqObj "list" #[] 0)).get? b = some o := fun b o e => Heap.get?_push_of_some _ (Heap.get?_push_of_some _ e)
  have J0 : Inv X pins σ H { s with heap := (s.heap.push oIt).push (seqObj "list" #[] 0) } := J.kept (t' := s.toks) kp
  rw [hz1] at gS
  show codeAny _ _ (.builtin "min.loop" ⟨[.ref s.heap.objs.size, .ref f, .ref (s.heap.push oIt).objs.size], []⟩) _ _
  rw [hz1]
  have fI : FpOk X pins H s.heap.objs.size := J.fpOk (Nat.le_refl _) (J.hok.fresh (Nat.le_refl _))
  have fS : FpOk X pins H (s.heap.objs.size + 1) := J.fpOk (Nat.le_succ _) (J.hok.fresh (Nat.le_succ _))
  have hIS : s.heap.objs.size ≠ s.heap.objs.size + 1 := Nat.ne_of_lt (Nat.lt_succ_self _)
  have hit0 : ((s.heap.push oIt).push (seqObj "list" #[] 0)).IsListIter s.heap.objs.size a 0 := ⟨oIt, gI, by rw [← eO], by rw [← eO]; rfl⟩
  generalize ((s.heap.push oIt).push (seqObj "list" #[] 0)) = h0 at J0 gS hit0
  obtain ⟨its, rv, pl, hz⟩ := J0.list hq
  obtain ⟨u, hu, ru⟩ := rv.get (show ys[0]? = some ys[0] from List.getElem?_eq_getElem hne)
  refine codeAny_builtin PySem.F.entry_min_loop ?_
  rw [under_min]
  show wpAny _ X.A.in1 (seqItems? (.ref _) >>= _) _ _ _
  refine wpAny_bind (wpAny_seqItems gS rfl ?_)
  show wpAny _ X.A.in1 (tryCatch (pyNext (.ref s.heap.objs.size)) _ >>= _) _ _ _
  refine wpAny_bind (wpAny_tryCatch (wpAny_pyNext_list_item hit0 pl.isList (x := u) (by simpa using hu) fun h' hit' sb => ?_))
  have J1 : Inv X pins σ H { s with heap := h' } := J0.turned (t' := s.toks) (fun b o hb e => (sb.2 b hb).trans e) fI.1 fI.2.1 fI.2.2.2.1 fI.2.2.2.2.1 fI.2.2.2.2.2
  have hS1 : h'.get? (s.heap.objs.size + 1) = some (seqObj "list" #[] 0) := (sb.2 _ hIS.symm).trans gS
  show wpAny _ X.A.in1 (tryCatch (holding [u] (call (.ref f) [u])) _ >>= _) _ _ _
  refine wpAny_bind (wpAny_tryCatch (wpAny_holding (wpAny_mono (key_turn F hr hb J1 ru (hk 0 _ (List.getElem?_eq_getElem hne)) (E := fun _ _ => False)) (fun w2 s2 he => ?_) fun _ _ hF => hF.elim)))
  obtain ⟨⟨t2, rfl⟩, J2, kp2⟩ := he
  obtain ⟨oI, hoI, hcI, hdI⟩ := hit'
  have hI2 : s2.heap.IsListIter s.heap.objs.size a (0 + 1) := ⟨oI, kp2 _ oI fI hoI, hcI, hdI⟩
  have hS2 := kp2 _ _ fS hS1
  have s1 := Heap.SameBut.update s2.heap (s.heap.objs.size + 1) (Obj.mapSeq fun _ => #[u, .int (kf 0) t2])
  obtain ⟨c2, hc2⟩ : ∃ c2, (s2.heap.update (s.heap.objs.size + 1) (Obj.mapSeq fun _ => #[u, .int (kf 0) t2])).get? (s.heap.objs.size + 1) = some (seqObj "list" #[u, .int (kf 0) t2] c2) := ⟨_, get?_update_seq hS2 fun _ => #[u, .int (kf 0) t2]⟩
  show wpAny _ X.A.in1 (updateSeq (s.heap.objs.size + 1) (fun _ => #[u, .int (kf 0) t2]) >>= _) _ _ _
  refine wpAny_bind ?_
  refine wpAny_updateSeq hS2 rfl ?_
  rw [hname]
  refine wpAny_pure ⟨plainId_quiet PySem.F.plain_min_loop _, minkey_loop hc F hr hb hq hk hQ fI fS hIS _ 0 0 _ _ u t2 c2 rfl hne
    (J2.turned (t' := s2.toks) (fun b o hb e => (s1.2 b hb).trans e) fS.1 fS.2.1 fS.2.2.2.1 fS.2.2.2.2.1 fS.2.2.2.2.2) ?_ hc2 (List.getElem?_eq_getElem hne) ru (Nat.le_refl _) fun j' hj' => ?_⟩
  · obtain ⟨o, h1, h2, h3⟩ := hI2
    exact ⟨o, (s1.2 _ hIS).trans h1, h2, h3⟩
  · have e : j' = 0 := Nat.le_zero.mp hj'
    subst e
    exact ⟨Int.le_refl _, fun z => absurd z (Nat.lt_irrefl _)⟩
end
end Sea
/-! isinstance of the error that a suite holds, of an own class with fields, against a class or a written tuple of classes; powers of great numbers. -/
namespace Sea
open PySem PySem.Spec PyProof.Rows L2
/-- the class at D may be asked about -/
structure AskC (K : PySem.W.Frag) (D : Addr) : Prop where
  cl : (PySem.W.clsIn K D).isSome = true
  ga : PySem.W.findIn K (.ref D) "__getattribute__" = some (some (.builtin "BaseException.__getattribute__"))
  gg : PySem.W.findIn K (.ref D) "__getattr__" = some none
  sb : PySem.W.subIn K (.ref D) (.type "BaseException") = some true
  kl : PySem.W.findIn K (.ref D) "__class__" = some (some (.builtin "object.__class__"))
  gt : PySem.W.specialIn K (.builtin "object.__class__") "__get__" = some (some (.builtin "getset_descriptor.__get__"))
  tk : PySem.W.takesIn K (.builtin "object.__class__") = some true
  mr : PySem.W.mroIn K D (.type "object") = some true
/-- isinstance(e, c) and isinstance(e, (c1, ..)), e the error at a -/
def rAsk (K : PySem.W.Frag) (a : Addr) (cls : Value) (d : Option Addr) : List V → Hp → VK → Prop := fun xs H Q => ∃ (D dd : Addr) (fs : List (Str × V)) (c : V) (b : Bool),
  cls = .ref D ∧ d = some dd ∧ AskC K D ∧ H dd = some (.xd fs) ∧ xs = [.ref a, c] ∧
  ((∃ cv, ClsV c cv ∧ PySem.W.kitOne K (.ref D) cv = some b) ∨ ∃ (tp : Addr) (cs : List V) (us : List Value), c = .ref tp ∧ H tp = some (.tup cs) ∧ Paired ClsV cs us ∧ PySem.W.kitAny K (.ref D) us = some b) ∧ Q (.bl b) H
theorem call_ask {X : Cx} {a : Addr} {cls : Value} {d : Option Addr} {oe : Obj} {pn : List (Addr × Obj)} (hz : Zc cls d oe) (hf : ∃ vs, oe.data = .fields vs) :
    CallR (X.suite a ((a, oe) :: pn)) (.builtin "isinstance") (rAsk X.K a cls d) := by
  intro pins s σ H xs us Q I r h
  obtain ⟨D, dd, fs, c, b, rfl, rfl, C, hd, rfl, ways, q⟩ := h
  obtain ⟨u1, u2, rfl, r1, r2⟩ := vals2 r
  cases (show u1 = Value.ref a from r1)
  obtain ⟨hget, _⟩ := I.pin (a, oe) (List.mem_append.mpr (.inl List.mem_cons_self))
  obtain ⟨vs, hv⟩ := hf
  have hx : ObjOk X.prog X.w H s.heap dd (.xd fs) := I.hok dd _ hd
  obtain ⟨mA, hns, hr⟩ := hx
  obtain ⟨od, ho, hl⟩ := lookIn_ns hns
  have J : PySem.W.InstAt s.heap a oe D (some od) := ⟨hget, hz.1, by unfold PySem.W.notCls; rw [hv] <;> rfl, by rw [hz.2]; exact ho⟩
  have Z := PySem.W.kitx_exc (K := X.K) (x := a) (ox := oe) (od := some od) C.cl C.ga C.gg C.sb C.kl C.gt C.tk C.mr
  rcases ways with ⟨cv, k, e⟩ | ⟨tp, cs, ws, rfl, ht, k, e⟩
  · have e2 := k.eq r2
    subst e2
    exact PySem.W.kia_one Z I.kIn J e (fun z => nomatch z) fun tk => ⟨.bl b, H, I.tok tk, rfl, q⟩
  · cases (show u2 = Value.ref tp from r2)
    obtain ⟨_, its, rv, o, h1, h2, n, h3⟩ := (show ObjOk X.prog X.w H s.heap tp (.tup cs) from I.hok tp _ ht)
    have e3 := ClsV.all k rv
    subst e3
    obtain ⟨oc, odd, dt, sl⟩ := o
    simp only at h2 h3
    subst h2 h3
    exact PySem.W.kia_tup Z I.kIn J h1 e (fun z => nomatch z) fun tk => ⟨.bl b, H, I.tok tk, rfl, q⟩
/-- a ** b, by the bits of a -/
def CPowB (i j : Int) : Prop := 0 ≤ j ∧ (Builtin.Int.intBits i : Int) * j ≤ 2 ^ 27
theorem op_powB {X : Cx} : OpR X (binaryOp .Pow) (rI CPowB fun i j => .int (i ^ j.toNat)) := opI fun _ _ _ _ _ _ _ hc q => pow_int hc.1 hc.2 q
end Sea
/-! try with several clauses, each with a name for the error or without one. -/
namespace Sea
open PySem PySem.Spec PyProof.Rows L2
abbrev Su := Addr → Value → Option Addr → TS
/-- behind a suite the error's name is gone -/
def gone (i : Nat) (D : Ends) : Ends :=
  { nx := fun σ H => D.nx (σ.set i none) H, rt := D.rt, bk := fun σ H => D.bk (σ.set i none) H, ct := fun σ H => D.ct (σ.set i none) H }
/-- what the clauses, from the first on, wish of the error -/
def wCl (K : PySem.W.Frag) (Wo : WX) (D : Ends) : List (Value × Option Nat × Su) → WX
  | [] => Wo
  | (c, none, ts) :: r => fun cls d σ H => ∃ b, PySem.W.exmOne K cls c = some b ∧ (b = true → ∀ a, H a = none → ts a cls d D σ H) ∧ (b = false → wCl K Wo D r cls d σ H)
  | (c, some i, ts) :: r => fun cls d σ H => ∃ b, PySem.W.exmOne K cls c = some b ∧
      (b = true → ∀ a, H a = none → ts a cls d (gone i D) (σ.set i (some (.ref a))) H) ∧ (b = false → wCl K Wo D r cls d σ H)
def SuOk (X : Cx) (st : List Stmt) (ts : Su) : Prop := ∀ (a : Addr) (oe : Obj) (cls : Value) (d : Option Addr) (pn : List (Addr × Obj)),
  Zc cls d oe → (∃ vs, oe.data = .fields vs) → PSs (X.suite a ((a, oe) :: pn)) st (ts a cls d)
inductive Clauses (X : Cx) : List ExceptHandler → List (Value × Option Nat × Su) → Prop
  | nil : Clauses X [] []
  | bare {x : Str} {c : Value} {ts : Su} {b₀ : Stmt} {su : List Stmt} {np ps : Pos} {hds : List ExceptHandler} {l : List (Value × Option Nat × Su)}
      (hc : Names X x c) (hs : SuOk X (b₀ :: su) ts) (r : Clauses X hds l) : Clauses X (.ExceptHandler (some (.Name x np)) none (b₀ :: su) ps :: hds) ((c, none, ts) :: l)
  | named {x n : Str} {c : Value} {i : Nat} {ts : Su} {b₀ : Stmt} {su : List Stmt} {np ps : Pos} {hds : List ExceptHandler} {l : List (Value × Option Nat × Su)}
      (hc : Names X x c) (hi : X.N[i]? = some n) (hl : X.env.kindOf n = some .local) (hs : SuOk X (b₀ :: su) ts) (r : Clauses X hds l) :
      Clauses X (.ExceptHandler (some (.Name x np)) (some n) (b₀ :: su) ps :: hds) ((c, some i, ts) :: l)
section
variable {X : Cx} {body : List Stmt} {h₀ : ExceptHandler} {hds : List ExceptHandler} {l : List (Value × Option Nat × Su)} {pos : Pos} {tb : WX → TS} {Wo : WX}
theorem names_ld {a : Addr} {oe : Obj} {pn : List (Addr × Obj)} {x : Str} {c : Value} {np : Pos} {σ : L2.St} {H : Hp} {s : Shared} {Q E : Value → Shared → Prop}
    (hc : Names X x c) (S : Inv (X.suite a ((a, oe) :: pn)) [] σ H s) (q : Q c s) :
    wpAny (model X.prog X.w) (X.A.mark (some (.ref a))) (eval (.Name x np) X.env) Q E s := by
  obtain ⟨hg, hdbg, hm | ⟨hm, hv, hnn⟩⟩ := hc
  · exact ld_glob (X := X.suite a ((a, oe) :: pn)) S hg hm q hdbg
  · exact ld_blt (X := X.suite a ((a, oe) :: pn)) S hg hm hv q hnn hdbg
theorem ps_try_cl (hs : X.stack = X.env :: X.outer) (hf : X.env.frame = some X.env.locals) (hN : X.N.Nodup) (tk : Takes X Wo)
    (hb : ∀ (W : WX) (pn : List (Addr × Obj)) (xe : Value → Shared → Prop), Takes (X.tr pn xe) W → PassesOwn (model X.prog X.w) X.A X.env xe → PSs (X.tr pn xe) body (tb W))
    (hh : Clauses X (h₀ :: hds) l) : PS X (.Try body (h₀ :: hds) [] [] pos) (fun D σ H => tb (wCl X.K Wo D l) D σ H) := by
  refine ⟨fun pins s σ H D I h => ?_⟩
  have ok := I.ok
  have hfr : X.A.frames = some (X.env :: X.outer) := ok.frames.trans (congrArg some hs)
  refine wpAny_Try_except ?_
  refine wpAny_mono ((hb (wCl X.K Wo D l) (X.pn ++ pins) (fun e s1 => wpAny (model X.prog X.w) X.A (noteFrame e X.env)
    (fun _ s2 => wpAny (model X.prog X.w) X.A (setFlight e none)
      (fun _ s3 => wpAny (model X.prog X.w) X.A (handleBy e X.env (h₀ :: hds)) (SP X pins D) X.xe s3) X.xe s2) X.xe s1)
    (fun u s' xx => ?cat) PassesOwn.looking).run [] s σ H D (I.toTry _) h) (fun f s1 hsp => ?thru) (fun e s1 he => he)
  case thru =>
    cases f with
    | next => obtain ⟨σ', H', J', q⟩ := hsp; exact wpAny_execs_nil ⟨σ', H', J'.ofTry ok, q⟩
    | brk => obtain ⟨σ', H', J', q⟩ := hsp; exact ⟨σ', H', J'.ofTry ok, q⟩
    | cont => obtain ⟨σ', H', J', q⟩ := hsp; exact ⟨σ', H', J'.ofTry ok, q⟩
    | ret u => obtain ⟨v, σ', H', J', r, q⟩ := hsp; exact ⟨v, σ', H', J'.ofTry ok, r, q⟩
  case cat =>
    obtain ⟨a, B, sI, pins', σ', H', cls, d, rfl, J', nb, up, sky, na, os, ag, w⟩ := xx
    have J : Inv X pins σ' H' sI := J'.ofTry ok
    have sk : Sky B (X.env :: X.outer) a (Zc cls d) X.env.locals s'.heap := hs ▸ sky
    show wpAny (model X.prog X.w) X.A (noteFrame (.ref a) X.env) _ _ _
    refine Sky.land Zc.steady hfr hf sk fun h3 fl3 up3 => ?_
    have J3 : Inv X pins σ' H' { s' with heap := h3 } := J.landed nb fl3.1 (up.trans up3) os ag
    obtain ⟨oe3, vs3, he3, hz3, hd3⟩ := fl3.there
    have nfr : a ∉ frs (X.env :: X.outer) := fun hm => by
      obtain ⟨_, o', e', hnf⟩ := fl3.2.2.1.mem hm
      rw [he3] at e'
      cases e'
      exact hnf _ hd3
    have nL : a ≠ X.env.locals := fun z => nfr (List.mem_filterMap.mpr ⟨X.env, List.mem_cons_self, hf.trans (congrArg some z.symm)⟩)
    have nF : a ∉ X.fs := fun hm => by
      obtain ⟨e, he, q⟩ := List.mem_filterMap.mp hm
      exact nfr (List.mem_filterMap.mpr ⟨e, List.mem_cons_of_mem _ he, q⟩)
    have S3 := J3.suite he3 hd3 na nL nF
    have LT : PySem.W.Looks (model X.prog X.w) h3 (typeOf (.ref a)) cls :=
      fun A Q E s k q => wpAny_typeOf_ref (k _ _ he3) (by rw [hz3.1]; exact q)
    have go : ∀ {hs' : List ExceptHandler} {l' : List (Value × Option Nat × Su)}, Clauses X hs' l' → wCl X.K Wo D l' cls d σ' H' →
        wpAny (model X.prog X.w) X.A (handleBy (.ref a) X.env hs') (SP X pins D) X.xe { s' with heap := h3 } := by
      intro hs' l' hk
      induction hk with
      | nil =>
        intro w
        refine wpAny_handleBy_nil ?_
        obtain ⟨_, _, _, oe, vs, T, oT, ts', he, hz, hd, h1, hr⟩ := id fl3
        unfold PySem.passOn
        refine wpAny_bind (wpAny_field he hd h1 ?_)
        rw [if_neg (show ¬ ((Value.ref T == Value.none) = true) from by simp)]
        have out : wpAny (model X.prog X.w) X.A (setFlight (.ref a) X.env.frame)
            (fun _ s4 => wpAny (model X.prog X.w) X.A (throw (.ref a) : Sem Flow) (SP X pins D) X.xe s4) X.xe { s' with heap := h3 } := by
          rw [hf]
          refine HandSPX.setFlight_upZ fl3 fun h4 hh4 up4 => wpAny_throw (tk _ _ ?_)
          refine ⟨a, B, sI, pins, σ', H', cls, d, rfl, J, nb, (up.trans up3).trans up4, .inr (.inr ?_), na, os, ag, w⟩
          rw [hs]
          exact hh4
        first
          | exact wpAny_bind (wpAny_pure (wpAny_bind out))
          | exact wpAny_bind out
      | @bare x c ts b₀ su np ps hds2 l2 hc hsu r ih =>
        intro w
        obtain ⟨b, hb1, hyes, hno⟩ := w
        refine wpAny_handleBy_cons (codeAny_handlers_test ?_) (by intro q; cases q)
        have LM := PySem.W.exm_one (M := model X.prog X.w) J3.kIn LT hb1
        refine names_ld hc S3 (LM.here ?_)
        cases b with
        | false => exact ih (hno rfl)
        | true =>
          refine codeAny_handlers_suite ?_
          refine HandSPX.lands_againZ fl3 fun h4 fl4 up4 => ?_
          have J4 : Inv X pins σ' H' { s' with heap := h4 } := J.landed nb fl4.1 ((up.trans up3).trans up4) os ag
          obtain ⟨oe4, vs4, he4, hz4, hd4⟩ := fl4.there
          have S4 := J4.suite he4 hd4 na nL nF
          refine wpAny_mono ((hsu a oe4 cls d (X.pn ++ pins) hz4 ⟨_, hd4⟩).run [] _ _ H' _ S4 (hyes rfl a na)) (fun f s6 hsp => ?_) (fun _ _ z => False.elim z)
          cases f with
          | next => obtain ⟨σ6, H6, S6, q6⟩ := hsp; exact ⟨_, _, S6.unsuite ok, q6⟩
          | brk => obtain ⟨σ6, H6, S6, q6⟩ := hsp; exact ⟨_, _, S6.unsuite ok, q6⟩
          | cont => obtain ⟨σ6, H6, S6, q6⟩ := hsp; exact ⟨_, _, S6.unsuite ok, q6⟩
          | ret u => obtain ⟨v6, σ6, H6, S6, r6, q6⟩ := hsp; exact ⟨_, _, _, S6.unsuite ok, r6, q6⟩
      | @named x n c i ts b₀ su np ps hds2 l2 hc hi hln hsu r ih =>
        intro w
        obtain ⟨b, hb1, hyes, hno⟩ := w
        refine wpAny_handleBy_cons (codeAny_handlers_test ?_) (by intro q; cases q)
        have LM := PySem.W.exm_one (M := model X.prog X.w) J3.kIn LT hb1
        refine names_ld hc S3 (LM.here ?_)
        cases b with
        | false => exact ih (hno rfl)
        | true =>
          refine codeAny_handlers_suite_as ?_
          refine HandSPX.lands_againZ fl3 fun h4 fl4 up4 => ?_
          have J4 : Inv X pins σ' H' { s' with heap := h4 } := J.landed nb fl4.1 ((up.trans up3).trans up4) os ag
          obtain ⟨oe4, vs4, he4, hz4, hd4⟩ := fl4.there
          have S4 := J4.suite he4 hd4 na nL nF
          refine store_ok (X := X.suite a ((a, oe4) :: (X.pn ++ pins))) (v := .ref a) S4 hN hi (.inl hln) rfl (fun s5 S5 => ?_) (.inr hln)
          refine wpAny_mono ((hsu a oe4 cls d (X.pn ++ pins) hz4 ⟨_, hd4⟩).run [] s5 _ H' _ S5 (hyes rfl a na)) (fun f s6 hsp => ?_) (fun _ _ z => False.elim z)
          have fin : ∀ {σ6 : L2.St} {H6 : Hp} {Q : Shared → Prop}, Inv (X.suite a ((a, oe4) :: (X.pn ++ pins))) [] σ6 H6 s6 → (∀ s7, Inv X pins (σ6.set i none) H6 s7 → Q s7) →
              wpAny (model X.prog X.w) X.A (do bindName X.env n .none; unbindBehindTheSuite X.env n ps) (fun _ s7 => Q s7) X.xe s6 :=
            fun {σ6 H6 Q} S6 hq => gone_ok (S6.unsuite ok) hN hi hln hq
          cases f with
          | next => obtain ⟨σ6, H6, S6, q6⟩ := hsp; exact fin S6 fun s7 J7 => ⟨_, _, J7, q6⟩
          | brk => obtain ⟨σ6, H6, S6, q6⟩ := hsp; exact fin S6 fun s7 J7 => ⟨_, _, J7, q6⟩
          | cont => obtain ⟨σ6, H6, S6, q6⟩ := hsp; exact fin S6 fun s7 J7 => ⟨_, _, J7, q6⟩
          | ret u => obtain ⟨v6, σ6, H6, S6, r6, q6⟩ := hsp; exact fin S6 fun s7 J7 => ⟨_, _, _, J7, r6, q6⟩
    exact go hh w
end
end Sea
/-! defs by their names; an own error of one field: made, raised, read. -/
namespace Sea
open PySem PySem.Spec PyProof.Rows L2
/-- the def that the module calls x keeps sp, and raises nothing -/
def Cal (P : Program) (w : World) (K : PySem.W.Frag) (mg : Str → Option Value) (base : Heap) (k : Nat) (x : Str) (sp : Sp) : Prop :=
  ∃ (f : Addr) (fd : FuncData) (ps : List Str), FnOk P w K mg base CX0 k f fd ps sp ∧ mg x = some (.ref f) ∧ PySem.W.keepIn K (.ref f) = true ∧ Binds K fd ps []
/-- .. and it may raise -/
def CalX (P : Program) (w : World) (K : PySem.W.Frag) (mg : Str → Option Value) (base : Heap) (k : Nat) (x : Str) (sp : Sp) : Prop :=
  ∃ (f : Addr) (fd : FuncData) (ps : List Str), FnOk P w K mg base (L2.CX P w) k f fd ps sp ∧ mg x = some (.ref f) ∧ PySem.W.keepIn K (.ref f) = true ∧ Binds K fd ps []
section
variable {X : Cx} {x : Str} {sp : Sp} {k j : Nat} {e : Expr} {es : List Expr} {t : TA} {p pos : Pos}
theorem pe_c (c : Cal X.prog X.w X.K X.mg X.base k x sp) (hr : Room j X.A) (hk : k ≤ j) (hg : Gl X x) (ha : PA X (e :: es) t)
    (hdb : (x == ("__debug__" : Str)) = false := by decide) (he : starEach (e :: es) X.env = (false, eval e X.env) :: starEach es X.env := by rfl)
    (hpl : (backTo pos (starEach es X.env)).any (·.1) = false := by rfl) : PE X (.Call (.Name x p) (e :: es) [] pos) (tCall sp [] E0 t) := by
  obtain ⟨f, fd, ps, F, hm, kp, b⟩ := c
  exact pe_call F (hr.mono hk) hg hm kp b .nil pass0 ha hdb he hpl
theorem pe_cX (c : CalX X.prog X.w X.K X.mg X.base k x sp) (hr : Room j X.A) (hk : k ≤ j) (hg : Gl X x) {E : L2.St → XK} (hx : ∀ σ, PassesAt (L2.CX X.prog X.w) X σ (E σ)) (ha : PA X (e :: es) t)
    (hdb : (x == ("__debug__" : Str)) = false := by decide) (he : starEach (e :: es) X.env = (false, eval e X.env) :: starEach es X.env := by rfl)
    (hpl : (backTo pos (starEach es X.env)).any (·.1) = false := by rfl) : PE X (.Call (.Name x p) (e :: es) [] pos) (tCallSD sp [] E t) := by
  obtain ⟨f, fd, ps, F, hm, kp, b⟩ := c
  exact pe_callSD F (hr.mono hk) hg hm kp b .nil hx ha hdb he hpl
end
/-- what the written part says of the error class nm at C, of one field fld, with its __init__ at fI -/
structure XC (K : PySem.W.Frag) (mg : Str → Option Value) (nm fld : Str) (C fI : Addr) : Prop where
  gC : mg nm = some (.ref C)
  ox : OexC K C
  iC : PySem.W.findIn K (.ref C) "__init__" = some (some (.ref fI))
  tI : PySem.W.typeIn K (.ref fI) = some (.type "function")
  no : PySem.W.findIn K (.ref C) fld = some none
  ask : AskC K C
  hd : PySem.W.hasDictIn K C = true
theorem XC.xf {K : PySem.W.Frag} {mg : Str → Option Value} {nm fld : Str} {C fI : Addr} (x : XC K mg nm fld C fI) : XfC K C := ⟨x.ask.ga, x.ask.gg, x.ask.sb, x.hd⟩
/-- its __init__ -/
def spIni (K : PySem.W.Frag) (C : Addr) (fld : Str) : Sp := fun vs H Q _ => ∃ (a : Addr) (v : V), vs = [.ref a, v] ∧ OexC K C ∧ PySem.W.findIn K (.ref C) fld = some none ∧ H a = some (exo a C none) ∧
  ∀ dx, H dx = none → dx ≠ a → Q .non (upd (upd H dx (exd dx [(fld, v)])) a (exo a C (some dx)))
theorem made_heap {H : Hp} {a d C : Addr} {o1 o2 o3 o4 : HO} (ha : H a = none) (hd : H d = none) (hne : d ≠ a) :
    upd (del (upd (upd (upd H a o1) d o2) a o3) a) d o4 = upd H d o4 := by
  funext b
  by_cases h1 : b = d
  · subst h1
    rw [upd_same, upd_same]
  · rw [upd_ne h1, upd_ne h1]
    by_cases h2 : b = a
    · subst h2
      rw [del_same, ha]
    · rw [del_ne h2, upd_ne h2, upd_ne h1, upd_ne h2]
/-- C(e) with such an __init__, its argument v told: an error with the field, all else as it was -/
theorem mk_fin {K : PySem.W.Frag} {C : Addr} {fld : Str} {v : V} {H1 : Hp} {Q : XK} (ox : OexC K C) (no : PySem.W.findIn K (.ref C) fld = some none)
    (q : ∀ d, H1 d = none → Q (.ref C) (some d) (upd H1 d (.xd [(fld, v)]))) :
    ([v] : List V).length ≤ 1000 ∧ ∀ a, H1 a = none → spIni K C fld (.ref a :: ([v] ++ [])) (upd H1 a (exo a C none))
      (fun u H2 => u = .non ∧ ∃ (d : Addr) (fs : List (Str × V)), H2 a = some (exo a C (some d)) ∧ H2 d = some (exd d fs) ∧ H1 d = none ∧ Q (.ref C) (some d) (upd (del H2 a) d (.xd fs))) (fun _ _ _ => False) := by
  refine ⟨by simp, fun a ha => ⟨a, v, rfl, ox, no, upd_same, fun dx hdx hne => ?_⟩⟩
  have hd : H1 dx = none := by
    rw [upd_ne hne] at hdx
    exact hdx
  refine ⟨rfl, dx, [(fld, v)], upd_same, ?_, hd, ?_⟩
  · rw [upd_ne hne, upd_same]
  · rw [made_heap (C := C) ha hd hne]
    exact q dx hd
/-! heaps that only grow -/
theorem same_new {H : Hp} {p : Addr} {o : HO} (h : H p = none) : Same H (upd H p o) := fun b x e => by
  rw [upd_ne (ne_of_none e h)]
  exact e
theorem same_over {H H' : Hp} {D : Addr} {o : HO} (s : Same H H') (h : H D = none) : Same H (upd H' D o) := fun b x e => by
  rw [upd_ne (ne_of_none e h)]
  exact s b x e
theorem sub_take {α : Type} {l : List α} {i : Nat} {x : α} (h : l[i]? = some x) : l.take (i + 1) = l.take i ++ [x] := by
  rw [List.take_add_one, h]
  rfl
theorem small_line {n : Nat} (h : n ≤ 100000) : n < sizeLine := by
  rw [sizeLine_eq]
  omega
end Sea
/-! a text repeated -/
namespace Sea
open PySem PySem.Spec PyProof.Rows L2
def repS (z : Str) (k : Nat) : Str := ⟨(List.replicate k z.cps).foldl (· ++ ·) #[]⟩
theorem repS_fold (a : Array Nat) : ∀ (k : Nat) (acc : Array Nat), ((List.replicate k a).foldl (· ++ ·) acc).size = acc.size + k * a.size
  | 0, acc => by simp
  | k + 1, acc => by
    rw [List.replicate_succ, List.foldl_cons, repS_fold a k, Array.size_append, Nat.succ_mul]
    omega
theorem repS_len (z : Str) (k : Nat) : (repS z k).length = k * z.length := by
  show ((List.replicate k z.cps).foldl (· ++ ·) #[]).size = k * z.cps.size
  rw [repS_fold]
  simp
def rMulS : R2 := fun x y H Q => ∃ (z : Str) (n : Int), x = .str z ∧ y = .int n ∧ (2 ≤ n ∧ n ≤ 1000) ∧ (1 ≤ z.length ∧ z.length ≤ 1000) ∧ Q (.str (repS z n.toNat)) H
theorem op_mulS {X : Cx} : OpR X (binaryOp .Mult) rMulS := by
  intro pins s σ H x y v u Q I rx ry h
  obtain ⟨z, n, rfl, rfl, ⟨n1, n2⟩, ⟨z1, z2⟩, q⟩ := h
  obtain ⟨t, rfl⟩ := rx
  obtain ⟨t', rfl⟩ := ry
  have hlen : z.length * n.toNat ≤ 1000000 := by
    have h1 : n.toNat ≤ 1000 := by omega
    have := Nat.mul_le_mul z2 h1
    omega
  have hl : sizeLine = 16777216 := sizeLine_eq
  refine PySem.P.mul_str ?_ (fun _ _ => ?_) (fun _ _ => ?_) ?_
  · rw [decide_eq_false (show ¬ n < -(2 ^ 63 : Int) by omega), decide_eq_false (show ¬ n ≥ 2 ^ 63 by omega)]
    rfl
  · have : (1000 : Int) ≤ (2 ^ 63 - 1) / n := (Int.le_ediv_iff_mul_le (by omega)).mpr (by omega)
    omega
  · unfold Builtin.Str.tooLong
    exact decide_eq_false (by omega)
  · rw [if_neg (show ¬ n < 1 by omega)]
    have e : (n == 1 || z.length == 0) = false := by
      have e1 : (n == 1) = false := beq_eq_false_iff_ne.mpr (by omega)
      have e2 : (z.length == 0) = false := beq_eq_false_iff_ne.mpr (by omega)
      rw [e1, e2]
      rfl
    rw [if_neg (by rw [e]; exact Bool.false_ne_true)]
    refine ⟨?_, .str (repS z n.toNat), H, I.tok _, ⟨_, rfl⟩, q⟩
    show (repS z n.toNat).length ≤ sizeLine
    rw [repS_len, Nat.mul_comm]
    omega
end Sea
namespace Sea
open PySem PySem.Spec PyProof.Rows L2
def top (i : Nat) : Stmt := PySem.Challenge.pw_seamfast_k08_reel_lines.main.body.getD i (.Pass ⟨0, 0, 0, 0⟩)
abbrev s__wall : Stmt := top 0
abbrev N__wall : List Str := ["k"]
theorem sc__wall : FnScope N__wall ["k"] (defScope s__wall) := ⟨rfl, rfl, rfl, by decide +kernel, rfl, by decide +kernel, by decide +kernel⟩
abbrev s_is_integer : Stmt := top 10
abbrev N_is_integer : List Str := ["thing"]
theorem sc_is_integer : FnScope N_is_integer ["thing"] (defScope s_is_integer) := ⟨rfl, rfl, rfl, by decide +kernel, rfl, by decide +kernel, by decide +kernel⟩
abbrev s_is_within : Stmt := top 11
abbrev N_is_within : List Str := ["thing", "low", "high"]
theorem sc_is_within : FnScope N_is_within ["thing", "low", "high"] (defScope s_is_within) := ⟨rfl, rfl, rfl, by decide +kernel, rfl, by decide +kernel, by decide +kernel⟩
abbrev s_items_of : Stmt := top 12
abbrev N_items_of : List Str := ["thing"]
theorem sc_items_of : FnScope N_items_of ["thing"] (defScope s_items_of) := ⟨rfl, rfl, rfl, by decide +kernel, rfl, by decide +kernel, by decide +kernel⟩
abbrev s_parts_of : Stmt := top 13
abbrev N_parts_of : List Str := ["thing", "many", "items"]
theorem sc_parts_of : FnScope N_parts_of ["thing", "many"] (defScope s_parts_of) := ⟨rfl, rfl, rfl, by decide +kernel, rfl, by decide +kernel, by decide +kernel⟩
abbrev s_is_name : Stmt := top 18
abbrev N_is_name : List Str := ["thing", "sign"]
theorem sc_is_name : FnScope N_is_name ["thing"] (defScope s_is_name) := ⟨rfl, rfl, rfl, by decide +kernel, rfl, by decide +kernel, by decide +kernel⟩
abbrev s_has_percent : Stmt := top 19
abbrev N_has_percent : List Str := ["word", "sign"]
theorem sc_has_percent : FnScope N_has_percent ["word"] (defScope s_has_percent) := ⟨rfl, rfl, rfl, by decide +kernel, rfl, by decide +kernel, by decide +kernel⟩
abbrev s_is_text : Stmt := top 20
abbrev N_is_text : List Str := ["thing", "sign"]
theorem sc_is_text : FnScope N_is_text ["thing"] (defScope s_is_text) := ⟨rfl, rfl, rfl, by decide +kernel, rfl, by decide +kernel, by decide +kernel⟩
abbrev s_cue_of : Stmt := top 21
abbrev N_cue_of : List Str := ["thing", "earliest", "length", "parts", "start", "end", "speaker", "text"]
theorem sc_cue_of : FnScope N_cue_of ["thing", "earliest", "length"] (defScope s_cue_of) := ⟨rfl, rfl, rfl, by decide +kernel, rfl, by decide +kernel, by decide +kernel⟩
abbrev s_judged_cues : Stmt := top 22
abbrev N_judged_cues : List Str := ["length", "cues", "items", "judged", "earliest", "number", "thing", "cue"]
theorem sc_judged_cues : FnScope N_judged_cues ["length", "cues"] (defScope s_judged_cues) := ⟨rfl, rfl, rfl, by decide +kernel, rfl, by decide +kernel, by decide +kernel⟩
abbrev s_first_word : Stmt := top 25
abbrev N_first_word : List Str := ["lines", "number"]
theorem sc_first_word : FnScope N_first_word ["lines", "number"] (defScope s_first_word) := ⟨rfl, rfl, rfl, by decide +kernel, rfl, by decide +kernel, by decide +kernel⟩
abbrev s_is_number : Stmt := top 26
abbrev N_is_number : List Str := ["word", "low", "high", "sign"]
theorem sc_is_number : FnScope N_is_number ["word", "low", "high"] (defScope s_is_number) := ⟨rfl, rfl, rfl, by decide +kernel, rfl, by decide +kernel, by decide +kernel⟩
abbrev s_write_reel : Stmt := top 29
abbrev N_write_reel : List Str := ["reel", "lines", "start", "end", "speaker", "text"]
theorem sc_write_reel : FnScope N_write_reel ["reel"] (defScope s_write_reel) := ⟨rfl, rfl, rfl, by decide +kernel, rfl, by decide +kernel, by decide +kernel⟩
abbrev s_take_text : Stmt := top 30
abbrev N_take_text : List Str := ["line", "words", "word"]
theorem sc_take_text : FnScope N_take_text ["line"] (defScope s_take_text) := ⟨rfl, rfl, rfl, by decide +kernel, rfl, by decide +kernel, by decide +kernel⟩
abbrev s_scan_cue : Stmt := top 31
abbrev N_scan_cue : List Str := ["lines", "number", "line", "start", "end", "speaker"]
theorem sc_scan_cue : FnScope N_scan_cue ["lines", "number"] (defScope s_scan_cue) := ⟨rfl, rfl, rfl, by decide +kernel, rfl, by decide +kernel, by decide +kernel⟩
abbrev s_scan_reel : Stmt := top 32
abbrev N_scan_reel : List Str := ["lines", "number", "line", "length", "cues"]
theorem sc_scan_reel : FnScope N_scan_reel ["lines", "number"] (defScope s_scan_reel) := ⟨rfl, rfl, rfl, by decide +kernel, rfl, by decide +kernel, by decide +kernel⟩
abbrev s_read_reel : Stmt := top 33
abbrev N_read_reel : List Str := ["lines", "length", "cues", "number"]
theorem sc_read_reel : FnScope N_read_reel ["lines"] (defScope s_read_reel) := ⟨rfl, rfl, rfl, by decide +kernel, rfl, by decide +kernel, by decide +kernel⟩
abbrev s__law_tape : Stmt := top 35
abbrev N__law_tape : List Str := ["_law_script", "_law_cells", "_law_cell"]
theorem sc__law_tape : FnScope N__law_tape ["_law_script"] (defScope s__law_tape) := ⟨rfl, rfl, rfl, by decide +kernel, rfl, by decide +kernel, by decide +kernel⟩
abbrev s__law_pick : Stmt := top 36
abbrev N__law_pick : List Str := ["_law_tape_here", "_law_many", "_law_digit", "_law_mixed"]
theorem sc__law_pick : FnScope N__law_pick ["_law_tape_here", "_law_many"] (defScope s__law_pick) := ⟨rfl, rfl, rfl, by decide +kernel, rfl, by decide +kernel, by decide +kernel⟩
abbrev s__law_some : Stmt := top 37
abbrev N__law_some : List Str := ["_law_tape_here", "_law_low", "_law_high"]
theorem sc__law_some : FnScope N__law_some ["_law_tape_here", "_law_low", "_law_high"] (defScope s__law_some) := ⟨rfl, rfl, rfl, by decide +kernel, rfl, by decide +kernel, by decide +kernel⟩
abbrev s__law_rarely : Stmt := top 38
abbrev N__law_rarely : List Str := ["_law_tape_here", "_law_many"]
theorem sc__law_rarely : FnScope N__law_rarely ["_law_tape_here", "_law_many"] (defScope s__law_rarely) := ⟨rfl, rfl, rfl, by decide +kernel, rfl, by decide +kernel, by decide +kernel⟩
abbrev s__law_names : Stmt := top 39
abbrev N__law_names : List Str := ["_law_tape_here", "_law_many", "_law_pool", "_law_names_here", "_law_k"]
theorem sc__law_names : FnScope N__law_names ["_law_tape_here", "_law_many"] (defScope s__law_names) := ⟨rfl, rfl, rfl, by decide +kernel, rfl, by decide +kernel, by decide +kernel⟩
abbrev s__law_text : Stmt := top 40
abbrev N__law_text : List Str := ["_law_tape_here", "_law_most", "_law_signs", "_law_words", "_law_k", "_law_at"]
theorem sc__law_text : FnScope N__law_text ["_law_tape_here", "_law_most"] (defScope s__law_text) := ⟨rfl, rfl, rfl, by decide +kernel, rfl, by decide +kernel, by decide +kernel⟩
abbrev s__law_same : Stmt := top 41
abbrev N__law_same : List Str := ["_law_told_here", "_law_due_here", "_law_k"]
theorem sc__law_same : FnScope N__law_same ["_law_told_here", "_law_due_here"] (defScope s__law_same) := ⟨rfl, rfl, rfl, by decide +kernel, rfl, by decide +kernel, by decide +kernel⟩
abbrev s__law_some_names : Stmt := top 42
abbrev N__law_some_names : List Str := ["_law_tape_here", "_law_many", "_law_name", "_law_names_here", "_law_k", "_law_size", "_law_at"]
theorem sc__law_some_names : FnScope N__law_some_names ["_law_tape_here", "_law_many"] (defScope s__law_some_names) := ⟨rfl, rfl, rfl, by decide +kernel, rfl, by decide +kernel, by decide +kernel⟩
abbrev s__law_cue_text : Stmt := top 43
abbrev N__law_cue_text : List Str := ["_law_tape_here", "_law_wide"]
theorem sc__law_cue_text : FnScope N__law_cue_text ["_law_tape_here", "_law_wide"] (defScope s__law_cue_text) := ⟨rfl, rfl, rfl, by decide +kernel, rfl, by decide +kernel, by decide +kernel⟩
abbrev s__law_reel : Stmt := top 44
abbrev N__law_reel : List Str := ["_law_tape_here", "_law_speakers", "_law_many", "_law_wide", "_law_step", "_law_at", "_law_cues", "_law_k", "_law_gone", "_law_length"]
theorem sc__law_reel : FnScope N__law_reel ["_law_tape_here"] (defScope s__law_reel) := ⟨rfl, rfl, rfl, by decide +kernel, rfl, by decide +kernel, by decide +kernel⟩
abbrev s__law_changed : Stmt := top 45
abbrev N__law_changed : List Str := ["_law_tape_here", "_law_told_here", "_law_length", "_law_cues", "_law_number", "_law_place", "_law_cue", "_law_near", "_law_way"]
theorem sc__law_changed : FnScope N__law_changed ["_law_tape_here", "_law_told_here"] (defScope s__law_changed) := ⟨rfl, rfl, rfl, by decide +kernel, rfl, by decide +kernel, by decide +kernel⟩
abbrev s__law_lines : Stmt := top 46
abbrev N__law_lines : List Str := ["_law_length", "_law_cues", "_law_lines_here", "_law_cue"]
theorem sc__law_lines : FnScope N__law_lines ["_law_length", "_law_cues"] (defScope s__law_lines) := ⟨rfl, rfl, rfl, by decide +kernel, rfl, by decide +kernel, by decide +kernel⟩
abbrev s__law_due : Stmt := top 47
abbrev N__law_due : List Str := ["_law_length", "_law_cues", "_law_low", "_law_k", "_law_cue"]
theorem sc__law_due : FnScope N__law_due ["_law_length", "_law_cues"] (defScope s__law_due) := ⟨rfl, rfl, rfl, by decide +kernel, rfl, by decide +kernel, by decide +kernel⟩
abbrev s__law_told : Stmt := top 48
abbrev N__law_told : List Str := ["_law_lines_here", "_law_reel_here", "raised"]
theorem sc__law_told : FnScope N__law_told ["_law_lines_here"] (defScope s__law_told) := ⟨rfl, rfl, rfl, by decide +kernel, rfl, by decide +kernel, by decide +kernel⟩
abbrev s__law_right : Stmt := top 49
abbrev N__law_right : List Str := ["_law_told_here", "_law_lines_here", "_law_kept", "_law_due_here", "_law_reel_here", "_law_many"]
theorem sc__law_right : FnScope N__law_right ["_law_told_here"] (defScope s__law_right) := ⟨rfl, rfl, rfl, by decide +kernel, rfl, by decide +kernel, by decide +kernel⟩
abbrev s_law : Stmt := top 50
abbrev N_law : List Str := ["_law_script", "_law_tape_here", "_law_first", "_law_k", "_law_second", "_law_first_lines", "_law_second_lines"]
theorem sc_law : FnScope N_law ["_law_script"] (defScope s_law) := ⟨rfl, rfl, rfl, by decide +kernel, rfl, by decide +kernel, by decide +kernel⟩
abbrev s_BadLength___init__ : Stmt := inClass (top 3) 0
abbrev N_BadLength___init__ : List Str := ["self", "length"]
theorem sc_BadLength___init__ : FnScope N_BadLength___init__ ["self", "length"] (defScope s_BadLength___init__) := ⟨rfl, rfl, rfl, by decide +kernel, rfl, by decide +kernel, by decide +kernel⟩
abbrev s_BadCue___init__ : Stmt := inClass (top 4) 0
abbrev N_BadCue___init__ : List Str := ["self", "number"]
theorem sc_BadCue___init__ : FnScope N_BadCue___init__ ["self", "number"] (defScope s_BadCue___init__) := ⟨rfl, rfl, rfl, by decide +kernel, rfl, by decide +kernel, by decide +kernel⟩
abbrev s_TooMany___init__ : Stmt := inClass (top 5) 0
abbrev N_TooMany___init__ : List Str := ["self", "word"]
theorem sc_TooMany___init__ : FnScope N_TooMany___init__ ["self", "word"] (defScope s_TooMany___init__) := ⟨rfl, rfl, rfl, by decide +kernel, rfl, by decide +kernel, by decide +kernel⟩
abbrev s_BadLine___init__ : Stmt := inClass (top 6) 0
abbrev N_BadLine___init__ : List Str := ["self", "line", "word"]
theorem sc_BadLine___init__ : FnScope N_BadLine___init__ ["self", "line", "word"] (defScope s_BadLine___init__) := ⟨rfl, rfl, rfl, by decide +kernel, rfl, by decide +kernel, by decide +kernel⟩
abbrev s_Reel___init__ : Stmt := inClass (top 23) 0
abbrev N_Reel___init__ : List Str := ["self", "length", "cues", "cue", "number"]
theorem sc_Reel___init__ : FnScope N_Reel___init__ ["self", "length", "cues"] (defScope s_Reel___init__) := ⟨rfl, rfl, rfl, by decide +kernel, rfl, by decide +kernel, by decide +kernel⟩
abbrev s_Reel_speakers : Stmt := inClass (top 23) 1
abbrev N_Reel_speakers : List Str := ["self"]
theorem sc_Reel_speakers : FnScope N_Reel_speakers ["self"] (defScope s_Reel_speakers) := ⟨rfl, rfl, rfl, by decide +kernel, rfl, by decide +kernel, by decide +kernel⟩
abbrev s_Reel_naming : Stmt := inClass (top 23) 2
abbrev N_Reel_naming : List Str := ["self"]
theorem sc_Reel_naming : FnScope N_Reel_naming ["self"] (defScope s_Reel_naming) := ⟨rfl, rfl, rfl, by decide +kernel, rfl, by decide +kernel, by decide +kernel⟩
abbrev s_Reel___len__ : Stmt := inClass (top 23) 3
abbrev N_Reel___len__ : List Str := ["self"]
theorem sc_Reel___len__ : FnScope N_Reel___len__ ["self"] (defScope s_Reel___len__) := ⟨rfl, rfl, rfl, by decide +kernel, rfl, by decide +kernel, by decide +kernel⟩
abbrev s_Reel___getitem__ : Stmt := inClass (top 23) 4
abbrev N_Reel___getitem__ : List Str := ["self", "at"]
theorem sc_Reel___getitem__ : FnScope N_Reel___getitem__ ["self", "at"] (defScope s_Reel___getitem__) := ⟨rfl, rfl, rfl, by decide +kernel, rfl, by decide +kernel, by decide +kernel⟩
abbrev s_Reel___iter__ : Stmt := inClass (top 23) 5
abbrev N_Reel___iter__ : List Str := ["self"]
theorem sc_Reel___iter__ : FnScope N_Reel___iter__ ["self"] (defScope s_Reel___iter__) := ⟨rfl, rfl, rfl, by decide +kernel, rfl, by decide +kernel, by decide +kernel⟩
abbrev s_Reel___eq__ : Stmt := inClass (top 23) 6
abbrev N_Reel___eq__ : List Str := ["self", "other"]
theorem sc_Reel___eq__ : FnScope N_Reel___eq__ ["self", "other"] (defScope s_Reel___eq__) := ⟨rfl, rfl, rfl, by decide +kernel, rfl, by decide +kernel, by decide +kernel⟩
abbrev s_LineWords___init__ : Stmt := inClass (top 27) 0
abbrev N_LineWords___init__ : List Str := ["self", "lines", "number"]
theorem sc_LineWords___init__ : FnScope N_LineWords___init__ ["self", "lines", "number"] (defScope s_LineWords___init__) := ⟨rfl, rfl, rfl, by decide +kernel, rfl, by decide +kernel, by decide +kernel⟩
abbrev s_LineWords_take_any : Stmt := inClass (top 27) 1
abbrev N_LineWords_take_any : List Str := ["self"]
theorem sc_LineWords_take_any : FnScope N_LineWords_take_any ["self"] (defScope s_LineWords_take_any) := ⟨rfl, rfl, rfl, by decide +kernel, rfl, by decide +kernel, by decide +kernel⟩
abbrev s_LineWords_take_name : Stmt := inClass (top 27) 2
abbrev N_LineWords_take_name : List Str := ["self", "word"]
theorem sc_LineWords_take_name : FnScope N_LineWords_take_name ["self"] (defScope s_LineWords_take_name) := ⟨rfl, rfl, rfl, by decide +kernel, rfl, by decide +kernel, by decide +kernel⟩
abbrev s_LineWords_take_number : Stmt := inClass (top 27) 3
abbrev N_LineWords_take_number : List Str := ["self", "low", "high", "word"]
theorem sc_LineWords_take_number : FnScope N_LineWords_take_number ["self", "low", "high"] (defScope s_LineWords_take_number) := ⟨rfl, rfl, rfl, by decide +kernel, rfl, by decide +kernel, by decide +kernel⟩
abbrev s_LineWords_take_one_of : Stmt := inClass (top 27) 4
abbrev N_LineWords_take_one_of : List Str := ["self", "words", "word"]
theorem sc_LineWords_take_one_of : FnScope N_LineWords_take_one_of ["self", "words"] (defScope s_LineWords_take_one_of) := ⟨rfl, rfl, rfl, by decide +kernel, rfl, by decide +kernel, by decide +kernel⟩
abbrev s_LineWords_has_more : Stmt := inClass (top 27) 5
abbrev N_LineWords_has_more : List Str := ["self"]
theorem sc_LineWords_has_more : FnScope N_LineWords_has_more ["self"] (defScope s_LineWords_has_more) := ⟨rfl, rfl, rfl, by decide +kernel, rfl, by decide +kernel, by decide +kernel⟩
abbrev s_LineWords_finish : Stmt := inClass (top 27) 6
abbrev N_LineWords_finish : List Str := ["self"]
theorem sc_LineWords_finish : FnScope N_LineWords_finish ["self"] (defScope s_LineWords_finish) := ⟨rfl, rfl, rfl, by decide +kernel, rfl, by decide +kernel, by decide +kernel⟩
end Sea
namespace Sea
open PySem PySem.Spec PyProof.Rows L2
/-! the small defs of the program -/
/-- None, an int, a truth value or a text -/
def Plain : V → Prop
  | .non => True
  | .bl _ => True
  | .int _ => True
  | .str _ => True
  | _ => False
def isInt : V → Bool
  | .int _ => true
  | _ => false
def inside (x : V) (lo hi : Int) : Bool :=
  match x with
  | .int i => decide (lo ≤ i) && decide (i ≤ hi)
  | _ => false
def spIsInt : Sp := fun vs H Q _ => ∃ x, vs = [x] ∧ Plain x ∧ Q (.bl (isInt x)) H
def spWithin : Sp := fun vs H Q _ => ∃ x lo hi, vs = [x, .int lo, .int hi] ∧ Plain x ∧ Q (.bl (inside x lo hi)) H
section
variable {P : Program} {w : World} {K : PySem.W.Frag} {mg : Str → Option Value} {base : Heap}
theorem ok_is_integer {f : Addr} {fd : FuncData} (F : Fun K "is_integer" "is_integer" s_is_integer f fd)
    (m_isinstance : mg "isinstance" = none) (m_int : mg "int" = none) (m_bool : mg "bool" = none) :
    FnOk P w K mg base CX0 1 f fd ["thing"] spIsInt := by
  refine F.ok sc_is_integer (fun vs H Q E h => ?_) (fun cdv A outer s H vs Q E hr h => ?_)
  · obtain ⟨x, rfl, _⟩ := h
    rfl
  · obtain ⟨x, rfl, hp, q⟩ := h
    refine ⟨_, (pss_one (ps_ret (pe_and (pe_callB call_isi (by rfl) m_isinstance (by decide +kernel) (pa_cons (pv 0) (pa_cons (pe_bltn (v := .ty "int") (by rfl) m_int (by decide +kernel) rfl) pa_nil))) (pe_one (pe_not (pe_callB call_isi (by rfl) m_isinstance (by decide +kernel) (pa_cons (pv 0) (pa_cons (pe_bltn (v := .ty "bool") (by rfl) m_bool (by decide +kernel) rfl) pa_nil)))))))), ?_⟩
    cases x with
    | int i => exact ⟨_, rfl, _, _, _, _, true, rfl, .ty _, .base (.int i), kit_ty (by decide +kernel), true, rfl, iteT ⟨_, rfl, _, _, _, _, false, rfl, .ty _, .base (.int i), kit_ty (by decide +kernel), false, rfl, q⟩⟩
    | bl b => exact ⟨_, rfl, _, _, _, _, true, rfl, .ty _, .base (.bl b), kit_ty (by decide +kernel), true, rfl, iteT ⟨_, rfl, _, _, _, _, true, rfl, .ty _, .base (.bl b), kit_ty (by decide +kernel), true, rfl, q⟩⟩
    | non => exact ⟨_, rfl, _, _, _, _, false, rfl, .ty _, .base .non, kit_ty (by decide +kernel), false, rfl, iteF q⟩
    | str z => exact ⟨_, rfl, _, _, _, _, false, rfl, .ty _, .base (.str z), kit_ty (by decide +kernel), false, rfl, iteF q⟩
    | ref a => exact hp.elim
    | byt z => exact hp.elim
    | flt z => exact hp.elim
    | ty z => exact hp.elim
theorem ok_is_within {f : Addr} {fd : FuncData} (F : Fun K "is_within" "is_within" s_is_within f fd)
    (c_is_integer : Cal P w K mg base 1 "is_integer" spIsInt) : FnOk P w K mg base CX0 2 f fd ["thing", "low", "high"] spWithin := by
  refine F.ok sc_is_within (fun vs H Q E h => ?_) (fun cdv A outer s H vs Q E hr h => ?_)
  · obtain ⟨x, lo, hi, rfl, _⟩ := h
    rfl
  · obtain ⟨x, lo, hi, rfl, hp, q⟩ := h
    refine ⟨_, (pss_one (ps_ret (pe_and (pe_c c_is_integer hr (by decide) rfl (pa_cons (pv 0) pa_nil)) (pe_one (pe_chain op_le op_le (pv 1) (pv 0) (pv 2)))))), ?_⟩
    refine ⟨_, rfl, x, rfl, hp, ?_⟩
    cases x with
    | int i =>
      refine ⟨true, rfl, iteT ⟨_, rfl, _, rfl, _, _, rfl, rfl, _, rfl, ?_⟩⟩
      refine ite2 (fun e => ?_) (fun e => ?_)
      · refine ⟨_, rfl, _, _, rfl, rfl, ?_⟩
        have q' : Q (.bl (decide (lo ≤ i) && decide (i ≤ hi))) H := q
        rw [e, Bool.true_and] at q'
        exact q'
      · have q' : Q (.bl (decide (lo ≤ i) && decide (i ≤ hi))) H := q
        rw [Bool.eq_false_iff.mpr e, Bool.false_and] at q'
        exact q'
    | bl b => exact ⟨false, rfl, iteF q⟩
    | non => exact ⟨false, rfl, iteF q⟩
    | str z => exact ⟨false, rfl, iteF q⟩
    | ref a => exact hp.elim
    | byt z => exact hp.elim
    | flt z => exact hp.elim
    | ty z => exact hp.elim
end
end Sea
namespace Sea
open PySem PySem.Spec PyProof.Rows L2
/-! texts as lists of codes -/
abbrev cp (z : Str) : List Nat := z.cps.toList
theorem cp_len (z : Str) : (cp z).length = z.length := Array.length_toList
theorem cp_mk (l : List Nat) : cp ⟨l.toArray⟩ = l := rfl
theorem cp_inj {a b : Str} (h : cp a = cp b) : a = b := by
  obtain ⟨⟨a⟩⟩ := a
  obtain ⟨⟨b⟩⟩ := b
  have e : a = b := h
  rw [e]
/-- two blanks together -/
def twin : List Nat → Bool
  | a :: b :: r => (a == 32 && b == 32) || twin (b :: r)
  | _ => false
/-- the codes of a text -/
structure Good (l : List Nat) : Prop where
  some : 1 ≤ l.length
  most : l.length ≤ 60
  sign : ∀ c ∈ l, 32 ≤ c ∧ c ≤ 126 ∧ c ≠ 37
  head : l[0]? ≠ Option.some 32
  last : l[l.length - 1]? ≠ Option.some 32
  twin : twin l = false
theorem lt_one (a b : Nat) : decide (([a] : List Nat) < [b]) = decide (a < b) := by
  by_cases h : a < b
  · rw [decide_eq_true h]
    exact decide_eq_true (List.Lex.rel h)
  · rw [decide_eq_false h]
    refine decide_eq_false fun q => ?_
    cases q with
    | rel q => exact h q
    | cons q => cases q
theorem blank_cp : cp (Str.ofString " ") = [32] := by decide +kernel
theorem tilde_cp : cp (Str.ofString "~") = [126] := by decide +kernel
theorem two_cp : cp (Str.ofString "  ") = [32, 32] := by decide +kernel
theorem blank_is (c : Nat) : decide (V.str ⟨#[c]⟩ = V.str (Str.ofString " ")) = decide (c = 32) := by
  by_cases h : c = 32
  · subst h
    rw [decide_eq_true rfl]
    refine decide_eq_true (congrArg V.str (cp_inj ?_))
    rw [blank_cp]
  · rw [decide_eq_false h]
    refine decide_eq_false fun q => h ?_
    have e := congrArg cp (V.str.inj q)
    rw [blank_cp] at e
    exact (List.cons.inj e).1
theorem twin_iff : ∀ l : List Nat, twin l = true ↔ ∃ i, l[i]? = Option.some 32 ∧ l[i + 1]? = Option.some 32
  | [] => by simp [twin]
  | [a] => by simp [twin]
  | a :: b :: r => by
    have ih := twin_iff (b :: r)
    constructor
    · intro h
      have h' : ((a == 32 && b == 32) || twin (b :: r)) = true := h
      rcases Bool.or_eq_true_iff.mp h' with q | q
      · obtain ⟨q1, q2⟩ := Bool.and_eq_true_iff.mp q
        exact ⟨0, congrArg Option.some (beq_iff_eq.mp q1), congrArg Option.some (beq_iff_eq.mp q2)⟩
      · obtain ⟨i, h1, h2⟩ := ih.mp q
        exact ⟨i + 1, h1, h2⟩
    · rintro ⟨i, h1, h2⟩
      show ((a == 32 && b == 32) || twin (b :: r)) = true
      cases i with
      | zero =>
        have e1 : a = 32 := Option.some.inj h1
        have e2 : b = 32 := Option.some.inj h2
        rw [e1, e2]
        rfl
      | succ i =>
        rw [ih.mpr ⟨i, h1, h2⟩, Bool.or_true]
theorem two_in (z : Str) : (!(Builtin.Str.occurrences z (Str.ofString "  ") 0 z.length 1).isEmpty) = twin (cp z) := by
  have h := PySem.StrLaws.found_iff z (Str.ofString "  ")
  have hl : (Str.ofString "  ").length = 2 := by decide +kernel
  have key : (!(Builtin.Str.occurrences z (Str.ofString "  ") 0 z.length 1).isEmpty) = true ↔ twin (cp z) = true := by
    rw [h, twin_iff]
    constructor
    · rintro ⟨i, h1, h2⟩
      rw [PySem.StrLaws.subAt_eq, hl] at h2
      have e := eq_of_beq h2
      have e' : ((cp z).drop i).take 2 = [32, 32] := e.trans two_cp
      have g0 := congrArg (fun l => l[0]?) e'
      have g1 := congrArg (fun l => l[1]?) e'
      simp only [List.getElem?_take, List.getElem?_drop] at g0 g1
      exact ⟨i, by simpa using g0, by simpa using g1⟩
    · rintro ⟨i, h1, h2⟩
      have hi : i + 1 < (cp z).length := (List.getElem?_eq_some_iff.mp h2).1
      refine ⟨i, by rw [hl, ← cp_len]; omega, ?_⟩
      rw [PySem.StrLaws.subAt_eq, hl]
      refine beq_iff_eq.mpr (Eq.trans ?_ two_cp.symm)
      refine List.ext_getElem? fun k => ?_
      rw [List.getElem?_take, List.getElem?_drop]
      match k with
      | 0 => simpa using h1
      | 1 => simpa using h2
      | k + 2 => simp; omega
  cases hb : twin (cp z) with
  | true => exact key.mpr hb
  | false =>
    rw [Bool.eq_false_iff]
    exact fun q => by rw [key.mp q] at hb; cases hb
/-- a value of the kinds that are handed to is_text -/
def AnyV (H : Hp) (x : V) : Prop := Plain x ∨ ∃ a xs, x = .ref a ∧ (H a = some (.lst xs) ∨ H a = some (.tup xs))
open Classical in
noncomputable def textV : V → Bool
  | .str z => decide (Good (cp z))
  | _ => false
def spPercent : Sp := fun vs H Q _ => ∃ z : Str, vs = [.str z] ∧ z.length ≤ 1000 ∧ ∀ H', Same H H' → Q (.bl (decide (37 ∈ cp z))) H'
noncomputable def spIsText : Sp := fun vs H Q _ => ∃ x, vs = [x] ∧ AnyV H x ∧ (∀ z, x = .str z → z.length ≤ 1000) ∧ ∀ H', Same H H' → Q (.bl (textV x)) H'
theorem inV_ints (k : Nat) : ∀ l : List Nat, inV (.int (k : Nat)) (l.map fun c => V.int (c : Nat)) = decide (k ∈ l)
  | [] => rfl
  | c :: r => by
    show (eqV (.int (c : Nat)) (.int (k : Nat)) || inV (.int (k : Nat)) (r.map fun c => V.int (c : Nat))) = _
    rw [inV_ints k r]
    show (((c : Nat) : Int) == ((k : Nat) : Int) || decide (k ∈ r)) = decide (k ∈ c :: r)
    by_cases h : k = c
    · subst h
      simp
    · have h' : ((c : Nat) : Int) ≠ ((k : Nat) : Int) := fun e => h (Int.ofNat.inj e).symm
      have h2 : (((c : Nat) : Int) == ((k : Nat) : Int)) = false := beq_eq_false_iff_ne.mpr h'
      rw [h2, Bool.false_or]
      simp [h]
theorem flat_ints : ∀ l : List Nat, (l.map fun c => V.int (c : Nat)).all flatV = true
  | [] => rfl
  | _ :: r => flat_ints r
section
variable {P : Program} {w : World} {K : PySem.W.Frag} {mg : Str → Option Value} {base : Heap}
theorem ok_has_percent {f : Addr} {fd : FuncData} (F : Fun K "has_percent" "has_percent" s_has_percent f fd) {t : Tok} (g_PERCENT : mg "PERCENT" = some (.int 37 t)) (m_ord : mg "ord" = none) :
    FnOk P w K mg base CX0 1 f fd ["word"] spPercent := by
  refine F.ok sc_has_percent (fun vs H Q E h => ?_) (fun cdv A outer s H vs Q E hr h => ?_)
  · obtain ⟨z, rfl, _⟩ := h
    rfl
  · obtain ⟨z, rfl, hz, q⟩ := h
    refine ⟨_, (pss_one (ps_ret (pe_cmpR op_in_seq (pe_glob (v := .int 37) rfl g_PERCENT ⟨_, rfl⟩) (pe_lc (own := [("sign", 1)]) rfl sc_has_percent.nd (pi_str (pv 0)) (blkOk_by (N := N_has_percent) (sc := defScope s_has_percent) (by decide +kernel)) (fun _ _ _ _ _ => (pg_name (i := 1) sc_has_percent.nd rfl (Or.inl rfl))) (fun _ _ _ _ _ => pts_nil) (fun _ _ _ _ _ => (pe_callB call_ord (by rfl) m_ord (by decide +kernel) (pa_cons (pv 1) pa_nil)))) rfl))), ?_⟩
    refine ⟨_, rfl, z, rfl, fun D hD => ?_⟩
    refine lc_it walk_str (fun i H' => Same H H' ∧ H' D = some (.lst (((cp z).take i).map fun c => V.int (c : Nat)))) ⟨same_new hD, upd_same⟩ (fun _ _ _ _ => trivial) ?_ ?_
    · rintro i x Ha Hb hi ⟨hs, hd⟩ ⟨rfl, c, hc, rfl⟩
      have hc' : (cp z)[i]? = some c := by rw [Array.getElem?_toList]; exact hc
      refine ⟨rfl, _, rfl, _, rfl, rfl, _, hd, ?_, same_over hs hD, ?_⟩
      · rw [List.length_map, List.length_take, cp_len]
        exact small_line (by omega)
      · rw [upd_same, sub_take hc', List.map_append]
        rfl
    · rintro H' ⟨hs, hd⟩
      have ht : (cp z).take z.cps.size = cp z := List.take_of_length_le (Nat.le_of_eq (cp_len z))
      rw [ht] at hd
      refine ⟨D, _, rfl, .inl (SqL.of hd), rfl, flat_ints _, ?_⟩
      have e := inV_ints 37 (cp z)
      have q' := q H' hs
      rw [← e] at q'
      exact q'
end
end Sea
namespace Sea
open PySem PySem.Spec PyProof.Rows L2
open Classical in
theorem textV_no {x : V} (h : ∀ z, x = .str z → ¬ Good (cp z)) : textV x = false := by
  cases x with
  | str z => exact decide_eq_false (h z rfl)
  | _ => rfl
open Classical in
theorem textV_yes {z : Str} (h : Good (cp z)) : textV (.str z) = true := decide_eq_true h
theorem ltL (a b : Nat) : decide ((cp ⟨#[a]⟩) < ([b] : List Nat)) = decide (a < b) := lt_one a b
theorem ltR (a b : Nat) : decide (([a] : List Nat) < cp ⟨#[b]⟩) = decide (a < b) := lt_one a b
theorem all_signs (l : List Nat) : ((l.map fun c => decide (32 ≤ c ∧ c ≤ 126)).all id) = decide (∀ c ∈ l, 32 ≤ c ∧ c ≤ 126) := by
  induction l with
  | nil => simp
  | cons a r ih =>
    rw [List.map_cons, List.all_cons, ih]
    by_cases h : 32 ≤ a ∧ a ≤ 126
    · simp [h]
    · have h2 : ¬ (∀ c ∈ a :: r, 32 ≤ c ∧ c ≤ 126) := fun q => h (q a List.mem_cons_self)
      rw [decide_eq_false h2]
      simp only [id]
      rw [decide_eq_false h, Bool.false_and]
section
variable {P : Program} {w : World} {K : PySem.W.Frag} {mg : Str → Option Value} {base : Heap}
theorem ok_is_text {f : Addr} {fd : FuncData} (F : Fun K "is_text" "is_text" s_is_text f fd)
    (m_isinstance : mg "isinstance" = none) (m_str : mg "str" = none) (m_len : mg "len" = none) (m_all : mg "all" = none)
    (c_has_percent : Cal P w K mg base 1 "has_percent" spPercent) : FnOk P w K mg base CX0 2 f fd ["thing"] spIsText := by
  refine F.ok sc_is_text (fun vs H Q E h => ?_) (fun cdv A outer s H vs Q E hr h => ?_)
  · obtain ⟨x, rfl, _⟩ := h
    rfl
  · obtain ⟨x, rfl, hany, hsz, q⟩ := h
    refine ⟨_, (pss_cons (ps_if (PW.pt (pw_or (pt_not (pt_val (pe_callB call_isi (by rfl) m_isinstance (by decide +kernel) (pa_cons (pv 0) (pa_cons (pe_bltn (v := .ty "str") (by rfl) m_str (by decide +kernel) rfl) pa_nil))))) (pw_or1 (pt_not (pt_chain op_le op_le (pe_int) (pe_callB call_len (by rfl) m_len (by decide +kernel) (pa_cons (pv 0) pa_nil)) (pe_int))))))
    (pss_one (ps_ret (pe_bl)))
    pss_nil)
    (pss_cons (ps_if (PW.pt (pw_or (pt_val (pe_c c_has_percent hr (by decide) rfl (pa_cons (pv 0) pa_nil))) (pw_or1 (pt_not (pt_val (pe_callB (cr_all rfl) (by rfl) m_all (by decide +kernel) (pa_cons (pe_lc (own := [("sign", 1)]) rfl sc_is_text.nd (pi_str (pv 0)) (blkOk_by (N := N_is_text) (sc := defScope s_is_text) (by decide +kernel)) (fun _ _ _ _ _ => (pg_name (i := 1) sc_is_text.nd rfl (Or.inl rfl))) (fun _ _ _ _ _ => pts_nil) (fun _ _ _ _ _ => (pe_chain op_le_str op_le_str (pe_str) (pv 1) (pe_str)))) pa_nil)))))))
    (pss_one (ps_ret (pe_bl)))
    pss_nil)
    (pss_one (ps_ret (pe_and (pe_cmpR op_ne (pe_ix ix_str (pv 0) (pe_int) (fun _ _ => rfl)) (pe_str) (nomark _)) (pe_and (pe_cmpR op_ne (pe_ix ix_str (pv 0) (pe_un un_neg (pe_int)) (fun _ _ => rfl)) (pe_str) (nomark _)) (pe_one (pe_cmpR op_notin_str (pe_str) (pv 0) rfl)))))))), ?_⟩
    -- what is no text
    have other : ∀ t, TyX K H x t → PySem.W.kitOne K t (.type "str") = some false → textV x = false →
        (∃ v, (start N_is_text [x])[0]? = some (some v) ∧ ∃ (x' c : V) (t u : Value) (b : Bool), [v, V.ty "str"] = [x', c] ∧ ClsV c u ∧ TyX K H x' t ∧ PySem.W.kitOne K t u = some b ∧ (∃ c, V.bl b = .bl c ∧ (if (!c) = true then (if true = true then Q (.bl false) H else False) else False))) :=
      fun t ty k e => ⟨x, rfl, x, _, t, _, false, rfl, .ty _, ty, k, false, rfl, by
        have q' := q H (Same.refl H)
        rw [e] at q'
        exact q'⟩
    cases x with
    | int i => obtain ⟨v, h1, x', c, t, u, b, h2, h3, h4, h5, c', h6, h7⟩ := other _ (.base (.int i)) (kit_ty (by decide +kernel)) rfl
               exact ⟨_, rfl, _, _, _, _, false, rfl, .ty _, .base (.int i), kit_ty (by decide +kernel), false, rfl, q H (Same.refl H)⟩
    | bl b => exact ⟨_, rfl, _, _, _, _, false, rfl, .ty _, .base (.bl b), kit_ty (by decide +kernel), false, rfl, q H (Same.refl H)⟩
    | non => exact ⟨_, rfl, _, _, _, _, false, rfl, .ty _, .base .non, kit_ty (by decide +kernel), false, rfl, q H (Same.refl H)⟩
    | ref a =>
      rcases hany with hp | ⟨a', xs, ea, hl | hl⟩
      · exact hp.elim
      · cases ea
        exact ⟨_, rfl, _, _, _, _, false, rfl, .ty _, .base (.lst hl), kit_ty (by decide +kernel), false, rfl, q H (Same.refl H)⟩
      · cases ea
        exact ⟨_, rfl, _, _, _, _, false, rfl, .ty _, .base (.tup hl), kit_ty (by decide +kernel), false, rfl, q H (Same.refl H)⟩
    | byt z => rcases hany with hp | ⟨a', xs, ea, _⟩ <;> first | exact hp.elim | cases ea
    | flt z => rcases hany with hp | ⟨a', xs, ea, _⟩ <;> first | exact hp.elim | cases ea
    | ty z => rcases hany with hp | ⟨a', xs, ea, _⟩ <;> first | exact hp.elim | cases ea
    | str z =>
      have hz : z.length ≤ 1000 := hsz z rfl
      have hzl : z.length ≤ sizeLine := Nat.le_of_lt (small1000 hz)
      have no : ∀ H', Same H H' → ¬ Good (cp z) → Q (.bl false) H' := fun H' hs hg => by
        have q' := q H' hs
        rw [textV_no (fun z' e => by cases e; exact hg)] at q'
        exact q'
      refine ⟨_, rfl, _, _, _, _, true, rfl, .ty _, .base (.str z), kit_ty (by decide +kernel), true, rfl, ?_⟩
      refine ⟨_, rfl, _, z.length, rfl, ⟨hzl, rfl⟩, _, _, rfl, rfl, _, rfl, ite2 (fun h1 => ⟨_, _, rfl, rfl, _, rfl, ?_⟩) (fun h1 => ⟨_, rfl, ?_⟩)⟩
      · have g1 : (1 : Int) ≤ (z.length : Nat) := of_decide_eq_true h1
        by_cases h2 : ((z.length : Nat) : Int) ≤ 60
        · rw [decide_eq_true h2]
          -- has_percent
          refine ⟨_, rfl, z, rfl, hz, fun H1 s1 => ⟨_, rfl, ?_⟩⟩
          refine ite2 (fun hp => ?_) (fun hp => ?_)
          · refine no H1 s1 fun g => ?_
            exact (g.sign 37 (of_decide_eq_true hp)).2.2 rfl
          · have hp' : 37 ∉ cp z := fun m => hp (decide_eq_true m)
            refine ⟨_, rfl, z, rfl, fun D hD => ?_⟩
            refine lc_it walk_str (fun i H' => Same H1 H' ∧ H' D = some (.lst ((((cp z).take i).map fun c => decide (32 ≤ c ∧ c ≤ 126)).map V.bl))) ⟨same_new hD, upd_same⟩ (fun _ _ _ _ => trivial) ?_ ?_
            · rintro i x Ha Hb hi ⟨hs, hd⟩ ⟨rfl, c, hc, rfl⟩
              have hc' : (cp z)[i]? = some c := by rw [Array.getElem?_toList]; exact hc
              have sz : ((((cp z).take i).map fun c => decide (32 ≤ c ∧ c ≤ 126)).map V.bl).length < sizeLine := by
                rw [List.length_map, List.length_map, List.length_take, cp_len]
                exact small_line (by omega)
              have fin : ∀ b, b = decide (32 ≤ c ∧ c ≤ 126) → Same H1 (upd Hb D (.lst (((((cp z).take i).map fun c => decide (32 ≤ c ∧ c ≤ 126)).map V.bl) ++ [V.bl b]))) ∧
                  (upd Hb D (.lst (((((cp z).take i).map fun c => decide (32 ≤ c ∧ c ≤ 126)).map V.bl) ++ [V.bl b]))) D = some (.lst ((((cp z).take (i + 1)).map fun c => decide (32 ≤ c ∧ c ≤ 126)).map V.bl)) := by
                intro b e
                subst e
                refine ⟨same_over hs hD, ?_⟩
                rw [upd_same, sub_take hc', List.map_append, List.map_append]
                rfl
              have e1 : (!decide ((cp ⟨#[c]⟩) < cp (Str.ofString " "))) = decide (32 ≤ c) := by
                rw [blank_cp, ltL]
                by_cases h : c < 32
                · rw [decide_eq_true h, decide_eq_false (by omega)]; rfl
                · rw [decide_eq_false h, decide_eq_true (by omega)]; rfl
              have e2 : (!decide (cp (Str.ofString "~") < (cp ⟨#[c]⟩))) = decide (c ≤ 126) := by
                rw [tilde_cp, ltR]
                by_cases h : 126 < c
                · rw [decide_eq_true h, decide_eq_false (by omega)]; rfl
                · rw [decide_eq_false h, decide_eq_true (by omega)]; rfl
              refine ⟨rfl, _, rfl, _, _, rfl, rfl, _, rfl, ite2 (fun h => ⟨_, _, rfl, rfl, _, hd, sz, ?_⟩) (fun h => ⟨_, hd, sz, ?_⟩)⟩
              · refine fin _ ?_
                have h' : 32 ≤ c := of_decide_eq_true (e1.symm.trans h)
                rw [e2]
                by_cases k : c ≤ 126
                · rw [decide_eq_true k, decide_eq_true ⟨h', k⟩]
                · rw [decide_eq_false k, decide_eq_false (fun q => k q.2)]
              · refine fin _ ?_
                have h' : ¬ 32 ≤ c := fun q => h (e1.trans (decide_eq_true q))
                rw [decide_eq_false (fun q => h' q.1)]
            · rintro H' ⟨hs, hd⟩
              have ht : (cp z).take z.cps.size = cp z := List.take_of_length_le (Nat.le_of_eq (cp_len z))
              rw [ht] at hd
              refine ⟨D, _, rfl, SqL.of hd, _, rfl, ?_⟩
              rw [all_signs]
              have s2 := s1.trans hs
              by_cases ha : ∀ c ∈ cp z, 32 ≤ c ∧ c ≤ 126
              · rw [decide_eq_true ha]
                have n0 : 0 < (cp z).length := by rw [cp_len]; omega
                have z0 : (cp z)[0]? = some (cp z)[0] := List.getElem?_eq_getElem n0
                have z1 : (cp z)[(cp z).length - 1]? = some ((cp z)[(cp z).length - 1]'(by omega)) := List.getElem?_eq_getElem (by omega)
                have zl : atI (cp z) (-1) = some ((cp z)[(cp z).length - 1]'(by omega)) := by
                  unfold atI ixN
                  rw [if_neg (by decide), if_pos (by omega)]
                  show (cp z)[((-1 : Int) + ((cp z).length : Nat)).toNat]? = _
                  rw [show ((-1 : Int) + ((cp z).length : Nat)).toNat = (cp z).length - 1 by omega]
                  exact z1
                refine ⟨_, rfl, z, 0, _, rfl, rfl, hzl, atI_nat (j := 0) z0, rfl, _, rfl, ?_⟩
                rw [blank_is]
                by_cases b0 : (cp z)[0] = 32
                · rw [decide_eq_true b0]
                  exact no H' s2 fun g => g.head (z0.trans (congrArg some b0))
                · rw [decide_eq_false b0]
                  refine ⟨_, rfl, 1, rfl, z, -1, _, rfl, rfl, hzl, zl, rfl, _, rfl, ?_⟩
                  rw [blank_is]
                  by_cases b1 : (cp z)[(cp z).length - 1]'(by omega) = 32
                  · rw [decide_eq_true b1]
                    exact no H' s2 fun g => g.last (z1.trans (congrArg some b1))
                  · rw [decide_eq_false b1]
                    refine ⟨_, rfl, _, _, rfl, rfl, ?_⟩
                    have q' := q H' s2
                    have e : textV (.str z) = !twin (cp z) := by
                      cases ht2 : twin (cp z) with
                      | true => exact textV_no fun z' e' g => by cases e'; rw [g.twin] at ht2; cases ht2
                      | false =>
                        refine textV_yes ⟨by omega, by rw [cp_len]; omega, fun c hc => ⟨(ha c hc).1, (ha c hc).2, fun e => hp' (e ▸ hc)⟩, fun e => b0 (Option.some.inj (z0.symm.trans e)), fun e => b1 (Option.some.inj (z1.symm.trans e)), ht2⟩
                    rw [e, ← two_in] at q'
                    exact q'
              · rw [decide_eq_false ha]
                exact no H' s2 fun g => ha fun c hc => ⟨(g.sign c hc).1, (g.sign c hc).2.1⟩
        · rw [decide_eq_false h2]
          exact no H (Same.refl H) fun g => h2 (by have := g.most; rw [cp_len] at this; omega)
      · refine no H (Same.refl H) fun g => h1 (decide_eq_true ?_)
        have := g.some
        rw [cp_len] at this
        omega
end
end Sea
namespace Sea
open PySem PySem.Spec PyProof.Rows L2
/-! the tape that a law draws from -/
/-- all but what stands at t is as it was -/
def KB (t : Addr) (H H' : Hp) : Prop := ∀ b o, b ≠ t → H b = some o → H' b = some o
theorem KB.refl (t : Addr) (H : Hp) : KB t H H := fun _ _ _ h => h
theorem KB.trans {t : Addr} {H H1 H2 : Hp} (a : KB t H H1) (b : KB t H1 H2) : KB t H H2 := fun c o n h => b c o n (a c o n h)
theorem KB.of_same {t : Addr} {H H' : Hp} (s : Same H H') : KB t H H' := fun b o _ h => s b o h
theorem KB.over {t : Addr} {H H' : Hp} {D : Addr} {o : HO} (k : KB t H H') (h : H D = none) : KB t H (upd H' D o) := fun b x n e => by
  rw [upd_ne (ne_of_none e h)]
  exact k b x n e
structure Tape (H : Hp) (tp cl : Addr) (ns : List Int) : Prop where
  ex : ∃ i r z c : Int, H tp = some (.lst [.ref cl, .int i, .int r, .int z, .int c]) ∧ 0 ≤ i ∧ 0 ≤ r ∧ (0 ≤ z ∧ z < 2147483647) ∧ 0 ≤ c
  cells : H cl = some (.lst (ns.map V.int))
  ne : cl ≠ tp
  nn : ∀ n ∈ ns, 0 ≤ n
theorem Tape.set {H H' : Hp} {tp cl : Addr} {ns : List Int} (T : Tape H tp cl ns) (k : KB tp H H') {i r z c : Int} (h1 : 0 ≤ i) (h2 : 0 ≤ r) (h3 : 0 ≤ z ∧ z < 2147483647) (h4 : 0 ≤ c) :
    Tape (upd H' tp (.lst [.ref cl, .int i, .int r, .int z, .int c])) tp cl ns :=
  ⟨⟨i, r, z, c, upd_same, h1, h2, h3, h4⟩, by rw [upd_ne T.ne]; exact k _ _ T.ne T.cells, T.ne, T.nn⟩
theorem KB.set {t : Addr} {H H' : Hp} {o : HO} (k : KB t H H') : KB t H (upd H' t o) := fun b x n e => by
  rw [upd_ne n]
  exact k b x n e
theorem Tape.there {H : Hp} {tp cl : Addr} {ns : List Int} (T : Tape H tp cl ns) : ∃ o, H tp = some o := let ⟨_, _, _, _, h, _⟩ := T.ex; ⟨_, h⟩
/-- something new, or something else that stands, is written -/
theorem Tape.other {H : Hp} {tp cl : Addr} {ns : List Int} (T : Tape H tp cl ns) {D : Addr} {o : HO} (h1 : tp ≠ D) (h2 : cl ≠ D) : Tape (upd H D o) tp cl ns := by
  obtain ⟨i, r, z, c, h, k1, k2, k3, k4⟩ := T.ex
  exact ⟨⟨i, r, z, c, by rw [upd_ne h1]; exact h, k1, k2, k3, k4⟩, by rw [upd_ne h2]; exact T.cells, T.ne, T.nn⟩
theorem Tape.fresh {H : Hp} {tp cl : Addr} {ns : List Int} (T : Tape H tp cl ns) {D : Addr} (h : H D = none) : tp ≠ D ∧ cl ≠ D := by
  obtain ⟨o, ho⟩ := T.there
  exact ⟨ne_of_none ho h, ne_of_none T.cells h⟩
theorem Tape.new {H : Hp} {tp cl : Addr} {ns : List Int} (T : Tape H tp cl ns) {D : Addr} {o : HO} (h : H D = none) : Tape (upd H D o) tp cl ns :=
  T.other (T.fresh h).1 (T.fresh h).2
theorem Tape.same {H H' : Hp} {tp cl : Addr} {ns : List Int} (T : Tape H tp cl ns) (s : Same H H') : Tape H' tp cl ns := by
  obtain ⟨i, r, z, c, h, k⟩ := T.ex
  exact ⟨⟨i, r, z, c, s _ _ h, k⟩, s _ _ T.cells, T.ne, T.nn⟩
def spPick : Sp := fun vs H Q _ => ∃ (tp cl : Addr) (ns : List Int) (m : Int), vs = [.ref tp, .int m] ∧ Tape H tp cl ns ∧ m < 1073741824 ∧
  ∀ H' d, KB tp H H' → Tape H' tp cl ns → 0 ≤ d → (d < m ∨ d = 0) → Q (.int d) H'
def spSome : Sp := fun vs H Q _ => ∃ (tp cl : Addr) (ns : List Int) (lo hi : Int), vs = [.ref tp, .int lo, .int hi] ∧ Tape H tp cl ns ∧ lo ≤ hi ∧ hi - lo < 1000000000 ∧
  ∀ H' d, KB tp H H' → Tape H' tp cl ns → lo ≤ d → d ≤ hi → Q (.int d) H'
theorem at_int {ns : List Int} {i : Int} (h0 : 0 ≤ i) (h1 : i < ((ns.map V.int).length : Nat)) : ∃ n, n ∈ ns ∧ atI (ns.map V.int) i = some (.int n) := by
  obtain ⟨k, rfl⟩ : ∃ k : Nat, i = (k : Int) := ⟨i.toNat, by omega⟩
  have h2 : k < ns.length := by rw [List.length_map] at h1; omega
  refine ⟨ns[k], List.getElem_mem h2, atI_nat ?_⟩
  rw [List.getElem?_map, List.getElem?_eq_getElem h2]
  rfl
theorem nz {k : Int} (h : k ≠ 0) : (fun _ j : Int => j ≠ 0) 0 k := h
section
variable {P : Program} {w : World} {K : PySem.W.Frag} {mg : Str → Option Value} {base : Heap}
theorem ok_pick {f : Addr} {fd : FuncData} (F : Fun K "_law_pick" "_law_pick" s__law_pick f fd) (m_len : mg "len" = none) (m_int : mg "int" = none) :
    FnOk P w K mg base CX0 1 f fd ["_law_tape_here", "_law_many"] spPick := by
  refine F.ok sc__law_pick (fun vs H Q E h => ?_) (fun cdv A outer s H vs Q E hr h => ?_)
  · obtain ⟨tp, cl, ns, m, rfl, _⟩ := h
    rfl
  · obtain ⟨tp, cl, ns, m, rfl, T, hm, q⟩ := h
    refine ⟨_, (pss_cons (ps_if (PW.pt (pw_or (pt_not (pt_truth (pe_ix ix_list (pv 0) (pe_int) (fun _ _ => rfl)) (by intro _; rfl))) (pw_or1 (pt_cmpR op_lt (pv 1) (pe_int) (nomark _)))))
    (pss_one (ps_ret (pe_int)))
    pss_nil)
    (C8.pss_cut (ps_if (PW.pt (pw_and (pt_cmpR op_eq (pe_ix ix_list (pv 0) (pe_int) (fun _ _ => rfl)) (pe_int) (nomark _)) (pw_and1 (pt_cmpR op_lt (pe_ix ix_list (pv 0) (pe_int) (fun _ _ => rfl)) (pe_callB call_len (by rfl) m_len (by decide +kernel) (pa_cons (pe_ix ix_list (pv 0) (pe_int) (fun _ _ => rfl)) pa_nil)) (nomark _)))))
    (pss_cons (ps_asg (pe_ix ix_list (pe_ix ix_list (pv 0) (pe_int) (fun _ _ => rfl)) (pe_ix ix_list (pv 0) (pe_int) (fun _ _ => rfl)) (fun _ _ => rfl)) (pg_sub (pv 0) (pe_int) set_list))
    (pss_cons (ps_asg (pe_op op_add (pe_ix ix_list (pv 0) (pe_int) (fun _ _ => rfl)) (pe_int)) (pg_sub (pv 0) (pe_int) set_list))
    (pss_one (ps_if (pt_cmpR op_lt (pe_ix ix_list (pv 0) (pe_int) (fun _ _ => rfl)) (pe_op op_pow (pe_int) (pe_int)) (nomark _))
    (pss_cons (ps_asg (pe_op op_modN (pe_callTy call_int1 (by rfl) m_int (by decide +kernel) (pa_cons (pe_op op_add (pe_op op_add (pe_op op_mul (pe_ix ix_list (pv 0) (pe_int) (fun _ _ => rfl)) (pe_int)) (pe_op op_mul (pe_ix ix_list (pv 0) (pe_int) (fun _ _ => rfl)) (pe_int))) (pe_int)) pa_nil)) (pe_int)) (pg_sub (pv 0) (pe_int) set_list))
    (pss_one (ps_asg (pe_int) (pg_sub (pv 0) (pe_int) set_list))))
    pss_nil))))
    pss_nil)
    (pss_cons (ps_if (pt_cmpR op_gt (pe_ix ix_list (pv 0) (pe_int) (fun _ _ => rfl)) (pe_int) (nomark _))
    (pss_cons (ps_set (i := 2) sc__law_pick.nd rfl (Or.inl rfl) (pe_op op_modN (pe_callTy call_int1 (by rfl) m_int (by decide +kernel) (pa_cons (pe_ix ix_list (pv 0) (pe_int) (fun _ _ => rfl)) pa_nil)) (pv 1)))
    (pss_cons (ps_asg (pe_op op_fdivN (pe_ix ix_list (pv 0) (pe_int) (fun _ _ => rfl)) (pv 1)) (pg_sub (pv 0) (pe_int) set_list))
    (pss_one (ps_ret (pv 2)))))
    pss_nil)
    (pss_cons (ps_asg (pe_op op_add (pe_ix ix_list (pv 0) (pe_int) (fun _ _ => rfl)) (pe_int)) (pg_sub (pv 0) (pe_int) set_list))
    (pss_cons (ps_asg (pe_op op_modN (pe_callTy call_int1 (by rfl) m_int (by decide +kernel) (pa_cons (pe_op op_add (pe_op op_add (pe_op op_mul (pe_ix ix_list (pv 0) (pe_int) (fun _ _ => rfl)) (pe_int)) (pe_op op_mul (pe_ix ix_list (pv 0) (pe_int) (fun _ _ => rfl)) (pe_int))) (pe_int)) pa_nil)) (pe_int)) (pg_sub (pv 0) (pe_int) set_list))
    (pss_cons (ps_set (i := 3) sc__law_pick.nd rfl (Or.inl rfl) (pe_op op_modN (pe_callTy call_int1 (by rfl) m_int (by decide +kernel) (pa_cons (pe_op op_add (pe_op op_mul (pe_ix ix_list (pv 0) (pe_int) (fun _ _ => rfl)) (pe_ix ix_list (pv 0) (pe_int) (fun _ _ => rfl))) (pe_op op_mul (pe_ix ix_list (pv 0) (pe_int) (fun _ _ => rfl)) (pe_int))) pa_nil)) (pe_int)))
    (pss_cons (ps_set (i := 3) sc__law_pick.nd rfl (Or.inl rfl) (pe_op op_modN (pe_callTy call_int1 (by rfl) m_int (by decide +kernel) (pa_cons (pe_op op_add (pe_op op_mul (pv 3) (pe_int)) (pe_ix ix_list (pv 0) (pe_int) (fun _ _ => rfl))) pa_nil)) (pe_int)))
    (pss_one (ps_ret (pe_op op_modN (pe_callTy call_int1 (by rfl) m_int (by decide +kernel) (pa_cons (pe_op op_fdivN (pv 3) (pe_int)) pa_nil)) (pv 1))))))))))), ?_⟩
    obtain ⟨i, r, z, c, hT, i0, r0, z0, c0⟩ := T.ex
    have hC := T.cells
    have modz : ∀ x : Int, 0 ≤ x.fmod 2147483647 ∧ x.fmod 2147483647 < 2147483647 := fun x => ⟨Int.fmod_nonneg_of_pos x (by decide), Int.fmod_lt_of_pos x (by decide)⟩
    -- if not tape[0] or many < 2
    refine ⟨_, rfl, tp, _, 0, _, rfl, rfl, SqL.of hT, atI_nat (j := 0) rfl, _, .inl ⟨_, SqL.of hC, rfl⟩, ?_⟩
    cases ns with
    | nil => exact q H 0 (KB.refl _ _) T (Int.le_refl _) (.inr rfl)
    | cons n0 nr =>
      refine ⟨_, rfl, _, _, rfl, rfl, _, rfl, ite2 (fun e => q H 0 (KB.refl _ _) T (Int.le_refl _) (.inr rfl)) (fun e => ?_)⟩
      have m2 : 2 ≤ m := by
        have : ¬ m < 2 := fun z => e (decide_eq_true z)
        omega
      have modm : ∀ x : Int, 0 ≤ x.fmod m ∧ x.fmod m < m := fun x => ⟨Int.fmod_nonneg_of_pos x (by omega), Int.fmod_lt_of_pos x (by omega)⟩
      refine ⟨fun σ' H' => σ' = [some (.ref tp), some (.int m), none, none] ∧ KB tp H H' ∧ Tape H' tp cl (n0 :: nr), ?_, ?_⟩
      · -- a new cell
        refine ⟨_, rfl, tp, _, 2, _, rfl, rfl, SqL.of hT, atI_nat (j := 2) rfl, rfl, _, rfl, ite2 (fun e1 => ?_) (fun e1 => ⟨rfl, KB.refl _ _, T⟩)⟩
        refine ⟨_, rfl, tp, _, 1, _, rfl, rfl, SqL.of hT, atI_nat (j := 1) rfl, _, rfl, tp, _, 0, _, rfl, rfl, SqL.of hT, atI_nat (j := 0) rfl, _, _, rfl, .inl ⟨_, SqL.of hC, rfl⟩, _, _, rfl, rfl, _, rfl, ite2 (fun e2 => ?_) (fun e2 => ⟨rfl, KB.refl _ _, T⟩)⟩
        obtain ⟨n, hn, ha⟩ := at_int (ns := n0 :: nr) i0 (of_decide_eq_true e2)
        have n0' := T.nn n hn
        refine ⟨_, rfl, tp, _, 0, _, rfl, rfl, SqL.of hT, atI_nat (j := 0) rfl, _, rfl, tp, _, 1, _, rfl, rfl, SqL.of hT, atI_nat (j := 1) rfl, cl, _, i, _, rfl, rfl, SqL.of hC, ha, _, rfl, tp, _, 2, 2, rfl, rfl, hT, rfl, ?_⟩
        refine ⟨_, rfl, tp, _, 1, _, rfl, rfl, SqL.of upd_same, atI_nat (j := 1) rfl, _, _, rfl, rfl, _, rfl, tp, _, 1, 1, rfl, rfl, upd_same, rfl, ?_⟩
        refine ⟨_, rfl, tp, _, 2, _, rfl, rfl, SqL.of upd_same, atI_nat (j := 2) rfl, _, _, rfl, rfl, ⟨by decide, by decide, by decide⟩, _, _, rfl, rfl, _, rfl, ite2 (fun e3 => ?_) (fun e3 => ?_)⟩
        · refine ⟨_, rfl, tp, _, 3, _, rfl, rfl, SqL.of upd_same, atI_nat (j := 3) rfl, _, _, rfl, rfl, .inr ⟨by decide, by decide⟩, _, rfl, tp, _, 2, _, rfl, rfl, SqL.of upd_same, atI_nat (j := 2) rfl, _, _, rfl, rfl, .inr ⟨by decide, by decide⟩, _, _, rfl, rfl, _, _, rfl, rfl, .inl ⟨_, rfl, _, _, rfl, rfl, (show (2147483647 : Int) ≠ 0 by decide), _, rfl, tp, _, 3, 3, rfl, rfl, upd_same, rfl, ?_⟩⟩
          refine ⟨_, rfl, tp, _, 2, 2, rfl, rfl, upd_same, rfl, rfl, ?_, ?_⟩
          · exact (((KB.refl _ _).set).set).set.set
          · exact T.set (((KB.refl _ _).set).set).set (by omega) (Int.le_refl _) (modz _) c0
        · exact ⟨rfl, ((KB.refl _ _).set).set, T.set (KB.refl _ _).set (by omega) n0' z0 c0⟩
      · rintro σ' H1 ⟨rfl, k1, T1⟩
        obtain ⟨i', r', z', c', hT', i0', r0', z0', c0'⟩ := T1.ex
        refine ⟨_, rfl, tp, _, 2, _, rfl, rfl, SqL.of hT', atI_nat (j := 2) rfl, _, _, rfl, rfl, _, rfl, ite2 (fun e1 => ?_) (fun e1 => ?_)⟩
        · refine ⟨_, rfl, tp, _, 2, _, rfl, rfl, SqL.of hT', atI_nat (j := 2) rfl, .inl ⟨_, rfl, _, rfl, _, _, rfl, rfl, by show m ≠ 0; omega, ?_⟩⟩
          refine ⟨_, rfl, tp, _, 2, _, rfl, rfl, SqL.of hT', atI_nat (j := 2) rfl, _, rfl, _, _, rfl, rfl, ⟨by omega, by omega⟩, _, rfl, tp, _, 2, 2, rfl, rfl, hT', rfl, ?_⟩
          refine ⟨_, rfl, q _ _ k1.set (T1.set (KB.refl _ _) i0' (Int.fdiv_nonneg r0' (by omega)) z0' c0') (modm _).1 (.inl (modm _).2)⟩
        · refine ⟨_, rfl, tp, _, 4, _, rfl, rfl, SqL.of hT', atI_nat (j := 4) rfl, _, _, rfl, rfl, _, rfl, tp, _, 4, 4, rfl, rfl, hT', rfl, ?_⟩
          refine ⟨_, rfl, tp, _, 3, _, rfl, rfl, SqL.of upd_same, atI_nat (j := 3) rfl, _, _, rfl, rfl, .inr ⟨by decide, by decide⟩, _, rfl, tp, _, 4, _, rfl, rfl, SqL.of upd_same, atI_nat (j := 4) rfl, _, _, rfl, rfl, .inr ⟨by decide, by decide⟩, _, _, rfl, rfl, _, _, rfl, rfl, .inl ⟨_, rfl, _, _, rfl, rfl, (show (2147483647 : Int) ≠ 0 by decide), _, rfl, tp, _, 3, 3, rfl, rfl, upd_same, rfl, ?_⟩⟩
          have mz := modz (z' * 48271 + (c' + 1) * 40692 + 5)
          refine ⟨_, rfl, tp, _, 3, _, rfl, rfl, SqL.of upd_same, atI_nat (j := 3) rfl, _, rfl, tp, _, 3, _, rfl, rfl, SqL.of upd_same, atI_nat (j := 3) rfl, _, _, rfl, rfl, .inl ⟨?_, ?_⟩, _, rfl, tp, _, 4, _, rfl, rfl, SqL.of upd_same, atI_nat (j := 4) rfl, _, _, rfl, rfl, .inr ⟨by decide, by decide⟩, _, _, rfl, rfl, .inl ⟨_, rfl, _, _, rfl, rfl, (show (2147483629 : Int) ≠ 0 by decide), ?_⟩⟩
          · exact Int.lt_of_lt_of_le (by decide) mz.1
          · exact Int.lt_trans mz.2 (by decide)
          refine ⟨_, rfl, _, _, rfl, rfl, .inr ⟨by decide, by decide⟩, _, rfl, tp, _, 3, _, rfl, rfl, SqL.of upd_same, atI_nat (j := 3) rfl, _, _, rfl, rfl, .inl ⟨_, rfl, _, _, rfl, rfl, (show (2147483587 : Int) ≠ 0 by decide), ?_⟩⟩
          refine ⟨_, rfl, _, _, rfl, rfl, ⟨by decide, by decide⟩, .inl ⟨_, rfl, _, rfl, _, _, rfl, rfl, by show m ≠ 0; omega, ?_⟩⟩
          exact q _ _ k1.set.set (T1.set (KB.refl _ _).set i0' r0' mz (by omega)) (modm _).1 (.inl (modm _).2)
theorem ok_some {f : Addr} {fd : FuncData} (F : Fun K "_law_some" "_law_some" s__law_some f fd) (c__law_pick : Cal P w K mg base 1 "_law_pick" spPick) :
    FnOk P w K mg base CX0 2 f fd ["_law_tape_here", "_law_low", "_law_high"] spSome := by
  refine F.ok sc__law_some (fun vs H Q E h => ?_) (fun cdv A outer s H vs Q E hr h => ?_)
  · obtain ⟨tp, cl, ns, lo, hi, rfl, _⟩ := h
    rfl
  · obtain ⟨tp, cl, ns, lo, hi, rfl, T, h1, h2, q⟩ := h
    refine ⟨_, (pss_one (ps_ret (pe_op op_add (pv 1) (pe_c c__law_pick hr (by decide) rfl (pa_cons (pv 0) (pa_cons (pe_op op_add (pe_op op_sub (pv 2) (pv 1)) (pe_int)) pa_nil)))))), ?_⟩
    refine ⟨_, rfl, _, rfl, _, rfl, _, rfl, _, _, rfl, rfl, _, _, rfl, rfl, tp, cl, ns, _, rfl, T, by omega, fun H' d k T' d0 d1 => ⟨_, _, rfl, rfl, q H' _ k T' ?_ ?_⟩⟩
    · omega
    · omega
end
end Sea
namespace Sea
open PySem PySem.Spec PyProof.Rows L2
/-! texts that a law draws -/
def Sgn (c : Nat) : Prop := 33 ≤ c ∧ c ≤ 126 ∧ c ≠ 37
def Wd (l : List Nat) : Prop := l ≠ [] ∧ ∀ c ∈ l, Sgn c
def flat (ws : List (List Nat)) : List Nat := ws.flatMap fun w => 32 :: w
theorem flat_nil : flat [] = [] := rfl
theorem flat_cons (w : List Nat) (r : List (List Nat)) : flat (w :: r) = 32 :: (w ++ flat r) := rfl
theorem flat_app (a b : List (List Nat)) : flat (a ++ b) = flat a ++ flat b := List.flatMap_append
theorem twin_word : ∀ (w r : List Nat), (∀ c ∈ w, c ≠ 32) → twin (w ++ r) = twin r
  | [], _, _ => rfl
  | a :: w, r, h => by
    have ha : a ≠ 32 := h a List.mem_cons_self
    have ih := twin_word w r fun c hc => h c (List.mem_cons_of_mem _ hc)
    have e : (a == 32) = false := beq_eq_false_iff_ne.mpr ha
    rw [← ih]
    show twin (a :: (w ++ r)) = twin (w ++ r)
    cases w ++ r with
    | nil => rfl
    | cons b r' =>
      show ((a == 32 && b == 32) || twin (b :: r')) = _
      rw [e]
      rfl
theorem Sgn.nb {c : Nat} (h : Sgn c) : c ≠ 32 := by have := h.1; omega
theorem twin_flat : ∀ ws : List (List Nat), (∀ w ∈ ws, Wd w) → twin (flat ws) = false
  | [], _ => rfl
  | w :: r, h => by
    have hw := h w List.mem_cons_self
    have ih := twin_flat r fun v hv => h v (List.mem_cons_of_mem _ hv)
    rw [flat_cons]
    obtain ⟨ne, hs⟩ := hw
    cases w with
    | nil => exact absurd rfl ne
    | cons b w =>
      have e : (b == 32) = false := beq_eq_false_iff_ne.mpr (hs b List.mem_cons_self).nb
      show ((32 == 32 && b == 32) || twin (b :: w ++ flat r)) = false
      rw [e, twin_word _ _ fun c hc => (hs c hc).nb, ih]
      rfl
theorem sign_flat {ws : List (List Nat)} (h : ∀ w ∈ ws, Wd w) : ∀ c ∈ flat ws, 32 ≤ c ∧ c ≤ 126 ∧ c ≠ 37 := by
  intro c hc
  obtain ⟨w, hw, q⟩ := List.mem_flatMap.mp hc
  rcases List.mem_cons.mp q with e | e
  · rw [e]; decide
  · have := (h w hw).2 c e
    exact ⟨by have := this.1; omega, this.2.1, this.2.2⟩
theorem join_cp : ∀ ws : List Str, cp (Str.join (Str.ofString " ") ws) = (flat (ws.map cp)).drop 1
  | [] => rfl
  | [x] => by
    show cp x = (flat [cp x]).drop 1
    rw [flat_cons, flat_nil, List.append_nil]
    rfl
  | x :: y :: r => by
    have ih := join_cp (y :: r)
    show cp (x ++ Str.ofString " " ++ Str.join (Str.ofString " ") (y :: r)) = _
    have e : cp (x ++ Str.ofString " " ++ Str.join (Str.ofString " ") (y :: r)) = cp x ++ cp (Str.ofString " ") ++ cp (Str.join (Str.ofString " ") (y :: r)) := by
      show ((x.cps ++ (Str.ofString " ").cps) ++ (Str.join (Str.ofString " ") (y :: r)).cps).toList = _
      rw [Array.toList_append, Array.toList_append]
    rw [e, ih, blank_cp]
    show cp x ++ [32] ++ (flat ((y :: r).map cp)).drop 1 = cp x ++ flat ((y :: r).map cp)
    rw [List.map_cons, flat_cons, List.append_assoc]
    rfl
theorem join0_cp : ∀ ws : List Str, cp (Str.join (Str.ofString "") ws) = (ws.map cp).flatten
  | [] => rfl
  | [x] => by
    show cp x = cp x ++ []
    rw [List.append_nil]
  | x :: y :: r => by
    have ih := join0_cp (y :: r)
    have z : cp (Str.ofString "") = [] := by decide +kernel
    have e : cp (x ++ Str.ofString "" ++ Str.join (Str.ofString "") (y :: r)) = cp x ++ cp (Str.ofString "") ++ cp (Str.join (Str.ofString "") (y :: r)) := by
      show ((x.cps ++ (Str.ofString "").cps) ++ (Str.join (Str.ofString "") (y :: r)).cps).toList = _
      rw [Array.toList_append, Array.toList_append]
    show cp (x ++ Str.ofString "" ++ Str.join (Str.ofString "") (y :: r)) = cp x ++ ((y :: r).map cp).flatten
    rw [e, ih, z, List.append_nil]
theorem signs_flat (cs : List Nat) : ((cs.map fun c => (⟨#[c]⟩ : Str)).map cp).flatten = cs := by
  induction cs with
  | nil => rfl
  | cons c r ih =>
    show [c] ++ ((r.map fun c => (⟨#[c]⟩ : Str)).map cp).flatten = c :: r
    rw [ih]
    rfl
theorem twin_take {l : List Nat} (n : Nat) (h : twin l = false) : twin (l.take n) = false := by
  rw [Bool.eq_false_iff] at h ⊢
  intro q
  obtain ⟨i, h1, h2⟩ := (twin_iff _).mp q
  refine h ((twin_iff _).mpr ⟨i, ?_, ?_⟩)
  · rw [List.getElem?_take] at h1
    split at h1
    · exact h1
    · cases h1
  · rw [List.getElem?_take] at h2
    split at h2
    · exact h2
    · cases h2
theorem twin_drop {l : List Nat} (n : Nat) (h : twin l = false) : twin (l.drop n) = false := by
  rw [Bool.eq_false_iff] at h ⊢
  intro q
  obtain ⟨i, h1, h2⟩ := (twin_iff _).mp q
  rw [List.getElem?_drop] at h1 h2
  exact h ((twin_iff _).mpr ⟨n + i, h1, h2⟩)
theorem strip_good {x : Str} (hl : x.length ≤ 60) (sg : ∀ c ∈ cp x, 32 ≤ c ∧ c ≤ 126 ∧ c ≠ 37) (tw : twin (cp x) = false) (nb : ∃ c ∈ cp x, c ≠ 32) :
    Good (cp (Txt.stripChars x (Str.ofString " "))) := by
  have goes : ∀ c : Nat, (Str.ofString " ").cps.contains c = (c == 32) := by
    intro c
    have e : (Str.ofString " ").cps = #[32] := by decide +kernel
    rw [e]
    by_cases h : c = 32
    · subst h
      simp
    · have : (c == 32) = false := beq_eq_false_iff_ne.mpr h
      rw [this]
      simp [h]
  unfold Txt.stripChars
  rw [stripBy_eq]
  obtain ⟨l1, l2, l3⟩ := lo_facts (Str.ofString " ").cps.contains x
  generalize hlo : stripLo (Str.ofString " ").cps.contains true x = lo at l1 l2 l3
  obtain ⟨h1, h2, h3, h4⟩ := hi_facts (Str.ofString " ").cps.contains x lo l1
  generalize hhi : stripHi (Str.ofString " ").cps.contains true x lo = hi at h1 h2 h3 h4
  have gd : ∀ k, k < x.length → (cp x)[k]? = some (x.cps.getD k 0) := by
    intro k hk
    have hk' : k < (cp x).length := by rw [cp_len]; exact hk
    rw [List.getElem?_eq_getElem hk', ← getD_list]
    simp [List.getD, List.getElem?_eq_getElem hk']
  -- lo < hi
  have lt : lo < hi := by
    refine Nat.lt_of_not_le fun hle => ?_
    obtain ⟨c, hc, hn⟩ := nb
    obtain ⟨k, hk⟩ := List.getElem?_of_mem hc
    have hkl : k < x.length := by
      have := (List.getElem?_eq_some_iff.mp hk).1
      rw [cp_len] at this
      exact this
    have e := (gd k hkl).symm.trans hk
    have e2 : x.cps.getD k 0 = c := Option.some.inj e
    rcases Nat.lt_or_ge k lo with q | q
    · have := l2 k q
      rw [goes, e2] at this
      exact hn (beq_iff_eq.mp this)
    · have := h3 k (by omega) hkl
      rw [goes, e2] at this
      exact hn (beq_iff_eq.mp this)
  have hcp : cp (Builtin.Str.strSub x lo hi) = ((cp x).drop lo).take (hi - lo) := PySem.StrLaws.strSub_toList x lo hi
  have hlen : (((cp x).drop lo).take (hi - lo)).length = hi - lo := by
    rw [List.length_take, List.length_drop, cp_len]
    omega
  have at_ : ∀ k, k < hi - lo → (((cp x).drop lo).take (hi - lo))[k]? = some (x.cps.getD (lo + k) 0) := by
    intro k hk
    rw [List.getElem?_take, if_pos hk, List.getElem?_drop]
    exact gd (lo + k) (by omega)
  rw [hcp]
  refine ⟨by rw [hlen]; omega, by rw [hlen]; omega, fun c hc => sg c (List.mem_of_mem_drop (List.mem_of_mem_take hc)), ?_, ?_, twin_take _ (twin_drop _ tw)⟩
  · rw [at_ 0 (by omega)]
    intro q
    have e : x.cps.getD (lo + 0) 0 = 32 := Option.some.inj q
    rcases l3 with z | z
    · omega
    · rw [goes, show lo = lo + 0 from rfl, e] at z
      cases z
  · rw [hlen, at_ (hi - lo - 1) (by omega)]
    intro q
    have e : x.cps.getD (lo + (hi - lo - 1)) 0 = 32 := Option.some.inj q
    rw [show lo + (hi - lo - 1) = hi - 1 by omega] at e
    rcases h4 with z | z
    · omega
    · rw [goes, e] at z
      cases z
theorem sIxN (n d k : Nat) (i : Int) (h : i = (k : Int)) : HT.sIx n d (some i) = min k n := by
  rw [h]
  exact HT.sIx_nat n d k
theorem cut60 {z : Str} {i : Int} (e : i = 60) : cp (cutS z none (some i)) = (cp z).take 60 := by
  subst e
  unfold cutS
  rw [HT.sIx_none, sIxN _ _ 60 60 rfl]
  show ((cp z).drop 0).take (min 60 z.length - 0) = _
  rw [List.drop_zero, Nat.sub_zero, ← cp_len]
  exact List.take_eq_take_min.symm
theorem cut161 {z : Str} : cp (cutS z (some 1) (some 61)) = ((cp z).drop 1).take 60 := by
  unfold cutS
  rw [sIxN _ _ 1 1 rfl, sIxN _ _ 61 61 rfl]
  show ((cp z).drop (min 1 z.length)).take (min 61 z.length - min 1 z.length) = _
  rw [← cp_len]
  cases h : cp z with
  | nil => rfl
  | cons a r =>
    rw [List.length_cons, show min 1 (r.length + 1) = 1 by omega, show min 61 (r.length + 1) - 1 = min 60 r.length by omega]
    show r.take (min 60 r.length) = r.take 60
    exact (List.take_eq_take_min).symm
/-- of words, cut at 60 and stripped -/
theorem words_good {x : Str} {ws : List (List Nat)} (h : ∀ w ∈ ws, Wd w) (hne : ws ≠ []) (hx : cp x = ((flat ws).drop 1).take 60) : Good (cp (Txt.stripChars x (Str.ofString " "))) := by
  refine strip_good ?_ ?_ ?_ ?_
  · rw [← cp_len, hx, List.length_take]
    omega
  · rw [hx]
    exact fun c hc => sign_flat h c (List.mem_of_mem_drop (List.mem_of_mem_take hc))
  · rw [hx]
    exact twin_take _ (twin_drop _ (twin_flat ws h))
  · rw [hx]
    cases ws with
    | nil => exact absurd rfl hne
    | cons w r =>
      obtain ⟨ne, hs⟩ := h w List.mem_cons_self
      cases w with
      | nil => exact absurd rfl ne
      | cons b w =>
        refine ⟨b, ?_, (hs b List.mem_cons_self).nb⟩
        show b ∈ (b :: (w ++ flat r)).take 60
        exact List.mem_cons_self
theorem flat_last {ws : List (List Nat)} (h : ∀ w ∈ ws, Wd w) (hne : ws ≠ []) : (flat ws)[(flat ws).length - 1]? ≠ some 32 := by
  obtain ⟨a, w, rfl⟩ : ∃ a w, ws = a ++ [w] := ⟨ws.dropLast, ws.getLast hne, (List.dropLast_concat_getLast hne).symm⟩
  obtain ⟨ne, hs⟩ := h w (List.mem_append_right _ List.mem_cons_self)
  rw [flat_app, flat_cons, flat_nil, List.append_nil, ← List.getLast?_eq_getElem?]
  have e : flat a ++ 32 :: w = (flat a ++ [32]) ++ w := by rw [List.append_assoc]; rfl
  rw [e, List.getLast?_append]
  intro q
  cases hw : w.getLast? with
  | none => exact ne (List.getLast?_eq_none_iff.mp hw)
  | some c =>
    rw [hw] at q
    have q' : c = 32 := Option.some.inj q
    exact (hs c (List.mem_of_getLast? hw)).nb q'
theorem join_good {ws : List (List Nat)} (h : ∀ w ∈ ws, Wd w) (hne : ws ≠ []) (hl : (flat ws).length ≤ 61) : Good ((flat ws).drop 1) := by
  have hlast := flat_last h hne
  have tw := twin_flat ws h
  have sg := sign_flat h
  cases ws with
  | nil => exact absurd rfl hne
  | cons w r =>
    obtain ⟨ne, hs⟩ := h w List.mem_cons_self
    cases w with
    | nil => exact absurd rfl ne
    | cons b w =>
      have e : (flat ((b :: w) :: r)).drop 1 = b :: (w ++ flat r) := rfl
      have e2 : flat ((b :: w) :: r) = 32 :: b :: (w ++ flat r) := rfl
      rw [e2] at hl hlast tw sg
      rw [e]
      rw [List.length_cons] at hl
      refine ⟨Nat.succ_pos _, by omega, fun c hc => sg c (List.mem_cons_of_mem _ hc), ?_, ?_, ?_⟩
      · intro q
        exact (hs b List.mem_cons_self).nb (Option.some.inj q)
      · intro q
        refine hlast ?_
        rw [List.length_cons, Nat.add_sub_cancel]
        rw [List.length_cons, Nat.add_sub_cancel] at q
        rw [List.length_cons, List.getElem?_cons_succ]
        exact q
      · have := twin_drop 1 tw
        exact this
end Sea
namespace Sea
open PySem PySem.Spec PyProof.Rows L2
abbrev SG : Str := Str.ofString "abcdefghijklmnopqrstuvwxyzABCDEFGHIJKLMNOPQRSTUVWXYZ0123456789!\"#$&'()*+,-./:;<=>?\x40[\\]^_`{|}~"
theorem sg_len : SG.length = 93 := by decide +kernel
theorem sg_all : ((cp SG).all fun c => decide (33 ≤ c) && (decide (c ≤ 126) && decide (c ≠ 37))) = true := by decide +kernel
theorem sg_sgn : ∀ c ∈ cp SG, Sgn c := fun c hc => by
  have h := List.all_eq_true.mp sg_all c hc
  obtain ⟨h1, h2⟩ := Bool.and_eq_true_iff.mp h
  obtain ⟨h2, h3⟩ := Bool.and_eq_true_iff.mp h2
  exact ⟨of_decide_eq_true h1, of_decide_eq_true h2, of_decide_eq_true h3⟩
theorem sg_line : SG.length ≤ sizeLine := by
  rw [sg_len]
  decide
theorem sg_at {d : Int} (h0 : 0 ≤ d) (h1 : d < (SG.length : Int) ∨ d = 0) : ∃ c, atI (cp SG) d = some c ∧ Sgn c := by
  obtain ⟨k, rfl⟩ : ∃ k : Nat, d = (k : Int) := ⟨d.toNat, by omega⟩
  have hk : k < (cp SG).length := by
    rw [cp_len, sg_len]
    rw [sg_len] at h1
    omega
  exact ⟨(cp SG)[k], atI_nat (List.getElem?_eq_getElem hk), sg_sgn _ (List.getElem_mem hk)⟩
def spTape (K : PySem.W.Frag) : Sp := fun vs H Q _ => ∃ (a : Addr) (ns : List Int), vs = [.ref a] ∧ SqL K H a (ns.map V.int) ∧ ns.length ≤ 63 ∧
  ∀ H' tp cl ns', Same H H' → Tape H' tp cl ns' → Q (.ref tp) H'
def spText : Sp := fun vs H Q _ => ∃ (tp cl : Addr) (ns : List Int) (most : Int), vs = [.ref tp, .int most] ∧ Tape H tp cl ns ∧ 1 ≤ most ∧ most ≤ 1000 ∧
  ∀ H' z, KB tp H H' → Tape H' tp cl ns → Good (cp z) → Q (.str z) H'
def spWide : Sp := fun vs H Q _ => ∃ (tp cl : Addr) (ns : List Int), vs = [.ref tp] ∧ Tape H tp cl ns ∧
  ∀ H' z, KB tp H H' → Tape H' tp cl ns → Good (cp z) → Q (.str z) H'
theorem sum_ones (cs : List Nat) : ((cs.map fun c => (⟨#[c]⟩ : Str)).map (·.length)).sum = cs.length := by
  induction cs with
  | nil => rfl
  | cons c r ih =>
    rw [List.map_cons, List.map_cons, List.sum_cons, ih, List.length_cons]
    show 1 + r.length = r.length + 1
    omega
theorem sum_le {ws : List Str} {n : Nat} (h : ∀ w ∈ ws, w.length ≤ n) : (ws.map (·.length)).sum ≤ ws.length * n := by
  induction ws with
  | nil => exact Nat.zero_le _
  | cons w r ih =>
    have h1 := h w List.mem_cons_self
    have h2 := ih fun v hv => h v (List.mem_cons_of_mem _ hv)
    rw [List.map_cons, List.sum_cons, List.length_cons, Nat.succ_mul]
    omega
theorem flat_len (ws : List (List Nat)) : (flat ws).length = (ws.map (·.length)).sum + ws.length := by
  induction ws with
  | nil => rfl
  | cons w r ih =>
    rw [flat_cons, List.length_cons, List.length_append, ih, List.map_cons, List.sum_cons, List.length_cons]
    omega
/-- the word that signs make -/
theorem word_cp (cs : List Nat) : cp (Txt.join (Str.ofString "") (cs.map fun c => (⟨#[c]⟩ : Str))) = cs := by
  rw [TL.join_eq, join0_cp, signs_flat]
section
variable {P : Program} {w : World} {K : PySem.W.Frag} {mg : Str → Option Value} {base : Heap}
theorem ok_tape {f : Addr} {fd : FuncData} (F : Fun K "_law_tape" "_law_tape" s__law_tape f fd) (m_abs : mg "abs" = none) (m_int : mg "int" = none) :
    FnOk P w K mg base CX0 1 f fd ["_law_script"] (spTape K) := by
  refine F.ok sc__law_tape (fun vs H Q E h => ?_) (fun cdv A outer s H vs Q E hr h => ?_)
  · obtain ⟨a, ns, rfl, _⟩ := h
    rfl
  · obtain ⟨a, ns, rfl, hS, hlen, q⟩ := h
    refine ⟨_, (pss_cons (ps_setLc (i := 1) (own := [("_law_cell", 2)]) rfl sc__law_tape.nd rfl rfl (sw_true rfl rfl rfl (by decide +kernel)) (pi_list (pv 0)) (blkOk_by (N := N__law_tape) (sc := defScope s__law_tape) (by decide +kernel)) (fun _ _ _ _ _ => (pg_name (i := 2) sc__law_tape.nd rfl (Or.inl rfl))) (fun _ _ _ _ _ => pts_nil) (fun _ _ _ _ _ => (pe_op op_modN (pe_callB call_abs (by rfl) m_abs (by decide +kernel) (pa_cons (pe_callTy call_int1 (by rfl) m_int (by decide +kernel) (pa_cons (pv 2) pa_nil)) pa_nil)) (pe_op op_powB (pe_op op_pow (pe_int) (pe_int)) (pe_int)))))
    (pss_one (ps_ret (pe_lst (pa_cons (pv 1) (pa_cons (pe_int) (pa_cons (pe_int) (pa_cons (pe_int) (pa_cons (pe_int) pa_nil))))))))), ?_⟩
    refine ⟨_, rfl, a, rfl, ⟨_, hS⟩, fun D hD => ?_⟩
    refine lc_list (K := K) (a := a) (xs := ns.map V.int) (fun j H' => Same H H' ∧ ∃ ms : List Int, H' D = some (.lst (ms.map V.int)) ∧ ms.length = j ∧ ∀ n ∈ ms, 0 ≤ n) ⟨same_new hD, [], upd_same, rfl, fun _ h => nomatch h⟩ (fun j H' _ hq => hq.1.seq hS) ?_ ?_
    · rintro j y H' hy ⟨hs, ms, hd, hm, hn⟩
      obtain ⟨n, hn', rfl⟩ : ∃ n, ns[j]? = some n ∧ y = V.int n := by
        rw [List.getElem?_map] at hy
        cases qq : ns[j]? with
        | none => rw [qq] at hy; cases hy
        | some n => rw [qq] at hy; exact ⟨n, rfl, (Option.some.inj hy).symm⟩
      have hj : j < ns.length := (List.getElem?_eq_some_iff.mp hn').1
      refine ⟨rfl, _, rfl, .inl ⟨_, rfl, _, rfl, _, _, rfl, rfl, ⟨by decide, by decide, by decide⟩, _, _, rfl, rfl, ⟨by decide, by decide +kernel⟩, _, _, rfl, rfl, ?_, _, hd, ?_, same_over hs hD, ms ++ [(if n < 0 then -n else n).fmod ((10 ^ (60 : Int).toNat) ^ (20 : Int).toNat)], ?_, ?_, ?_⟩⟩
      · show ((10 ^ (60 : Int).toNat) ^ (20 : Int).toNat : Int) ≠ 0
        decide +kernel
      · rw [List.length_map]
        exact small_line (by omega)
      · rw [upd_same, List.map_append]
        rfl
      · rw [List.length_append, hm]
        rfl
      · intro m hm'
        rcases List.mem_append.mp hm' with h | h
        · exact hn m h
        · rw [List.mem_singleton.mp h]
          exact Int.fmod_nonneg_of_pos _ (by decide +kernel)
    · rintro H' ⟨hs, ms, hd, hm, hn⟩
      refine ⟨_, rfl, (by show 5 ≤ sizeLine; decide), fun p hp => ?_⟩
      have ne : D ≠ p := ne_of_none hd hp
      exact q _ p D ms (hs.trans (same_new hp)) ⟨⟨0, 0, 7, 0, upd_same, by decide, by decide, ⟨by decide, by decide⟩, by decide⟩, by rw [upd_ne ne]; exact hd, ne, hn⟩
theorem ok_text {f : Addr} {fd : FuncData} (F : Fun K "_law_text" "_law_text" s__law_text f fd) (m_range : mg "range" = none) (m_len : mg "len" = none)
    (c__law_pick : Cal P w K mg base 1 "_law_pick" spPick) (c__law_some : Cal P w K mg base 2 "_law_some" spSome) : FnOk P w K mg base CX0 3 f fd ["_law_tape_here", "_law_most"] spText := by
  refine F.ok sc__law_text (fun vs H Q E h => ?_) (fun cdv A outer s H vs Q E hr h => ?_)
  · obtain ⟨tp, cl, ns, most, rfl, _⟩ := h
    rfl
  · obtain ⟨tp, cl, ns, most, rfl, T, h1, h2, q⟩ := h
    refine ⟨_, (pss_cons (ps_set (i := 2) sc__law_text.nd rfl (Or.inr rfl) (pe_str))
    (pss_cons (ps_set (i := 3) sc__law_text.nd rfl (Or.inl rfl) (pe_lst pa_nil))
    (pss_cons (ps_for PassesOwn.never rfl (pi_range1 (by rfl) m_range (pa_cons (pe_c c__law_some hr (by decide) rfl (pa_cons (pv 0) (pa_cons (pe_int) (pa_cons (pv 1) pa_nil)))) pa_nil)) (pg_name (i := 4) sc__law_text.nd rfl (Or.inl rfl))
    (pss_one (ps_expr (pe_bm PySem.F.plainAttrs_list PySem.F.slot_list_append PySem.F.type_list_append mt_append (pv 3) (pa_cons (pe_join (pe_str) (pe_lc (own := [("_law_at", 5)]) rfl sc__law_text.nd (pi_range1 (by rfl) m_range (pa_cons (pe_c c__law_some hr (by decide) rfl (pa_cons (pv 0) (pa_cons (pe_int) (pa_cons (pe_int) pa_nil)))) pa_nil)) (blkOk_by (N := N__law_text) (sc := defScope s__law_text) (by decide +kernel)) (fun _ _ _ _ _ => (pg_name (i := 5) sc__law_text.nd rfl (Or.inl rfl))) (fun _ _ _ _ _ => pts_nil) (fun _ _ _ _ _ => (pe_ix ix_str (pv 2) (pe_c c__law_pick hr (by decide) rfl (pa_cons (pv 0) (pa_cons (pe_callB call_len_str (by rfl) m_len (by decide +kernel) (pa_cons (pv 2) pa_nil)) pa_nil))) (fun _ _ => rfl))))) pa_nil)))))
    (pss_one (ps_ret (pe_bm PySem.F.plainAttrs_str PySem.F.slot_str_strip PySem.F.type_str_strip mt_stripChars (pe_slice sl_str (pe_join (pe_str) (pv 3)) po_none (po_some (pe_int))) (pa_cons (pe_str) pa_nil))))))), ?_⟩
    refine ⟨Nat.zero_le _, fun wl hwl => ?_⟩
    have T0 : Tape (upd H wl (.lst [])) tp cl ns := T.new hwl
    obtain ⟨nt, nc⟩ := T.fresh hwl
    refine ⟨_, rfl, _, rfl, tp, cl, ns, 1, most, rfl, T0, h1, by omega, fun H1 d k1 T1 d0 d1 => ⟨d, rfl, by omega, by omega, ?_⟩⟩
    have hw1 : H1 wl = some (.lst []) := k1 wl _ nt.symm upd_same
    have k01 : KB tp H H1 := fun b o n e => k1 b o n (by rw [upd_ne (ne_of_none e hwl)]; exact e)
    refine for_it (walk_range (lo := 0) (n := d.toNat)) (fun i σ H' => ∃ k4, σ = [some (.ref tp), some (.int most), some (.str SG), some (.ref wl), k4, none] ∧ KB tp H H' ∧ Tape H' tp cl ns ∧
      ∃ ws : List Str, H' wl = some (.lst (ws.map V.str)) ∧ ws.length = i ∧ ∀ v ∈ ws, Wd (cp v) ∧ v.length ≤ 6) ⟨none, rfl, k01, T1, [], hw1, rfl, fun _ h => nomatch h⟩ (fun _ _ _ _ _ => trivial) ?_ ?_
    · rintro i x σ Ha Hb hi ⟨k4, rfl, ka, Ta, ws, hw, hwl', hwd⟩ ⟨rfl, rfl⟩
      refine ⟨_, rfl, .inl ⟨rfl, _, SqL.of hw⟩, ⟨_, rfl⟩, _, rfl, tp, cl, ns, 1, 6, rfl, Ta, by decide, by decide, fun Hc d2 kc Tc e0 e1 => ⟨d2, rfl, by omega, by omega, fun D hD => ?_⟩⟩
      have hwc : Hc wl = some (.lst (ws.map V.str)) := kc wl _ nt.symm hw
      have nD := Tc.fresh hD
      refine lc_range (lo := 0) (n := d2.toNat) (fun j H' => KB tp Hc H' ∧ Tape H' tp cl ns ∧ ∃ cs : List Nat, H' D = some (.lst ((cs.map fun c => (⟨#[c]⟩ : Str)).map V.str)) ∧ cs.length = j ∧ ∀ c ∈ cs, Sgn c)
        ⟨(KB.refl _ _).over hD, Tc.new hD, [], upd_same, rfl, fun _ h => nomatch h⟩ ?_ ?_
      · rintro j H' hj ⟨kj, Tj, cs, hd, hcl, hcs⟩
        refine ⟨rfl, _, rfl, _, rfl, _, rfl, SG, rfl, sg_line, tp, cl, ns, _, rfl, Tj, (by rw [sg_len]; decide), fun H3 d3 k3 T3 p0 p1 => ?_⟩
        obtain ⟨c, hc, hsg⟩ := sg_at p0 p1
        have hd3 : H3 D = some (.lst ((cs.map fun c => (⟨#[c]⟩ : Str)).map V.str)) := k3 D _ nD.1.symm hd
        refine ⟨SG, d3, c, rfl, rfl, sg_line, hc, _, hd3, ?_, (kj.trans k3).over hD, T3.other nD.1 nD.2, cs ++ [c], ?_, ?_, ?_⟩
        · rw [List.length_map, List.length_map]
          exact small_line (by omega)
        · rw [upd_same, List.map_append, List.map_append]
          rfl
        · rw [List.length_append, hcl]
          rfl
        · intro c' hc'
          rcases List.mem_append.mp hc' with h | h
          · exact hcs c' h
          · rw [List.mem_singleton.mp h]
            exact hsg
      · rintro H' ⟨kj, Tj, cs, hd, hcl, hcs⟩
        have hw' : H' wl = some (.lst (ws.map V.str)) := kj wl _ nt.symm hwc
        refine ⟨_, D, _, rfl, rfl, .inl (SqL.of hd), ?_, wl, _, _, rfl, rfl, hw', ?_, _, rfl, ?_, Tj.other nt nc, ws ++ [Txt.join (Str.ofString "") (cs.map fun c => (⟨#[c]⟩ : Str))], ?_, ?_, ?_⟩
        · rw [sum_ones, List.length_map]
          have : (Str.ofString "").length = 0 := by decide +kernel
          rw [this]
          omega
        · rw [List.length_map, hwl']
          exact small_line (by omega)
        · exact fun b o n e => by
            rw [upd_ne (ne_of_none e hwl)]
            exact kj b o n (kc b o n (ka b o n e))
        · rw [upd_same, List.map_append]
          rfl
        · rw [List.length_append, hwl']
          rfl
        · intro v hv
          rcases List.mem_append.mp hv with h | h
          · exact hwd v h
          · rw [List.mem_singleton.mp h, word_cp]
            refine ⟨⟨fun e => ?_, hcs⟩, ?_⟩
            · rw [e] at hcl
              have : d2.toNat = 0 := hcl.symm
              omega
            · rw [← cp_len, word_cp, hcl]
              omega
    · rintro σ H' ⟨k4, rfl, ka, Ta, ws, hw, hwl', hwd⟩
      have hn : ws.length ≤ 1000 := by omega
      have hsum : (ws.map (·.length)).sum ≤ 6000 := Nat.le_trans (sum_le (n := 6) fun v hv => (hwd v hv).2) (by omega)
      have hflat : (flat (ws.map cp)).length ≤ 7000 := by
        rw [flat_len]
        have e : (ws.map cp).map (·.length) = ws.map (·.length) := by
          rw [List.map_map]
          exact List.map_congr_left fun v _ => cp_len v
        rw [e, List.length_map]
        omega
      have hW : ∀ v ∈ ws.map cp, Wd v := fun v hv => by
        obtain ⟨u, hu, rfl⟩ := List.mem_map.mp hv
        exact (hwd u hu).1
      have hne : ws.map cp ≠ [] := fun e => by
        have := congrArg List.length e
        rw [List.length_map, hwl'] at this
        have : d.toNat = 0 := this
        omega
      have hj : cp (Txt.join (Str.ofString " ") ws) = (flat (ws.map cp)).drop 1 := by rw [TL.join_eq, join_cp]
      have hc : cp (cutS (Txt.join (Str.ofString " ") ws) none (some 60)) = ((flat (ws.map cp)).drop 1).take 60 := by rw [cut60 rfl, hj]
      refine ⟨⟨_, rfl⟩, _, rfl, _, wl, ws, rfl, rfl, .inl (SqL.of hw), ?_, _, rfl, _, rfl, ?_, rfl, _, _, rfl, rfl, ?_, q H' _ ka Ta (words_good hW hne hc)⟩
      · have : (Str.ofString " ").length = 1 := by decide +kernel
        rw [this]
        omega
      · rw [← cp_len, hj, List.length_drop]
        exact Nat.le_of_lt (small_line (by omega))
      · rw [← cp_len, hc, List.length_take]
        exact Nat.le_of_lt (small_line (by omega))
end
end Sea
namespace Sea
open PySem PySem.Spec PyProof.Rows L2
/-! the same thing; what the program tells -/
def SameV : Nat → Hp → V → V → Prop
  | 0, _, x, y => Plain y ∧ x = y
  | n + 1, H, x, y => (Plain y ∧ x = y) ∨ ∃ (a b : Addr) (xs ys : List V), x = .ref a ∧ y = .ref b ∧ H a = some (.tup xs) ∧ H b = some (.tup ys) ∧ xs.length = ys.length ∧ ys.length ≤ 1000 ∧
      ∀ (i : Nat) (u v : V), xs[i]? = some u → ys[i]? = some v → SameV n H u v
theorem SameV.keep : ∀ {n : Nat} {H H' : Hp} {x y : V}, SameV n H x y → Same H H' → SameV n H' x y
  | 0, _, _, _, _, h, _ => h
  | n + 1, _, _, _, _, h, s => by
    rcases h with h | ⟨a, b, xs, ys, h1, h2, h3, h4, h5, h6, h7⟩
    · exact .inl h
    · exact .inr ⟨a, b, xs, ys, h1, h2, s _ _ h3, s _ _ h4, h5, h6, fun i u v e1 e2 => (h7 i u v e1 e2).keep s⟩
def spSame (n : Nat) : Sp := fun vs H Q _ => ∃ x y, vs = [x, y] ∧ SameV n H x y ∧ ∀ H', Same H H' → Q (.bl true) H'
def spNever : Sp := fun _ _ _ _ => False
theorem trues (n : Nat) : ((List.replicate n (V.bl true)).all (· == V.bl true)) = true := by
  induction n with
  | zero => rfl
  | succ n ih => rw [List.replicate_succ, List.all_cons, ih]; rfl
section
variable {P : Program} {w : World} {K : PySem.W.Frag} {mg : Str → Option Value} {base : Heap}
theorem ok_same_at {f : Addr} {fd : FuncData} (F : Fun K "_law_same" "_law_same" s__law_same f fd) (m_isinstance : mg "isinstance" = none) (m_tuple : mg "tuple" = none) (m_bool : mg "bool" = none) (m_str : mg "str" = none) (m_int : mg "int" = none)
    (m_len : mg "len" = none) (m_all : mg "all" = none) (m_range : mg "range" = none) {k : Nat} {sp sp' : Sp} (c__law_same : Cal P w K mg base k "_law_same" sp)
    (hyp : ∀ vs H Q E, sp' vs H Q E → ∃ x y, vs = [x, y] ∧ (∀ H', Same H H' → Q (.bl true) H') ∧ ((Plain y ∧ x = y) ∨ ∃ (a b : Addr) (xs ys : List V), x = .ref a ∧ y = .ref b ∧ H a = some (.tup xs) ∧ H b = some (.tup ys) ∧ xs.length = ys.length ∧ ys.length ≤ 1000 ∧
      ∀ (i : Nat) (u v : V), xs[i]? = some u → ys[i]? = some v → ∀ H1 Q1 E1, Same H H1 → (∀ H', Same H1 H' → Q1 (.bl true) H') → sp [u, v] H1 Q1 E1)) :
    FnOk P w K mg base CX0 (k + 1) f fd ["_law_told_here", "_law_due_here"] sp' := by
  refine F.ok sc__law_same (fun vs H Q E h => ?_) (fun cdv A outer s H vs Q E hr h => ?_)
  · obtain ⟨x, y, rfl, _⟩ := hyp _ _ _ _ h
    rfl
  · obtain ⟨x, y, rfl, q, ways⟩ := hyp _ _ _ _ h
    refine ⟨_, (pss_cons (ps_if (pt_val (pe_callB call_isi (by rfl) m_isinstance (by decide +kernel) (pa_cons (pv 1) (pa_cons (pe_bltn (v := .ty "tuple") (by rfl) m_tuple (by decide +kernel) rfl) pa_nil))))
    (pss_cons (ps_if (PW.pt (pw_or (pt_not (pt_val (pe_callB call_isi (by rfl) m_isinstance (by decide +kernel) (pa_cons (pv 0) (pa_cons (pe_bltn (v := .ty "tuple") (by rfl) m_tuple (by decide +kernel) rfl) pa_nil))))) (pw_or1 (pt_cmpR op_ne (pe_callB call_len (by rfl) m_len (by decide +kernel) (pa_cons (pv 0) pa_nil)) (pe_callB call_len (by rfl) m_len (by decide +kernel) (pa_cons (pv 1) pa_nil)) (nomark _)))))
    (pss_one (ps_ret (pe_bl)))
    pss_nil)
    (pss_one (ps_ret (pe_callB (cr_all rfl) (by rfl) m_all (by decide +kernel) (pa_cons (pe_lc (own := [("_law_k", 2)]) rfl sc__law_same.nd (pi_range1 (by rfl) m_range (pa_cons (pe_callB call_len (by rfl) m_len (by decide +kernel) (pa_cons (pv 1) pa_nil)) pa_nil)) (blkOk_by (N := N__law_same) (sc := defScope s__law_same) (by decide +kernel)) (fun _ _ _ _ _ => (pg_name (i := 2) sc__law_same.nd rfl (Or.inl rfl))) (fun _ _ _ _ _ => pts_nil) (fun _ _ _ _ _ => (pe_c c__law_same hr (Nat.le_refl _) rfl (pa_cons (pe_ix (show IxR _ (rIxT K) from ix_tup) (pv 0) (pv 2) (fun _ _ => rfl)) (pa_cons (pe_ix (show IxR _ (rIxT K) from ix_tup) (pv 1) (pv 2) (fun _ _ => rfl)) pa_nil))))) pa_nil)))))
    pss_nil)
    (pss_cons (ps_if (pt_cmpR op_isN (pv 1) (pe_non) (nomark _))
    (pss_one (ps_ret (pe_cmpR op_isN (pv 0) (pe_non) (nomark _))))
    pss_nil)
    (pss_cons (ps_if (pt_val (pe_callB call_isi (by rfl) m_isinstance (by decide +kernel) (pa_cons (pv 1) (pa_cons (pe_bltn (v := .ty "bool") (by rfl) m_bool (by decide +kernel) rfl) pa_nil))))
    (pss_one (ps_ret (pe_and (pe_callB call_isi (by rfl) m_isinstance (by decide +kernel) (pa_cons (pv 0) (pa_cons (pe_bltn (v := .ty "bool") (by rfl) m_bool (by decide +kernel) rfl) pa_nil))) (pe_one (pe_cmpR op_eq (pv 0) (pv 1) (nomark _))))))
    pss_nil)
    (pss_cons (ps_if (pt_val (pe_callB call_isi (by rfl) m_isinstance (by decide +kernel) (pa_cons (pv 1) (pa_cons (pe_bltn (v := .ty "str") (by rfl) m_str (by decide +kernel) rfl) pa_nil))))
    (pss_one (ps_ret (pe_and (pe_callB call_isi (by rfl) m_isinstance (by decide +kernel) (pa_cons (pv 0) (pa_cons (pe_bltn (v := .ty "str") (by rfl) m_str (by decide +kernel) rfl) pa_nil))) (pe_one (pe_cmpR op_eq (pv 0) (pv 1) (nomark _))))))
    pss_nil)
    (pss_one (ps_ret (pe_and (pe_callB call_isi (by rfl) m_isinstance (by decide +kernel) (pa_cons (pv 0) (pa_cons (pe_bltn (v := .ty "int") (by rfl) m_int (by decide +kernel) rfl) pa_nil))) (pe_and (pe_not (pe_callB call_isi (by rfl) m_isinstance (by decide +kernel) (pa_cons (pv 0) (pa_cons (pe_bltn (v := .ty "bool") (by rfl) m_bool (by decide +kernel) rfl) pa_nil)))) (pe_one (pe_cmpR op_eq (pv 0) (pv 1) (nomark _))))))))))), ?_⟩
    rcases ways with ⟨hp, rfl⟩ | ⟨a, b, xs, ys, rfl, rfl, ha, hb, hl, hl2, hsub⟩
    · have q0 := q H (Same.refl H)
      cases x with
      | non =>
        exact ⟨_, rfl, _, _, _, _, false, rfl, .ty _, .base .non, kit_ty (by decide +kernel), false, rfl, _, rfl, rfl, _, rfl, _, rfl, rfl, q0⟩
      | bl c =>
        refine ⟨_, rfl, _, _, _, _, false, rfl, .ty _, .base (.bl c), kit_ty (by decide +kernel), false, rfl, _, rfl, rfl, _, rfl, _, rfl, _, _, _, _, true, rfl, .ty _, .base (.bl c), kit_ty (by decide +kernel), true, rfl, _, rfl, _, _, _, _, true, rfl, .ty _, .base (.bl c), kit_ty (by decide +kernel), true, rfl, iteT ⟨_, rfl, _, rfl, rfl, ?_⟩⟩
        rw [decide_eq_true rfl]
        exact q0
      | int i =>
        refine ⟨_, rfl, _, _, _, _, false, rfl, .ty _, .base (.int i), kit_ty (by decide +kernel), false, rfl, _, rfl, rfl, _, rfl, _, rfl, _, _, _, _, false, rfl, .ty _, .base (.int i), kit_ty (by decide +kernel), false, rfl, _, rfl, _, _, _, _, false, rfl, .ty _, .base (.int i), kit_ty (by decide +kernel), false, rfl, _, rfl, _, _, _, _, true, rfl, .ty _, .base (.int i), kit_ty (by decide +kernel), true, rfl, iteT ⟨_, rfl, _, _, _, _, false, rfl, .ty _, .base (.int i), kit_ty (by decide +kernel), ?_⟩⟩
        refine ⟨false, rfl, _, rfl, iteT ⟨_, rfl, _, rfl, rfl, ?_⟩⟩
        rw [decide_eq_true rfl]
        exact q0
      | str z =>
        refine ⟨_, rfl, _, _, _, _, false, rfl, .ty _, .base (.str z), kit_ty (by decide +kernel), false, rfl, _, rfl, rfl, _, rfl, _, rfl, _, _, _, _, false, rfl, .ty _, .base (.str z), kit_ty (by decide +kernel), false, rfl, _, rfl, _, _, _, _, true, rfl, .ty _, .base (.str z), kit_ty (by decide +kernel), true, rfl, _, rfl, _, _, _, _, true, rfl, .ty _, .base (.str z), kit_ty (by decide +kernel), true, rfl, iteT ⟨_, rfl, _, rfl, rfl, ?_⟩⟩
        rw [decide_eq_true rfl]
        exact q0
      | ref a => exact hp.elim
      | byt z => exact hp.elim
      | flt z => exact hp.elim
      | ty z => exact hp.elim
    · have hl3 : ys.length ≤ sizeLine := Nat.le_of_lt (small1000 hl2)
      have hl4 : xs.length ≤ sizeLine := hl ▸ hl3
      refine ⟨_, rfl, _, _, _, _, true, rfl, .ty _, .base (.tup hb), kit_ty (by decide +kernel), true, rfl, _, rfl, _, _, _, _, true, rfl, .ty _, .base (.tup ha), kit_ty (by decide +kernel), true, rfl, ?_⟩
      refine ⟨_, rfl, _, xs.length, rfl, .inr ⟨_, SqT.of ha, rfl⟩, _, rfl, _, ys.length, rfl, .inr ⟨_, SqT.of hb, rfl⟩, rfl, _, rfl, ?_⟩
      rw [hl]
      refine ite2 (fun e => absurd e (by simp)) (fun _ => ?_)
      refine ⟨_, rfl, _, ys.length, rfl, .inr ⟨_, SqT.of hb, rfl⟩, _, rfl, by omega, by omega, fun D hD => ?_⟩
      refine lc_it (walk_range (lo := 0) (n := ((ys.length : Nat) : Int).toNat)) (fun i H' => Same H H' ∧ H' D = some (.lst (List.replicate i (V.bl true)))) ⟨same_new hD, upd_same⟩ (fun _ _ _ _ => trivial) ?_ ?_
      · rintro i x Ha Hb hi ⟨hs, hd⟩ ⟨rfl, rfl⟩
        have hi' : i < ys.length := by rw [Int.toNat_natCast] at hi; exact hi
        have ex : xs[i]? = some (xs[i]'(hl ▸ hi')) := List.getElem?_eq_getElem (hl ▸ hi')
        have ey : ys[i]? = some (ys[i]'hi') := List.getElem?_eq_getElem hi'
        have at1 : atI xs (0 + (i : Nat)) = some (xs[i]'(hl ▸ hi')) := by rw [Int.zero_add]; exact atI_nat ex
        have at2 : atI ys (0 + (i : Nat)) = some (ys[i]'hi') := by rw [Int.zero_add]; exact atI_nat ey
        refine ⟨rfl, _, rfl, _, rfl, a, xs, _, _, rfl, rfl, SqT.of (hs _ _ ha), at1, _, rfl, _, rfl, b, ys, _, _, rfl, rfl, SqT.of (hs _ _ hb), at2, ?_⟩
        refine hsub i _ _ ex ey _ _ _ hs fun H2 s2 => ⟨_, s2 _ _ hd, ?_, same_over (hs.trans s2) hD, ?_⟩
        · rw [List.length_replicate]
          exact small_line (by omega)
        · rw [upd_same, List.replicate_succ']
      · rintro H' ⟨hs, hd⟩
        have hd2 : H' D = some (.lst ((List.replicate ys.length true).map V.bl)) := by rw [hd, Int.toNat_natCast, List.map_replicate]
        have q' := q H' hs
        have e : (List.replicate ys.length true).all id = true := List.all_eq_true.mpr fun b hb => by rw [List.eq_of_mem_replicate hb]; rfl
        refine ⟨D, _, rfl, SqL.of hd2, ?_⟩
        rw [e]
        exact q'
end
end Sea
/-! a set made of a list of texts, and its members in order -/
namespace Sea
open PySem PySem.Spec PyProof.Rows L2
/-- the text that an entry holds -/
def keyT (e : Int × Value) : Str := strOf e.2
def TxtE (P : Program) (w : World) (e : Int × Value) : Prop := ∃ (k : Str) (tk : Tok), e.2 = Value.str k tk ∧ e.1 = (PySem.strKind P w).hash k
/-- the set at a holds the texts xs, each once -/
structure SetT (P : Program) (w : World) (h : Heap) (a : Addr) (xs : List Str) : Prop where
  ex : ∃ (o : Obj) (es : Array (Int × Value)) (ep : Nat) (t : SetTable), h.get? a = some o ∧ o.ExactSet ∧ o.data = .set es ep t ∧ (∀ e ∈ es.toList, TxtE P w e) ∧ (es.toList.map keyT).Nodup ∧
    (∀ k, k ∈ es.toList.map keyT ↔ k ∈ xs) ∧ es.size ≤ xs.length ∧ t.fits es.size = true ∧ Ris t.place.toList ∧ (w.params.followText "set-order" = true ∨ t.led = true)
section
variable {P : Program} {w : World}
theorem txt_elems {l : List (Int × Value)} (g : ∀ e ∈ l, TxtE P w e) : ElemsOf (PySem.strKind P w) l := fun e he => by
  obtain ⟨k, tk, h1, h2⟩ := g e he
  exact ⟨⟨k, by rw [h1]; exact strKind_is _ _ _ _, h2⟩, by rw [h1] <;> rfl⟩
theorem txt_is {e : Int × Value} (g : TxtE P w e) (k : Str) : (PySem.strKind P w).is k e.2 = true ↔ keyT e = k := by
  obtain ⟨k0, tk, h1, _⟩ := g
  unfold keyT
  rw [h1]
  constructor
  · exact fun q => (PySem.strKind P w).inj _ _ _ (strKind_is P w k0 tk) q
  · rintro rfl
    exact strKind_is _ _ _ _
theorem txt_mem {l : List (Int × Value)} (g : ∀ e ∈ l, TxtE P w e) (k : Str) : k ∈ l.map keyT ↔ ∃ e ∈ l, (PySem.strKind P w).is k e.2 = true := by
  rw [List.mem_map]
  exact ⟨fun ⟨e, he, q⟩ => ⟨e, he, (txt_is (g e he) k).2 q⟩, fun ⟨e, he, q⟩ => ⟨e, he, (txt_is (g e he) k).1 q⟩⟩
theorem SetT.keep {h h' : Heap} {a : Addr} {xs : List Str} (R : SetT P w h a xs) (k : ∀ o, h.get? a = some o → h'.get? a = some o) : SetT P w h' a xs := by
  obtain ⟨o, es, ep, t, ho, r⟩ := R.ex
  exact ⟨o, es, ep, t, k o ho, r⟩
variable {A : Around} {E : Value → Shared → Prop} {s : Shared} {a : Addr} {xs : List Str}
/-- the entry laid, and the table made anew where it is too full -/
theorem lay_tail {g : Bool → Sem Unit} (hg : ∀ (b : Bool) (s1 : Shared) (Q' : Unit → Shared → Prop), Q' () s1 → wpAny (model P w) A (g b) Q' E s1)
    {o : Obj} {es es1 : Array (Int × Value)} {ep : Nat} {t t2 : SetTable} {ys : List Str} (ho : s.heap.get? a = some o) (hex : o.ExactSet) (hd : o.data = .set es ep t)
    (g1 : ∀ e ∈ es1.toList, TxtE P w e) (nd : (es1.toList.map keyT).Nodup) (m1 : ∀ k, k ∈ es1.toList.map keyT ↔ k ∈ ys) (hz : es1.size ≤ ys.length) (hb : ys.length < scanBound)
    (hf : t2.fits es1.size = true) (hr : Ris t2.place.toList) (hl : w.params.followText "set-order" = true ∨ t2.led = true) {dummy : Bool} {R : Option Bool → Shared → Prop}
    (hR : ∀ h', Heap.SameBut a s.heap h' → SetT P w h' a ys → R (some true) { s with heap := h' }) :
    wpAny (model P w) A (do
        storeSet a es1 t2
        if (!dummy && t2.tooFull) = true then do
            g (relayAll t2 es1 (SetTable.grown es1.size)).2.2
            storeSet a (relayAll t2 es1 (SetTable.grown es1.size)).1 (relayAll t2 es1 (SetTable.grown es1.size)).2.1
            pure (some true)
          else pure (some true)) R E s := by
  have hb1 : es1.size < scanBound := Nat.lt_of_le_of_lt hz hb
  refine wpAny_bind (wpAny_storeSet_of ho hd ?_ (fits_of_scanBound hb1))
  have o1 := store_at (es' := es1) (t' := t2) ho hd
  have sb := Heap.SameBut.update s.heap a (Obj.putSet es1 t2)
  by_cases full : (!dummy && t2.tooFull) = true
  · rw [if_pos full]
    have pm := relayAll_perm t2 es1 (SetTable.grown es1.size)
    have f3 := relayAll_fits t2 es1 (SetTable.grown es1.size)
    have r3 := relayAll_ris t2 es1 (SetTable.grown es1.size)
    have l3 := relayAll_led t2 es1 (SetTable.grown es1.size)
    generalize relayAll t2 es1 (SetTable.grown es1.size) = Z at pm f3 r3 l3 ⊢
    obtain ⟨es2, t3, gave⟩ := Z
    dsimp only at pm f3 r3 l3 ⊢
    have same : es2.size = es1.size := by rw [← Array.length_toList, pm.length_eq, Array.length_toList]
    refine wpAny_bind (hg _ _ _ (wpAny_bind (wpAny_storeSet_of o1 rfl ?_ (fits_of_scanBound (by rw [same]; exact hb1)))))
    refine wpAny_pure (hR _ (sb.trans (Heap.SameBut.update _ a _)) ⟨_, es2, _, t3, store_at (es' := es2) (t' := t3) o1 rfl, hex, rfl, fun e he => g1 e (pm.mem_iff.mp he),
      (pm.map keyT).nodup_iff.mpr nd, fun k => (pm.map keyT).mem_iff.trans (m1 k), by rw [same]; exact hz, f3, r3, hl.imp id fun q => by rw [l3]; exact q⟩)
  · rw [if_neg full]
    exact wpAny_pure (hR _ sb ⟨_, es1, _, t2, o1, hex, rfl, g1, nd, m1, hz, hf, hr, hl⟩)
theorem add_text {k : Str} {tk : Tok} {Q : Bool → Shared → Prop} (R : SetT P w s.heap a xs) (room : xs.length + 1 < scanBound)
    (hQ : ∀ h' b, Heap.SameBut a s.heap h' → SetT P w h' a (xs ++ [k]) → Q b { s with heap := h' }) :
    wpAny (model P w) A (setAddHashed a (.str k tk) ((PySem.strKind P w).hash k)) Q E s := by
  obtain ⟨o, es, ep, t, ho, hex, hd, g, nd, hm, hz, hf, hr, hl⟩ := R.ex
  have hb : es.size < scanBound := by omega
  have hkey : (PySem.strKind P w).is k (.str k tk) = true := strKind_is _ _ _ _
  have hsc : (Value.str k tk).scannable = true := rfl
  have hel : ElemsOf (PySem.strKind P w) es.toList := txt_elems g
  unfold setAddHashed setAddHashedIn
  refine wpAny_holding (wpAny_bind (wpAny_setState_of ho hd hf ?_))
  dsimp only
  rw [byScan_of hsc hb hel]
  simp only [↓reduceIte]
  unfold setAddByScan
  refine wpAny_bind (wpAny_bind (wpAny_rule (wpAny_bind (wpAny_setScan_of hkey ho hd hf hel ?_))))
  cases hfi : List.findIdx? (fun e => (PySem.strKind P w).is k e.2) es.toList with
  | some j =>
    dsimp only
    obtain ⟨hj, pj, _⟩ := List.findIdx?_eq_some_iff_getElem.mp hfi
    have kin : k ∈ xs := (hm k).1 ((txt_mem g k).2 ⟨es.toList[j], List.getElem_mem hj, pj⟩)
    refine wpAny_pure (wpAny_pure (hQ s.heap _ (Heap.SameBut.refl a s.heap) ⟨o, es, ep, t, ho, hex, hd, g, nd, fun i => (hm i).trans ?_, by rw [List.length_append]; omega, hf, hr, hl⟩))
    rw [List.mem_append, List.mem_singleton]
    exact ⟨.inl, fun q => q.elim id fun e => e ▸ kin⟩
  | none =>
    dsimp only
    have kout : k ∉ es.toList.map keyT := fun q => by
      obtain ⟨e, he, q⟩ := (txt_mem g k).1 q
      have c := List.findIdx?_eq_none_iff.mp hfi e he
      rw [q] at c
      cases c
    have gw : ∀ (b : Bool) {s1 : Shared} {Q' : Unit → Shared → Prop}, Q' () s1 → wpAny (model P w) A (match b with | true => rule "set.scan.the-table-gave-way" | false => pure ()) Q' E s1 :=
      fun b s1 Q' q => by cases b <;> first | exact wpAny_pure q | exact wpAny_rule q
    have pm := layNew_perm t es ((PySem.strKind P w).hash k) (.str k tk)
    have f1 := layNew_fits t es ((PySem.strKind P w).hash k) (.str k tk)
    have r1 := layNew_ris t es ((PySem.strKind P w).hash k) (.str k tk) hr
    have l1 := layNew_led t es ((PySem.strKind P w).hash k) (.str k tk)
    generalize layNew t es ((PySem.strKind P w).hash k) (.str k tk) = Z at pm f1 r1 l1 ⊢
    obtain ⟨es1, t1, dummy, gave⟩ := Z
    dsimp only at pm f1 r1 l1 ⊢
    rw [Array.toList_push] at pm
    have pc : es1.toList.Perm (((PySem.strKind P w).hash k, Value.str k tk) :: es.toList) := pm.trans (List.perm_append_singleton _ _)
    have pk : (es1.toList.map keyT).Perm (k :: es.toList.map keyT) := pc.map keyT
    have g1 : ∀ e ∈ es1.toList, TxtE P w e := fun e he => by
      rcases List.mem_cons.mp (pc.mem_iff.mp he) with q | q
      · rw [q]; exact ⟨k, tk, rfl, rfl⟩
      · exact g e q
    have nd1 : (es1.toList.map keyT).Nodup := pk.nodup_iff.mpr (List.nodup_cons.mpr ⟨kout, nd⟩)
    have m1 : ∀ i, i ∈ es1.toList.map keyT ↔ i ∈ xs ++ [k] := fun i => by
      rw [pk.mem_iff, List.mem_cons, hm i, List.mem_append, List.mem_singleton]
      exact Or.comm
    have z1 : es1.size ≤ (xs ++ [k]).length := by
      rw [← Array.length_toList, pc.length_eq, List.length_cons, Array.length_toList, List.length_append]
      exact Nat.succ_le_succ hz
    have b1 : (xs ++ [k]).length < scanBound := by rw [List.length_append]; exact room
    have led1 : w.params.followText "set-order" = true ∨ t1.led = true := hl.imp id fun q => by rw [l1]; exact q
    refine wpAny_bind (gw _ ?_)
    split
    · refine wpAny_bind ?_
      rw [hashByValue_scannable 8 hsc]
      refine wpAny_pure (lay_tail ?_ ho hex hd g1 nd1 m1 z1 b1 ?_ ?_ ?_ ?_)
      · intro b s1 Q' q; cases b <;> first | exact wpAny_pure q | exact wpAny_rule q
      · first | (split <;> first | exact f1 | exact SetTable.fits_plain_off f1) | exact f1
      · first | (split <;> exact r1) | exact r1
      · first | (split <;> exact led1) | exact led1
      · intro h' sb r; dsimp only; exact wpAny_pure (hQ h' _ sb r)
    · refine wpAny_bind (wpAny_pure ?_)
      simp only [↓reduceIte]
      refine lay_tail ?_ ho hex hd g1 nd1 m1 z1 b1 f1 r1 led1 ?_
      · intro b s1 Q' q; cases b <;> first | exact wpAny_pure q | exact wpAny_rule q
      · intro h' sb r; dsimp only; exact wpAny_pure (hQ h' _ sb r)
end
end Sea
/-! set(xs), xs a list of texts; sorted of it -/
namespace Sea
open PySem PySem.Spec PyProof.Rows L2
section
variable {P : Program} {w : World} {A : Around} {R : Result → Shared → Prop} {I : Addr} {fp wr : List Addr} {G : Array GenState → Array GenState → Prop} {n : Nat} {Pv : Nat → Value → Prop} {St : Nat → Shared → Prop}
theorem fill_texts (W : WalksS P w A.in1 I fp wr G n Pv St) (S : Addr) (hS : S ∉ fp) (xs : List Str) (hn : xs.length = n) (hfew : n < 4000)
    (hval : ∀ i v, Pv i v → ∃ t, v = .str (xs.getD i Str.empty) t) :
    ∀ (k i : Nat) (s : Shared), n - i = k → i ≤ n → St i s → SetT P w s.heap S (xs.take i) →
      (∀ s', Moved (S :: wr) G s s' → SetT P w s'.heap S xs → R (.ok (.ret .none)) s') →
      codeAny (model P w) A (.builtin "set.update.loop" ⟨[.ref S, .ref I], []⟩) R s := by
  have out : S ∉ wr := fun h => hS (W.sub _ h)
  have more : ∀ b ∈ wr, b ∈ S :: wr := fun b hb => List.mem_cons_of_mem _ hb
  intro k
  induction k with
  | zero =>
    intro i s hk hi hst hT hR
    have e : i = n := by omega
    subst e
    rw [← hn, List.take_length] at hT
    refine codeAny_builtin PyProof.Rows.F.entry_set_update_loop ?_
    rw [Around.under_plainId PyProof.Rows.F.plain_set_update_loop _]
    exact wpAny_bind (W.done s _ _ hst fun s' hm => wpAny_pure (hR s' (hm.mono more) (hT.keep fun o => hm.heap S o out)))
  | succ k ih =>
    intro i s hk hi hst hT hR
    have lt : i < n := by omega
    refine codeAny_builtin PyProof.Rows.F.entry_set_update_loop ?_
    rw [Around.under_plainId PyProof.Rows.F.plain_set_update_loop _]
    refine wpAny_bind (W.item i s _ _ lt hst fun v s' hP hst' hm => ?_)
    obtain ⟨t, rfl⟩ := hval i v hP
    have hT' : SetT P w s'.heap S (xs.take i) := hT.keep fun o => hm.heap S o out
    show wpAny _ A.in1 (holding [Value.str (xs.getD i Str.empty) t] (setAdd S (.str (xs.getD i Str.empty) t)) >>= _) _ _ s'
    refine wpAny_bind (wpAny_holding ?_)
    unfold setAdd
    refine wpAny_holding (wpAny_bind ((PySem.strKind P w).pyHash (k := xs.getD i Str.empty) (strKind_is _ _ _ _) ?_))
    refine add_text (s := { s' with toks := s'.toks + 1 }) hT' (by
      have := List.length_take_le' i xs
      unfold scanBound
      omega) fun h' b sb hT2 => ?_
    have step : xs.take i ++ [xs.getD i Str.empty] = xs.take (i + 1) := by
      have hl : i < xs.length := by omega
      rw [List.take_add_one, List.getD_eq_getElem?_getD, List.getElem?_eq_getElem hl]
      rfl
    rw [step] at hT2
    refine wpAny_pure ⟨plainId_quiet PyProof.Rows.F.plain_set_update_loop _, ih (i + 1) _ (by omega) lt (W.frame _ s' _ _ hst' (Nat.le_succ _) fun b hb o e => ?_) hT2 fun s2 hm2 hT3 => ?_⟩
    · rw [sb.2 b (fun q : b = S => hS (q ▸ hb))]
      exact e
    · refine hR s2 (Moved.trans W.gtrans ((hm.mono more).then_heap (Nat.le_succ _) fun b o hb e => ?_) hm2) hT3
      rw [sb.2 b (fun q : b = S => hb (q ▸ List.mem_cons_self))]
      exact e
end
section
variable {P : Program} {w : World} {A : Around} {E : Value → Shared → Prop} {s : Shared}
theorem setT_fresh {h : Heap} {a : Addr} (ho : h.get? a = some { cls := .type "set", dict := none, data := .set #[] 0 (.fresh 0 0 (!w.params.followText "set-order")) }) : SetT P w h a [] :=
  ⟨_, #[], 0, _, ho, ⟨rfl, rfl, rfl⟩, rfl, (fun e he => by simp at he), (by simp), (fun k => by simp), (Nat.le_refl _), (by rfl), List.Pairwise.nil, by
    show _ ∨ (!w.params.followText "set-order") = true
    cases w.params.followText "set-order"
    · exact .inr rfl
    · exact .inl rfl⟩
/-- a fresh set -/
abbrev SET0 (w : World) : Obj := { cls := .type "set", dict := none, data := .set #[] 0 (.fresh 0 0 (!w.params.followText "set-order")) }
theorem set_of_texts {l : Addr} {items : Array Value} {xs : List Str} {Q : Value → Shared → Prop} (hh : A.handled = none) (hl : s.heap.IsList l items) (hi : PyProof.Rows.StrsAre items.toList xs) (hfew : xs.length < 4000)
    (h : ∀ (h' : Heap) (tk : Nat), SetT P w h' s.heap.objs.size xs → (∀ b o, b < s.heap.objs.size → s.heap.get? b = some o → h'.get? b = some o) → Q (.ref s.heap.objs.size) { s with heap := h', toks := tk }) :
    wpAny (model P w) A (call (.type "set") [.ref l]) Q E s := by
  obtain ⟨c, tl, hmro⟩ := PySem.F.called_set.mro
  have hmade := PySem.F.called_set.made
  have hsub := PySem.F.called_set.sub
  refine wpAny_call (codeAny_of_tree ?_)
  show wpAny _ _ (callAny (.type "set") _) _ _ _
  refine wpAny_pure ⟨Code.quiet_builtin _ (by decide +kernel), codeAny_builtin PySem.F.entry_type_call ?_⟩
  rw [Around.under_plain (weight_type_call_type "set" [.ref l] []) rfl]
  have h1 := PySem.F.called_set.notType
  have h2 := PySem.F.called_set.canCreate
  have hct := PySem.F.typeCall_set_1 (.ref l)
  repeat (any_goals (first | assumption | wp_step))
  refine codeAny_mono (code_set_led1 (.ref l) (E := E) (Q₁ := fun obj s1 => obj = .ref s.heap.objs.size ∧ s1 = { s with heap := s.heap.push (SET0 w) }) ⟨rfl, rfl⟩) fun r s1 hr => ?_
  cases r with
  | error e => exact hr
  | ok fl =>
    cases fl with
    | next => exact hr.elim
    | brk => exact hr.elim
    | cont => exact hr.elim
    | ret obj =>
      obtain ⟨rfl, rfl⟩ := hr
      have hS : (s.heap.push (SET0 w)).get? s.heap.objs.size = some (SET0 w) := Heap.get?_push_size _ rfl
      have hT : Shared.TypeIs { s with heap := s.heap.push (SET0 w) } (.ref s.heap.objs.size) "set" := ⟨_, hS, rfl⟩
      have hli := PySem.F.called_set.init.lookup
      have hbi := PySem.F.called_set.init.bind (.ref s.heap.objs.size)
      repeat (any_goals (first | assumption | wp_step))
      refine codeAny_mono (codeAny_call_builtin (R := wants (fun r s2 => r = .none ∧ ∃ h' tk, s2 = { s with heap := h', toks := tk } ∧ SetT P w h' s.heap.objs.size xs ∧
          (∀ b o, b < s.heap.objs.size → s.heap.get? b = some o → h'.get? b = some o)) E) PySem.F.called_set.init.plain PySem.F.entry_set_init (check_set_init_1 hT ?_)) fun r2 s2 hr2 => ?_
      · obtain ⟨ol, hol, hcl, nl, hdl⟩ := hl
        obtain ⟨ocls, odict, odata, oslots⟩ := ol
        simp only at hcl hdl
        subst hcl
        subst hdl
        have hol' : (s.heap.push (SET0 w)).get? l = some { cls := .type "list", dict := odict, data := .seq items nl, slots := oslots } := Heap.get?_push_of_some _ hol
        have hsls := PySem.F.sub_list_set
        have hslf := PySem.F.sub_list_frozenset
        have hne : (Value.type "list" == Value.type "dict") = false := by decide
        have hl1 : (s.heap.push (SET0 w)).IsList l items := ⟨_, hol', rfl, nl, rfl⟩
        unfold Builtin.«set.__init__» noKeywords Builtin.Frozenset.updateFrom
        generalize hPI : pyIter = PI
        wp_walk
        subst hPI
        refine wpAny_pyIter_list hl1 (wpAny_bind (wpAny_runValue ?_))
        have lS : l < s.heap.objs.size := Heap.lt_size hol
        have hh3 : A.in1.in1.in1.handled = none := by simp [hh]
        have nI : l ≠ (s.heap.push (SET0 w)).objs.size := by
          rw [Heap.size_push]
          exact Nat.ne_of_lt (Nat.lt_succ_of_lt lS)
        have nS : s.heap.objs.size ∉ [(s.heap.push (SET0 w)).objs.size, l] := by
          rw [Heap.size_push]
          simp only [List.mem_cons, List.not_mem_nil, or_false, not_or]
          exact ⟨Nat.ne_of_lt (Nat.lt_succ_self _), Nat.ne_of_gt lS⟩
        have hsz : xs.length = items.size := by rw [← StrsAre.len_eq hi, Array.length_toList]
        refine fill_texts ((Walks.list hh3 _ l nI items).toS) s.heap.objs.size nS xs hsz (by rw [← hsz]; exact hfew) (fun i v hv => SS.strs_at hi i v (by rw [Array.getElem?_toList]; exact hv))
          (items.size - 0) 0 _ (by omega) (Nat.zero_le _) ⟨⟨_, Heap.get?_push_size _ rfl, rfl, rfl⟩, (hl1.push _)⟩ (setT_fresh (Heap.get?_push_of_some _ hS)) ?_
        intro s' hm hT'
        obtain ⟨h', g', d', tk', os'⟩ := s'
        have eg : g' = s.gens := hm.gens
        have ed : d' = s.drawn := hm.drawn
        have eo : os' = s.os := hm.os
        subst eg
        subst ed
        subst eo
        show wpAny _ _ _ _ _ _
        refine wpAny_pure ?_
        show wpAny _ _ (ret Value.none) _ _ _
        refine wpAny_pure ⟨rfl, h', tk', rfl, hT', fun b o hb e => ?_⟩
        refine hm.heap b o ?_ (Heap.get?_push_of_some _ (Heap.get?_push_of_some _ e))
        simp only [List.mem_cons, List.not_mem_nil, or_false, not_or]
        exact ⟨Nat.ne_of_lt hb, by rw [Heap.size_push]; exact Nat.ne_of_lt (Nat.lt_succ_of_lt hb)⟩
      · cases r2 with
        | error e => exact hr2
        | ok fl2 =>
          cases fl2 with
          | ret r =>
            obtain ⟨rfl, h', tk, rfl, hT', hk'⟩ := hr2
            repeat (any_goals (first | assumption | wp_step))
            exact h _ _ hT' hk'
          | _ => exact hr2.elim
end
end Sea
/-! the rules: set(xs), sorted(set of texts) -/
namespace Sea
open PySem PySem.Spec PyProof.Rows L2
section
variable {P : Program} {w : World} {A : Around} {E : Value → Shared → Prop} {s : Shared}
theorem sorted_setT {a : Addr} {xs : List Str} {Q : Value → Shared → Prop} (R : SetT P w s.heap a xs) (hh : A.handled = none) (h64 : xs.length < 64)
    (hQ : ∀ s' p (out : Array Value) (c : Nat) (zs : List Str), (∀ b o, s.heap.get? b = some o → s'.heap.get? b = some o) → s'.gens = s.gens → s'.os = s.os → s.heap.objs.size ≤ p →
      s'.heap.get? p = some (seqObj "list" out c) → StrsAre out.toList zs → zs.Nodup → sortedS zs = true → (∀ k, k ∈ zs ↔ k ∈ xs) → zs.length ≤ xs.length → Q (.ref p) s') :
    wpAny (model P w) A (call (.builtin "sorted") [.ref a]) Q E s := by
  obtain ⟨o, es, ep, t, ho, hex, hd, g, nd, hm, hz, hf, hr, hl⟩ := R.ex
  refine Calls.call_function_entry kind_sorted plain_sorted entry_sorted (args_sorted1 _) ?_
  unfold Builtin.«sorted»
  refine wpAny_bind (m := checkCount "sorted" 1 1 _) (wpAny_pure ?_)
  refine wpAny_bind (collect_set (A := A.in1) hh ⟨o, ho, hex.1, hd⟩ hf (by unfold scanBound; omega) hr hl fun s1 vs k1 hz1 g1 o1 pm => ?_)
  have vl : vs.length = es.size := by rw [pm.length_eq, List.length_map, Array.length_toList]
  have all : ∀ v, v ∈ vs → ∃ x t, v = .str x t := fun v hv => by
    obtain ⟨e, he, q⟩ := List.mem_map.mp (pm.mem_iff.mp hv)
    obtain ⟨k, tk, h1, _⟩ := g e he
    exact ⟨k, tk, by rw [← q]; exact h1⟩
  have hS : StrsAre vs (vs.map strOf) := strsAre_map vs all
  have pk : (vs.map strOf).Perm (es.toList.map keyT) := by
    have q := pm.map strOf
    rw [List.map_map] at q
    exact q
  refine wpAny_bind (wpAny_newList ?_ (by rw [vl, sizeLine_eq]; omega))
  have hoL : (s1.heap.push (seqObj "list" vs.toArray 0)).get? s1.heap.objs.size = some (seqObj "list" vs.toArray 0) := Heap.get?_push_size _ rfl
  refine wpAny_bind (wpAny_holding (wpAny_call_entry slot_list_sort ⟨_, hoL, rfl⟩ entry_list_sort (list_sort_treeK strKind_oneLt hoL hS.keysOf (fun v1 v2 rest e => keyKind_strs (by rw [← e]; exact hS)) (by omega)
    fun st' a1 a2 => ⟨_, rfl, ?_⟩) (args_list_sort _)))
  obtain ⟨zs, z1, z2, z3⟩ := sorted_out_str hS a1 a2
  obtain ⟨c, hc⟩ := sortedHeap_at (vs := vs) (out := (arrOf st').map (·.2)) hoL
  have pn : zs.Perm (es.toList.map keyT) := z2.trans pk
  refine wpAny_pure ⟨_, rfl, hQ _ s1.heap.objs.size _ c zs (fun b u e => ?_) g1 o1 hz1 hc z1 (pn.nodup_iff.mpr nd) z3 (fun k => pn.mem_iff.trans (hm k)) (by rw [pn.length_eq, List.length_map, Array.length_toList]; exact hz)⟩
  have q := k1 b u e
  have lt := Heap.lt_size q
  show (sortedHeap (s1.heap.push (seqObj "list" vs.toArray 0)) s1.heap.objs.size vs _).get? b = some u
  rw [sortedHeap_old (Nat.ne_of_lt lt) (by rw [size_push']; exact Nat.lt_succ_of_lt lt)]
  exact Heap.get?_push_of_some _ q
end
/-- the set of the texts xs at a -/
def SetTO (P : Program) (w : World) (a : Addr) (xs : List Str) : HO := .ext fun h => SetT P w h a xs
section
variable {X : Cx}
theorem setTO_new {w : World} {P : Program} {H : Hp} {h : Heap} {a : Addr} {xs : List Str} (R : SetT P w h a xs) : ObjOk P w H h a (SetTO P w a xs) := by
  have ⟨o, _, _, _, ho, _⟩ := R.ex
  exact ⟨R, ⟨o, ho⟩, fun h1 h2 p k => SetT.keep p k⟩
def rSetT (X : Cx) : List V → Hp → VK → Prop := fun vs H Q => ∃ (l : Addr) (xs : List Str), vs = [.ref l] ∧ SqL X.K H l (xs.map V.str) ∧ xs.length < 4000 ∧ ∀ p, H p = none → Q (.ref p) (upd H p (SetTO X.prog X.w p xs))
theorem cr_setT (hc : X.calm = true) : CallR X (.type "set") (rSetT X) := by
  intro pins s σ H vs us Q I r h
  obtain ⟨l, xs, rfl, hq, hfew, q⟩ := h
  obtain ⟨u, rfl, ru⟩ := vals1 r
  cases ru
  obtain ⟨its, rv, pl, hz⟩ := I.list hq
  refine set_of_texts (I.ok.hd hc) pl.isList (by simpa using strsAre_of rv) hfew fun h' tk R hk => ?_
  exact ⟨.ref _, upd H s.heap.objs.size (SetTO X.prog X.w s.heap.objs.size xs), I.laid (t' := tk) (fun b o e => hk b o (Heap.lt_size e) e) (Nat.le_refl _) (setTO_new R), rfl, q _ (I.hok.fresh (Nat.le_refl _))⟩
def rSortedT (X : Cx) : List V → Hp → VK → Prop := fun vs H Q => ∃ (a : Addr) (xs : List Str), vs = [.ref a] ∧ H a = some (SetTO X.prog X.w a xs) ∧ xs.length < 64 ∧
  ∀ (zs : List Str) (p : Addr), zs.Nodup → sortedS zs = true → (∀ k, k ∈ zs ↔ k ∈ xs) → zs.length ≤ xs.length → H p = none → Q (.ref p) (upd H p (.lst (zs.map V.str)))
theorem vals_strs : ∀ {us : List Value} {xs : List Str}, StrsAre us xs → Vals (xs.map V.str) us
  | _, _, .nil => .nil
  | _, _, .cons x t h => .cons ⟨t, rfl⟩ (vals_strs h)
theorem cr_sortedSetT (hc : X.calm = true) : CallR X (.builtin "sorted") (rSortedT X) := by
  intro pins s σ H vs us Q I r h
  obtain ⟨a, xs, rfl, ha, h64, q⟩ := h
  have R : SetT X.prog X.w s.heap a xs := (I.hok a _ ha).1
  rw [Vals.ref1 r]
  refine sorted_setT R (I.ok.hd hc) h64 fun s' p out c zs k g o hp hg hi hn hs hm hl => ?_
  have hlen : (zs.map V.str).length ≤ sizeLine := by rw [List.length_map, sizeLine_eq]; omega
  have fresh : H p = none := I.hok.fresh hp
  have J : Inv X pins σ (upd H p (.lst (zs.map V.str))) { s with heap := s'.heap, gens := s'.gens, drawn := s'.drawn, toks := s'.toks } :=
    I.call (ch := []) (Un.laid k hp fresh) (I.hok.laid k hp ⟨hlen, out.toList, c, vals_strs hi, hg⟩) (by rw [g]; exact I.bare) (fun _ z => nomatch z)
  have e : s' = { s with heap := s'.heap, gens := s'.gens, drawn := s'.drawn, toks := s'.toks } := by
    obtain ⟨_, _, _, _, _⟩ := s'
    simp only at o
    rw [o]
  rw [e]
  exact ⟨.ref p, _, J, rfl, q zs p hn hs hm hl fresh⟩
end
end Sea
/-! three comparisons in one chain, as a test -/
namespace Sea
open PySem PySem.Spec PyProof.Rows L2
def tChain3 (r1 r2 r3 : R2) (ta tb tc td : TE) : TT := fun σ H Q => ta σ H fun x H1 => tb σ H1 fun y H2 => r1 x y H2 fun z H3 => ∃ k, z = .bl k ∧
  (if k = true then tc σ H3 fun v H4 => r2 y v H4 fun z2 H5 => ∃ k2, z2 = .bl k2 ∧ (if k2 = true then td σ H5 fun u H6 => r3 v u H6 fun z3 H7 => ∃ k3, z3 = .bl k3 ∧ Q k3 H7 else Q false H5) else Q false H3)
theorem pt_chain3 {X : Cx} {a b c d : Expr} {ta tb tc td : TE} {pos : Pos} {o1 o2 o3 : CmpOp} {r1 r2 r3 : R2} (h1 : OpR X (compareOp o1) r1) (h2 : OpR X (compareOp o2) r2) (h3 : OpR X (compareOp o3) r3)
    (ha : PE X a ta) (hb : PE X b tb) (hc : PE X c tc) (hd : PE X d td) (hm : lastMarks [o1, o2, o3] [b, c, d] = false := by with_unfolding_all rfl) :
    PT X (.Compare a [o1, o2, o3] [b, c, d] pos) (tChain3 r1 r2 r3 ta tb tc td) := by
  refine ⟨fun pins s σ H Q I h => ?_⟩
  refine isTrue_chain (thn (ha.run pins s σ H _ I h) fun v s1 ⟨x, H1, I1, rx, q1⟩ => test_link (thn (hb.run pins s1 σ H1 _ I1 q1) fun u s2 ⟨y, H2, I2, ry, q2⟩ =>
    thn (h1 pins s2 σ H2 x y v u _ I2 rx ry q2) fun e1 s3 ⟨z, H3, I3, rz, k, ez, q3⟩ => ?_)) hm
  subst ez
  cases rz
  refine wpAny_truthy_bool ?_
  cases k with
  | false => exact ite_ff ⟨H3, I3, q3⟩
  | true =>
    refine ite_tt (test_link (thn (hc.run pins s3 σ H3 _ I3 q3) fun w1 s4 ⟨v2, H4, I4, rv, q4⟩ => thn (h2 pins s4 σ H4 y v2 u w1 _ I4 ry rv q4) fun e2 s5 ⟨z2, H5, I5, rz2, k2, ez2, q5⟩ => ?_))
    subst ez2
    cases rz2
    refine wpAny_truthy_bool ?_
    cases k2 with
    | false => exact ite_ff ⟨H5, I5, q5⟩
    | true =>
      refine ite_tt (test_last (thn (hd.run pins s5 σ H5 _ I5 q5) fun w2 s6 ⟨u2, H6, I6, ru, q6⟩ => thn (h3 pins s6 σ H6 v2 u2 w1 w2 _ I6 rv ru q6) fun e3 s7 ⟨z3, H7, I7, rz3, k3, ez3, q7⟩ => ?_))
      subst ez3
      cases rz3
      exact wpAny_truthy_bool ⟨H7, I7, q7⟩
end Sea
/-! enumerate over a tuple -/
namespace Sea
open PySem PySem.Spec PyProof.Rows L2
/-- the iterator that a tuple at l gives -/
abbrev tupIt (l : Addr) : Obj := { cls := .type "tuple_iterator", data := .fields #[.ref l, .int 0 0] }
abbrev enumOf (it : Addr) : Obj := { cls := .type "enumerate", data := .fields #[.none, .bool false, .ref it, rawInt 0, .none, .none] }
theorem made_enum (l : Addr) (items : Array Value) (n : Nat) (dct : Option Addr) (sl : Array (Option Value)) :
    Meets (Builtin.«enumerate.__new__» ⟨[.type "enumerate", .ref l], []⟩) (fun _ R s => s.heap.get? l = some { cls := .type "tuple", dict := dct, data := .seq items n, slots := sl } ∧
      R (.ok (.ret (.ref (s.heap.push (tupIt l)).objs.size))) { s with heap := (s.heap.push (tupIt l)).push (enumOf s.heap.objs.size) }) :=
  .of_wp fun prog w A R s h => by
    obtain ⟨hp, g, d, tk, os⟩ := s
    obtain ⟨hl, h⟩ := h
    have hsub := sub_enumerate
    have hT : Heap.IsTuple (Shared.heap ⟨hp, g, d, tk, os⟩) l items := ⟨_, hl, rfl, n, rfl⟩
    wp_walk using AutoSeq1.wpAny_loadPart' hl
    refine wpAny_stack_any fun st => wpAny_pure ?_
    split
    · rename_i c _ _ _ _ _
      cases (c == Value.type "enumerate") <;>
        (wp_walk using AutoSeq1.wpAny_loadPart' hl, wpAny_pyIter_tuple hT
         exact ⟨_, rfl, h⟩)
    · wp_walk using AutoSeq1.wpAny_loadPart' hl, wpAny_pyIter_tuple hT
      exact ⟨_, rfl, h⟩
section
variable {prog : Program} {w : World} {A : Around} {E : Value → Shared → Prop} {s : Shared}
theorem call_enumT {l : Addr} {items : Array Value} {Q : Value → Shared → Prop} (hL : s.heap.IsTuple l items)
    (h : ∀ h', IsEnum h' (s.heap.objs.size + 1) s.heap.objs.size 0 .none → h'.IsTupleIter s.heap.objs.size l 0 → h'.objs.size = s.heap.objs.size + 2 →
      (∀ b o, s.heap.get? b = some o → h'.get? b = some o) → Q (.ref (s.heap.objs.size + 1)) { s with heap := h' }) :
    wpAny (model prog w) A (call (.type "enumerate") [.ref l]) Q E s := by
  obtain ⟨⟨c, dct, dt, sl⟩, hl, hc, n, hd⟩ := hL
  replace hc : c = .type "tuple" := hc
  replace hd : dt = .seq items n := hd
  subst hc hd
  refine callType_new F.called_enumerate (by decide) (F.typeCall_enumerate_1 _) (F.newCall_enumerate_1 _) (fun obj => F.args_object_init_2 obj _) F.entry_enumerate_new (made_enum l items n dct sl) ⟨hl, ?_⟩
  have hz : (s.heap.push (tupIt l)).objs.size = s.heap.objs.size + 1 := Heap.size_push ..
  show _ ∧ _
  rw [hz]
  have he : IsEnum ((s.heap.push (tupIt l)).push (enumOf s.heap.objs.size)) (s.heap.objs.size + 1) s.heap.objs.size 0 .none := by
    have q := Heap.get?_push_size (s.heap.push (tupIt l)) (o := enumOf s.heap.objs.size) rfl
    rw [hz] at q
    exact q
  exact ⟨⟨_, he, rfl⟩, h _ he ⟨_, Heap.get?_push_of_some _ (Heap.get?_push_size _ rfl), rfl, rfl⟩ (by rw [Heap.size_push, hz]) fun b o x => Heap.get?_push_of_some _ (Heap.get?_push_of_some _ x)⟩
end
theorem drawsT {prog : Program} {w : World} {A : Around} (hh : A.handled = none) (it l : Addr) (hne : l ≠ it) (items : Array Value) :
    Draws prog w A it [it, l] items.size (fun i v => items[i]? = some v) (fun i h => h.IsTupleIter it l i ∧ h.IsTuple l items) where
  live := fun _ _ st => let ⟨o, ho, _⟩ := st.1; ⟨o, ho⟩
  frame := fun _ _ _ st hk => ⟨let ⟨o, ho, r⟩ := st.1; ⟨o, hk it List.mem_cons_self o ho, r⟩, let ⟨o, ho, r⟩ := st.2; ⟨o, hk l (List.mem_cons_of_mem _ List.mem_cons_self) o ho, r⟩⟩
  item := fun i s Q E hi st hQ => by
    refine RZ.nextOf_tuple_item st.1 st.2 (x := items[i]) (by simp [hi]) fun h' hit' hs' => ?_
    exact hQ _ h' s.toks (by simp [hi]) ⟨hit', let ⟨o, ho, r⟩ := st.2; ⟨o, (hs'.2 l hne).trans ho, r⟩⟩ hs'
  done := fun s Q E st hE => RZ.nextOf_tuple_end hh st.1 st.2 (by simp) hE
/-- the items of the tuple at a, each with its number, in a new pair -/
def IenT (K : PySem.W.Frag) (a : Addr) : It where
  go := fun i H => ∃ (xs : List V) (x : V), SqT K H a xs ∧ xs[i]? = some x
  yld := fun i H v H' => ∃ T x, v = .ref T ∧ H T = none ∧ H' = upd H T (.tup [.int (i : Nat), x]) ∧ ∀ xs, SqT K H a xs → xs[i]? = some x
  stop := fun i H => ∃ xs : List V, SqT K H a xs ∧ xs.length ≤ i
theorem turn_enumT {P : Program} {w : World} {K : PySem.W.Frag} {elts : List Expr} {kk : Nat} {tpos : Pos} (a e it : Addr) :
    Turn P w K (.Tuple elts kk tpos) (IenT K a) [e, it] e (fun i h => (∃ old, IsEnum h e it ((i : Nat) : Int) old) ∧ h.IsTupleIter it a i ∧ e ≠ it) where
  mem := List.mem_cons_self
  obj := fun i h st b hb => by
    obtain ⟨⟨old, he⟩, ⟨o, ho, hc, hd⟩, _⟩ := st
    rcases List.mem_cons.mp hb with z | z
    · subst z
      exact ⟨_, he, fun v q => nomatch q⟩
    · rw [List.mem_singleton.mp z]
      exact ⟨o, ho, fun v q => by rw [hd] at q; cases q⟩
  keep := fun i h h' st k => by
    obtain ⟨⟨old, he⟩, ⟨o, ho, r⟩, ne⟩ := st
    exact ⟨⟨old, k e List.mem_cons_self _ he⟩, ⟨o, k it (List.mem_cons_of_mem _ List.mem_cons_self) o ho, r⟩, ne⟩
  item := by
    intro X hP hw hK hc i pins s σ H E I hf st hg
    subst hP hw hK
    obtain ⟨⟨old, he⟩, hit, hne⟩ := st
    obtain ⟨xs, x, hq, hx⟩ := hg
    obtain ⟨its, rv, p, hz⟩ := I.tuple hq
    obtain ⟨u, hu, ru⟩ := rv.get hx
    have hel : e < s.heap.objs.size := Heap.lt_size he
    have hil : it < s.heap.objs.size := by
      obtain ⟨_, q, _⟩ := hit
      exact Heap.lt_size q
    have nea : a ≠ it := fun z => by
      obtain ⟨o1, h1, h2, _⟩ := hit
      obtain ⟨o2, h3, h4, _⟩ := p
      rw [z, h1] at h3
      cases h3
      rw [h2] at h4
      exact absurd (Value.type.inj h4) (by decide)
    have nee : e ≠ a := fun z => by
      obtain ⟨o2, h3, h4, _⟩ := p
      rw [← z, (show s.heap.get? e = some _ from he)] at h3
      cases h3
      exact absurd (Value.type.inj h4) (by decide)
    have il : i < its.toArray.size := by
      have := (List.getElem?_eq_some_iff.mp hu).1
      rw [List.size_toArray]
      exact this
    refine wpAny_pyNext_enum_itemD (drawsT (A := X.A.in1) (I.ok.hd hc) it a nea its.toArray) he ⟨hit, p⟩ il hne (fun q => ?_) fun y h' tk hP ho hit' hT hsz hk => ?_
    · rcases List.mem_cons.mp q with z | z
      · exact hne z
      · exact nee (List.mem_singleton.mp z)
    have ey : y = u := by
      have : its.toArray[i]? = some u := by rw [← Array.getElem?_toList]; exact hu
      exact Option.some.inj (hP.symm.trans this)
    subst ey
    refine ⟨_, rfl, wpAny_letOwnedTupleGo_enum (s := ⟨h', s.gens, s.drawn, tk + 1, s.os⟩) ho fun h2 he2 sb => ?_⟩
    have hT2 : h2.get? s.heap.objs.size = some { cls := .type "tuple", data := .seq #[.int i tk, y] } := (sb.2 _ (Nat.ne_of_gt hel)).trans hT
    have nw : ObjOk X.prog X.w (upd H s.heap.objs.size (.tup [.int (i : Nat), x])) h2 s.heap.objs.size (.tup [.int (i : Nat), x]) :=
      ⟨by show 2 ≤ sizeLine; decide, [.int i tk, y], .cons ⟨_, rfl⟩ (.cons ru .nil), ⟨_, hT2, rfl, _, rfl⟩⟩
    have kk2 : ∀ b ob, b ∉ [e, it] → s.heap.get? b = some ob → h2.get? b = some ob := fun b ob hb q => by
      have b1 : b ≠ e := fun z => hb (z ▸ List.mem_cons_self)
      have b2 : b ≠ it := fun z => hb (z ▸ List.mem_cons_of_mem _ List.mem_cons_self)
      exact (sb.2 b b1).trans (hk b ob b1 b2 q)
    have J : Inv X pins σ (upd H s.heap.objs.size (.tup [.int (i : Nat), x])) ⟨h2, s.gens, s.drawn, tk + 1, s.os⟩ := I.turnedNew (t' := tk + 1) kk2 hf (Nat.le_refl _) nw
    refine ⟨.ref s.heap.objs.size, _, J, rfl, ⟨_, x, rfl, I.hok.fresh (Nat.le_refl _), rfl, fun ys hy => by rw [I.tuple_inj hy hq]; exact hx⟩, ⟨⟨y, ?_⟩, ?_, hne⟩, fun b hb => ?_⟩
    · have e1 : ((i + 1 : Nat) : Int) = (i : Int) + 1 := Int.natCast_succ i
      rw [e1]
      exact he2
    · obtain ⟨⟨o, ho2, r⟩, _⟩ := hit'
      exact ⟨o, (sb.2 it hne.symm).trans ho2, r⟩
    · have hlt : b < s.heap.objs.size := by
        rcases List.mem_cons.mp hb with z | z
        · exact z ▸ hel
        · exact (List.mem_singleton.mp z) ▸ hil
      rw [upd_ne (Nat.ne_of_lt hlt)]
      exact (hf b hb).1
  done := by
    intro X hP hw hK hc i pins s σ H E I hf st hg
    subst hP hw hK
    obtain ⟨⟨old, he⟩, hit, hne⟩ := st
    obtain ⟨xs, hq, hx⟩ := hg
    obtain ⟨its, rv, p, hz⟩ := I.tuple hq
    obtain ⟨f0, f1, f2, f3, f4, f5⟩ := hf it (List.mem_cons_of_mem _ List.mem_cons_self)
    have hl := rv.length
    have nea : a ≠ it := fun z => by
      obtain ⟨o1, h1, h2, _⟩ := hit
      obtain ⟨o2, h3, h4, _⟩ := p
      rw [z, h1] at h3
      cases h3
      rw [h2] at h4
      exact absurd (Value.type.inj h4) (by decide)
    have hend : its.toArray[i]? = none := Array.getElem?_eq_none (by rw [List.size_toArray]; omega)
    have hT : s.TypeIs (.ref e) "enumerate" := ⟨_, he, rfl⟩
    unfold pyNext
    refine wpAny_bind (wpAny_attempt (wpAny_callSpecial?_slot (name := Str.ofString "__next__") hT F.slot_enumerate_next
      (wpAny_call_entry F.slot_enumerate_next hT F.entry_enumerate_next ?_ (F.args_enumerate_next_1 _))))
    show wpAny _ _ (field (.ref e) 2 >>= _) _ _ s
    refine wpAny_bind (wpAny_field he rfl (x := .ref it) rfl ?_)
    refine wpAny_bind (RZ.nextOf_tuple_end (I.ok.hd hc) hit p hend fun h' z eb hs => ?_)
    obtain ⟨o, ho, hcl⟩ := id hs
    refine wpAny_bind (wpAny_isInstance (T := "StopIteration") (b := true) ⟨o, ho, hcl⟩ isSubtype_stop ?_)
    exact wpAny_pure ⟨rfl, I.turned (t' := s.toks) (fun b o hb q => eb b o hb q) f0 f1 f3 f4 f5⟩
  self := fun A i s Q E st h => by
    obtain ⟨⟨_, he⟩, _⟩ := st
    exact wpAny_pyIter_enum he h
def iEnT (K : PySem.W.Frag) (ta : TA) : TI := fun σ H R => ta σ H fun vs H1 => ∃ a xs, vs = [.ref a] ∧ SqT K H1 a xs ∧ R (IenT K a) H1
theorem pi_enT {X : Cx} {e : Expr} {ta : TA} {p pos tpos : Pos} {elts : List Expr} {kk : Nat} (hg : Gl X "enumerate") (hm : X.mg "enumerate" = none) (ha : PA X [e] ta) (hs : starEach [e] X.env = [(false, eval e X.env)] := by rfl) :
    PI X (.Tuple elts kk tpos) (.Call (.Name "enumerate" p) [e] [] pos) (iEnT X.K ta) := by
  refine ⟨fun pins s σ H R I h => ?_⟩
  refine Call_ (ld_blt I hg hm boot_enumerate (PyProof.Rows.callWith_type1 (thn (ha.run pos pins s σ H _ I h) fun us s1 ⟨vs, H1, I1, r1, q1⟩ => ?_) hs rfl))
  obtain ⟨a, xs, ex, hq, q⟩ := q1
  subst ex
  cases r1 with
  | cons r rr =>
    cases rr
    cases r
    obtain ⟨its, rv, p2, hz⟩ := I1.tuple hq
    refine call_enumT p2 fun h' he hit hsz hk => wpAny_pyIter_enum he ?_
    have I2 : Inv X pins σ H1 { s1 with heap := h' } := I1.kept (t' := s1.toks) hk
    refine ⟨s1.heap.objs.size + 1, [s1.heap.objs.size + 1, s1.heap.objs.size], _, _, H1, rfl, I2, turn_enumT a (s1.heap.objs.size + 1) s1.heap.objs.size, ⟨⟨.none, he⟩, hit, Nat.succ_ne_self _⟩, fun b hb => ?_, q⟩
    have hle : s1.heap.objs.size ≤ b := by
      rcases List.mem_cons.mp hb with z | z
      · exact z ▸ Nat.le_succ _
      · exact (List.mem_singleton.mp z) ▸ Nat.le_refl _
    exact I1.fpOk hle (I1.hok.fresh hle)
/-- its turns, for for_it and lc_it -/
theorem walk_enT {K : PySem.W.Frag} {a : Addr} {xs : List V} : Walk (IenT K a) xs.length (fun H => SqT K H a xs)
    (fun i H v H' => ∃ T x, v = .ref T ∧ H T = none ∧ xs[i]? = some x ∧ H' = upd H T (.tup [.int (i : Nat), x])) :=
  ⟨fun i H hi hs => ⟨xs, xs[i], hs, List.getElem?_eq_getElem hi⟩, fun H hs => ⟨xs, hs, Nat.le_refl _⟩, fun i H v H' _ hs ⟨T, x, h1, h2, h3, h4⟩ => ⟨T, x, h1, h2, h4 xs hs, h3⟩⟩
end Sea
namespace Sea
open PySem PySem.Spec PyProof.Rows L2
/-! names, numbers, the parts of a thing -/
abbrev LET : Str := Str.ofString "abcdefghijklmnopqrstuvwxyz"
abbrev DIG : Str := Str.ofString "0123456789"
theorem let_cp : cp LET = (List.range 26).map (· + 97) := by decide +kernel
theorem dig_cp : cp DIG = (List.range 10).map (· + 48) := by decide +kernel
theorem in_let {c : Nat} : c ∈ cp LET ↔ 97 ≤ c ∧ c ≤ 122 := by
  rw [let_cp, List.mem_map]
  constructor
  · rintro ⟨a, ha, rfl⟩
    have := List.mem_range.mp ha
    omega
  · intro h
    exact ⟨c - 97, List.mem_range.mpr (by omega), by omega⟩
theorem in_dig {c : Nat} : c ∈ cp DIG ↔ 48 ≤ c ∧ c ≤ 57 := by
  rw [dig_cp, List.mem_map]
  constructor
  · rintro ⟨a, ha, rfl⟩
    have := List.mem_range.mp ha
    omega
  · intro h
    exact ⟨c - 48, List.mem_range.mpr (by omega), by omega⟩
structure NameW (l : List Nat) : Prop where
  some : 1 ≤ l.length
  most : l.length ≤ 8
  sign : ∀ c ∈ l, 97 ≤ c ∧ c ≤ 122
def numS (n : Nat) : Str := Str.ofString (toString ((n : Nat) : Int))
theorem num_cp (n : Nat) : cp (numS n) = TL.numL n := TL.tl_num n
theorem num_len {n : Nat} (h : n ≤ 2000) : (numS n).length ≤ 4 := by
  rw [← cp_len, num_cp]
  exact TL.numL_len (by decide) (by omega)
theorem num_one (n : Nat) : 1 ≤ (numS n).length := by
  rw [← cp_len, num_cp]
  exact List.length_pos_iff.mpr (TL.numL_ne n)
theorem num_dig {n c : Nat} (h : c ∈ cp (numS n)) : 48 ≤ c ∧ c ≤ 57 := by
  rw [num_cp] at h
  exact TL.numL_digits n c h
theorem num_head (n : Nat) : 0 < n → ∃ c, (TL.numL n)[0]? = some c ∧ c ≠ 48 := by
  induction n using Nat.strongRecOn with
  | _ n ih =>
    intro h0
    by_cases h : n < 10
    · rw [TL.numL_lt h]
      exact ⟨48 + n, rfl, by omega⟩
    · obtain ⟨c, h1, h2⟩ := ih (n / 10) (by omega) (by omega)
      refine ⟨c, ?_, h2⟩
      rw [TL.numL_step (by omega), List.getElem?_append_left (List.getElem?_eq_some_iff.mp h1).1]
      exact h1
theorem num_zero : numS 0 = Str.ofString "0" := by decide +kernel
def spItems : Sp := fun vs H Q _ => ∃ (a : Addr) (xs : List V), vs = [.ref a] ∧ (H a = some (.tup xs) ∨ H a = some (.lst xs)) ∧ ∀ H' t, Same H H' → H' t = some (.tup xs) → Q (.ref t) H'
def spParts : Sp := fun vs H Q _ => ∃ (a : Addr) (xs : List V) (n : Int), vs = [.ref a, .int n] ∧ H a = some (.tup xs) ∧ (xs.length : Int) = n ∧ xs.length ≤ 1000 ∧ ∀ H' t, Same H H' → H' t = some (.tup xs) → Q (.ref t) H'
def spName : Sp := fun vs H Q _ => ∃ z : Str, vs = [.str z] ∧ NameW (cp z) ∧ ∀ H', Same H H' → Q (.bl true) H'
def spNum : Sp := fun vs H Q _ => ∃ (n : Nat) (lo : Int), vs = [.str (numS n), .int lo, .int 2000] ∧ lo ≤ n ∧ n ≤ 2000 ∧ ∀ H', Same H H' → Q (.bl true) H'
section
variable {P : Program} {w : World} {K : PySem.W.Frag} {mg : Str → Option Value} {base : Heap}
theorem ok_items_of {f : Addr} {fd : FuncData} (F : Fun K "items_of" "items_of" s_items_of f fd) (m_isinstance : mg "isinstance" = none) (m_tuple : mg "tuple" = none) (m_list : mg "list" = none) :
    FnOk P w K mg base CX0 1 f fd ["thing"] spItems := by
  refine F.ok sc_items_of (fun vs H Q E h => ?_) (fun cdv A outer s H vs Q E hr h => ?_)
  · obtain ⟨a, xs, rfl, _⟩ := h
    rfl
  · obtain ⟨a, xs, rfl, ha, q⟩ := h
    refine ⟨_, (pss_cons (ps_if (pt_val (pe_callB call_isiT (by rfl) m_isinstance (by decide +kernel) (pa_cons (pv 0) (pa_cons (pe_tup (pa_cons (pe_bltn (v := .ty "tuple") (by rfl) m_tuple (by decide +kernel) rfl) (pa_cons (pe_bltn (v := .ty "list") (by rfl) m_list (by decide +kernel) rfl) pa_nil))) pa_nil))))
    (pss_one (ps_ret (pe_callTy call_tuple_of (by rfl) m_tuple (by decide +kernel) (pa_cons (pv 0) pa_nil))))
    pss_nil)
    (pss_one (ps_ret (pe_non)))), ?_⟩
    refine ⟨_, rfl, (by show 2 ≤ sizeLine; decide), fun p hp => ?_⟩
    have sp := same_new (o := .tup [V.ty "tuple", V.ty "list"]) hp
    rcases ha with ha | ha
    · exact ⟨_, p, _, _, _, true, rfl, upd_same, .cons (.ty _) (.cons (.ty _) .nil), .base (.tup (sp _ _ ha)), kitAny_cons (b := true) (kit_ty (by decide +kernel)) (fun z => nomatch z) (fun _ => rfl), true, rfl,
        _, rfl, a, xs, rfl, .inr ⟨SqT.of (sp _ _ ha), q _ a sp (sp _ _ ha)⟩⟩
    · exact ⟨_, p, _, _, _, true, rfl, upd_same, .cons (.ty _) (.cons (.ty _) .nil), .base (.lst (sp _ _ ha)), kitAny_cons (b := false) (kit_ty (by decide +kernel)) (fun _ => kitAny_cons (b := true) (kit_ty (by decide +kernel)) (fun z => nomatch z) (fun _ => rfl)) (fun z => nomatch z), true, rfl,
        _, rfl, a, xs, rfl, .inl ⟨SqL.of (sp _ _ ha), fun l hl => q _ l (sp.trans (same_new hl)) upd_same⟩⟩
theorem ok_parts_of {f : Addr} {fd : FuncData} (F : Fun K "parts_of" "parts_of" s_parts_of f fd) (m_len : mg "len" = none) (c_items_of : Cal P w K mg base 1 "items_of" spItems) :
    FnOk P w K mg base CX0 2 f fd ["thing", "many"] spParts := by
  refine F.ok sc_parts_of (fun vs H Q E h => ?_) (fun cdv A outer s H vs Q E hr h => ?_)
  · obtain ⟨a, xs, n, rfl, _⟩ := h
    rfl
  · obtain ⟨a, xs, n, rfl, ha, hn, hl, q⟩ := h
    refine ⟨_, (pss_cons (ps_set (i := 2) sc_parts_of.nd rfl (Or.inl rfl) (pe_c c_items_of hr (by decide) rfl (pa_cons (pv 0) pa_nil)))
    (pss_cons (ps_if (PW.pt (pw_or (pt_cmpR op_isN (pv 2) (pe_non) (nomark _)) (pw_or1 (pt_cmpR op_ne (pe_callB call_len (by rfl) m_len (by decide +kernel) (pa_cons (pv 2) pa_nil)) (pv 1) (nomark _)))))
    (pss_one (ps_ret (pe_non)))
    pss_nil)
    (pss_one (ps_ret (pv 2))))), ?_⟩
    refine ⟨_, rfl, a, xs, rfl, .inl ha, fun H1 t s1 h1 => ?_⟩
    refine ⟨_, rfl, rfl, _, rfl, _, rfl, _, xs.length, rfl, .inr ⟨_, SqT.of h1, rfl⟩, _, rfl, rfl, _, rfl, ?_⟩
    rw [hn, decide_eq_true rfl]
    exact ⟨_, rfl, q H1 t s1 h1⟩
theorem ok_is_name {f : Addr} {fd : FuncData} (F : Fun K "is_name" "is_name" s_is_name f fd) (m_isinstance : mg "isinstance" = none) (m_str : mg "str" = none) (m_len : mg "len" = none) (m_all : mg "all" = none)
    {t : Tok} (g_LETTERS : mg "LETTERS" = some (.str LET t)) : FnOk P w K mg base CX0 1 f fd ["thing"] spName := by
  refine F.ok sc_is_name (fun vs H Q E h => ?_) (fun cdv A outer s H vs Q E hr h => ?_)
  · obtain ⟨z, rfl, _⟩ := h
    rfl
  · obtain ⟨z, rfl, g, q⟩ := h
    have h1 := g.some
    have h2 := g.most
    rw [cp_len] at h1 h2
    have hzl : z.length ≤ sizeLine := Nat.le_of_lt (small1000 (by omega))
    refine ⟨_, (pss_cons (ps_if (PW.pt (pw_or (pt_not (pt_val (pe_callB call_isi (by rfl) m_isinstance (by decide +kernel) (pa_cons (pv 0) (pa_cons (pe_bltn (v := .ty "str") (by rfl) m_str (by decide +kernel) rfl) pa_nil))))) (pw_or1 (pt_not (pt_chain op_le op_le (pe_int) (pe_callB call_len (by rfl) m_len (by decide +kernel) (pa_cons (pv 0) pa_nil)) (pe_int))))))
    (pss_one (ps_ret (pe_bl)))
    pss_nil)
    (pss_one (ps_ret (pe_callB (cr_all rfl) (by rfl) m_all (by decide +kernel) (pa_cons (pe_lc (own := [("sign", 1)]) rfl sc_is_name.nd (pi_str (pv 0)) (blkOk_by (N := N_is_name) (sc := defScope s_is_name) (by decide +kernel)) (fun _ _ _ _ _ => (pg_name (i := 1) sc_is_name.nd rfl (Or.inl rfl))) (fun _ _ _ _ _ => pts_nil) (fun _ _ _ _ _ => (pe_cmpR op_in_sign (pv 1) (pe_glob (v := .str LET) rfl g_LETTERS ⟨_, rfl⟩) rfl))) pa_nil))))), ?_⟩
    refine ⟨_, rfl, _, _, _, _, true, rfl, .ty _, .base (.str z), kit_ty (by decide +kernel), true, rfl, ?_⟩
    refine ⟨_, rfl, _, z.length, rfl, ⟨hzl, rfl⟩, _, _, rfl, rfl, _, rfl, ?_⟩
    rw [decide_eq_true (show (1 : Int) ≤ (z.length : Nat) by omega)]
    refine ⟨_, _, rfl, rfl, _, rfl, ?_⟩
    rw [decide_eq_true (show ((z.length : Nat) : Int) ≤ 8 by omega)]
    refine ⟨_, rfl, z, rfl, fun D hD => ?_⟩
    refine lc_it walk_str (fun i H' => Same H H' ∧ H' D = some (.lst ((List.replicate i true).map V.bl))) ⟨same_new hD, upd_same⟩ (fun _ _ _ _ => trivial) ?_ ?_
    · rintro i x Ha Hb hi ⟨hs, hd⟩ ⟨rfl, c, hc, rfl⟩
      have hc' : c ∈ cp z := List.mem_of_getElem? (by rw [Array.getElem?_toList]; exact hc)
      refine ⟨rfl, _, rfl, c, LET, rfl, rfl, _, hd, ?_, same_over hs hD, ?_⟩
      · rw [List.length_map, List.length_replicate]
        have hi' : i < z.length := hi
        exact small_line (by omega)
      · rw [upd_same, List.replicate_succ', List.map_append, decide_eq_true (in_let.mpr (g.sign c hc'))]
        rfl
    · rintro H' ⟨hs, hd⟩
      have q' := q H' hs
      have e : (List.replicate z.cps.size true).all id = true := List.all_eq_true.mpr fun b hb => by rw [List.eq_of_mem_replicate hb]; rfl
      refine ⟨D, _, rfl, SqL.of hd, ?_⟩
      rw [e]
      exact q'
end
end Sea
namespace Sea
open PySem PySem.Spec PyProof.Rows L2
/-! numbers; a cue -/
theorem lit_zero (n : Nat) : (V.str (numS n) = V.str (Str.ofString "0")) ↔ n = 0 := by
  rw [← num_zero]
  constructor
  · intro h
    have e : cp (numS n) = cp (numS 0) := congrArg cp (V.str.inj h)
    rw [num_cp, num_cp] at e
    exact TL.numL_inj e
  · rintro rfl
    rfl
structure Cue where
  s : Int
  e : Int
  nm : Str
  tx : Str
  deriving DecidableEq
def Cue.vs (c : Cue) : List V := [.int c.s, .int c.e, .str c.nm, .str c.tx]
/-- what this law's cues are made of -/
structure CueW (c : Cue) : Prop where
  s0 : 0 ≤ c.s
  s1 : c.s ≤ 2000
  e0 : 0 ≤ c.e
  e1 : c.e ≤ 2000
  nm : NameW (cp c.nm)
  tx : c.tx.length ≤ 1000
  wd : ∃ ws : List Str, ws ≠ [] ∧ (∀ z ∈ ws, Wd (cp z)) ∧ c.tx = Txt.join (Str.ofString " ") ws
  gd : c.tx.length ≤ 60 → Good (cp c.tx)
open Classical in
/-- whether the cue can stand from lo on in a reel of this length -/
noncomputable def okCue (c : Cue) (lo len : Int) : Bool := decide (Good (cp c.tx)) && (decide (lo ≤ c.s) && (decide (c.s < c.e) && decide (c.e ≤ len)))
noncomputable def spCue : Sp := fun vs H Q _ => ∃ (p : Addr) (c : Cue) (lo len : Int), vs = [.ref p, .int lo, .int len] ∧ H p = some (.tup c.vs) ∧ CueW c ∧
  (okCue c lo len = true → ∀ H' t, Same H H' → H' t = some (.tup c.vs) → Q (.ref t) H') ∧ (okCue c lo len = false → ∀ H', Same H H' → Q .non H')
section
variable {P : Program} {w : World} {K : PySem.W.Frag} {mg : Str → Option Value} {base : Heap}
theorem ok_is_number {f : Addr} {fd : FuncData} (F : Fun K "is_number" "is_number" s_is_number f fd) (m_len : mg "len" = none) (m_str : mg "str" = none) (m_all : mg "all" = none) (m_int : mg "int" = none)
    {t : Tok} (g_DIGITS : mg "DIGITS" = some (.str DIG t)) : FnOk P w K mg base CX0 1 f fd ["word", "low", "high"] spNum := by
  refine F.ok sc_is_number (fun vs H Q E h => ?_) (fun cdv A outer s H vs Q E hr h => ?_)
  · obtain ⟨n, lo, rfl, _⟩ := h
    rfl
  · obtain ⟨n, lo, rfl, hlo, hn, q⟩ := h
    have n1 := num_one n
    have n4 := num_len hn
    have hzl : (numS n).length ≤ sizeLine := Nat.le_of_lt (small1000 (by omega))
    have hl2 : ((toString (2000 : Int) : String) : Str).length = 4 := by decide +kernel
    refine ⟨_, (pss_cons (ps_if (PW.pt (pw_or (pt_not (pt_chain op_le op_le (pe_int) (pe_callB call_len_str (by rfl) m_len (by decide +kernel) (pa_cons (pv 0) pa_nil)) (pe_callB call_len_str (by rfl) m_len (by decide +kernel) (pa_cons (pe_callTy call_str_int (by rfl) m_str (by decide +kernel) (pa_cons (pv 2) pa_nil)) pa_nil)))) (pw_or1 (pt_not (pt_val (pe_callB (cr_all rfl) (by rfl) m_all (by decide +kernel) (pa_cons (pe_lc (own := [("sign", 3)]) rfl sc_is_number.nd (pi_str (pv 0)) (blkOk_by (N := N_is_number) (sc := defScope s_is_number) (by decide +kernel)) (fun _ _ _ _ _ => (pg_name (i := 3) sc_is_number.nd rfl (Or.inl rfl))) (fun _ _ _ _ _ => pts_nil) (fun _ _ _ _ _ => (pe_cmpR op_in_sign (pv 3) (pe_glob (v := .str DIG) rfl g_DIGITS ⟨_, rfl⟩) rfl))) pa_nil)))))))
    (pss_one (ps_ret (pe_bl)))
    pss_nil)
    (pss_one (ps_ret (pe_and (pe_or (pe_cmpR op_eq (pv 0) (pe_str) (nomark _)) (pe_one (pe_cmpR op_ne (pe_ix ix_str (pv 0) (pe_int) (fun _ _ => rfl)) (pe_str) (nomark _)))) (pe_one (pe_chain op_le op_le (pv 1) (pe_callTy call_int_str (by rfl) m_int (by decide +kernel) (pa_cons (pv 0) pa_nil)) (pv 2))))))), ?_⟩
    refine ⟨_, rfl, numS n, rfl, hzl, _, _, rfl, rfl, _, rfl, ?_⟩
    rw [decide_eq_true (show (1 : Int) ≤ ((numS n).length : Nat) by omega)]
    refine ⟨_, rfl, _, rfl, (by decide +kernel), _, rfl, (by rw [hl2]; exact Nat.le_of_lt (small1000 (by decide))), _, _, rfl, rfl, _, rfl, ?_⟩
    rw [hl2, decide_eq_true (show (((numS n).length : Nat) : Int) ≤ ((4 : Nat) : Int) by omega)]
    refine ⟨_, rfl, numS n, rfl, fun D hD => ?_⟩
    refine lc_it walk_str (fun i H' => Same H H' ∧ H' D = some (.lst ((List.replicate i true).map V.bl))) ⟨same_new hD, upd_same⟩ (fun _ _ _ _ => trivial) ?_ ?_
    · rintro i x Ha Hb hi ⟨hs, hd⟩ ⟨rfl, c, hc, rfl⟩
      have hc' : c ∈ cp (numS n) := List.mem_of_getElem? (by rw [Array.getElem?_toList]; exact hc)
      refine ⟨rfl, _, rfl, c, DIG, rfl, rfl, _, hd, ?_, same_over hs hD, ?_⟩
      · rw [List.length_map, List.length_replicate]
        have hi' : i < (numS n).length := hi
        exact small_line (by omega)
      · rw [upd_same, List.replicate_succ', List.map_append, decide_eq_true (in_dig.mpr (num_dig hc'))]
        rfl
    · rintro H' ⟨hs, hd⟩
      have e : (List.replicate (numS n).cps.size true).all id = true := List.all_eq_true.mpr fun b hb => by rw [List.eq_of_mem_replicate hb]; rfl
      refine ⟨D, _, rfl, SqL.of hd, true, congrArg V.bl e, ?_⟩
      refine ⟨_, rfl, rfl, ?_⟩
      by_cases h0 : n = 0
      · rw [decide_eq_true ((lit_zero n).mpr h0)]
        refine ⟨true, rfl, iteT ⟨true, rfl, iteT ⟨_, rfl, _, rfl, numS n, n, rfl, TL.int_num (by rw [← num_cp, cp_len]; omega), by omega, _, _, rfl, rfl, _, rfl, ?_⟩⟩⟩
        rw [decide_eq_true hlo]
        refine iteT ⟨_, rfl, _, _, rfl, rfl, ?_⟩
        have q2 := q H' hs
        rw [← decide_eq_true (show (n : Int) ≤ 2000 by omega)] at q2
        exact q2
      · rw [decide_eq_false (fun h => h0 ((lit_zero n).mp h))]
        obtain ⟨c, c1, c2⟩ := num_head n (by omega)
        rw [← num_cp] at c1
        refine ⟨false, rfl, iteF ⟨_, rfl, numS n, 0, c, rfl, rfl, hzl, atI_nat (j := 0) c1, rfl, ?_⟩⟩
        have ne : decide (V.str ⟨#[c]⟩ = V.str (Str.ofString "0")) = false := decide_eq_false fun h => by
          have e2 : cp ⟨#[c]⟩ = cp (Str.ofString "0") := congrArg cp (V.str.inj h)
          have e3 : cp (Str.ofString "0") = [48] := by decide +kernel
          rw [e3] at e2
          exact c2 (List.head_eq_of_cons_eq e2)
        rw [ne]
        refine ⟨true, rfl, iteT ⟨_, rfl, _, rfl, numS n, n, rfl, TL.int_num (by rw [← num_cp, cp_len]; omega), by omega, _, _, rfl, rfl, _, rfl, ?_⟩⟩
        rw [decide_eq_true hlo]
        refine iteT ⟨_, rfl, _, _, rfl, rfl, ?_⟩
        have q2 := q H' hs
        rw [← decide_eq_true (show (n : Int) ≤ 2000 by omega)] at q2
        exact q2
theorem ok_cue_of {f : Addr} {fd : FuncData} (F : Fun K "cue_of" "cue_of" s_cue_of f fd) (c_parts_of : Cal P w K mg base 2 "parts_of" spParts) (c_is_integer : Cal P w K mg base 1 "is_integer" spIsInt)
    (c_is_name : Cal P w K mg base 1 "is_name" spName) (c_is_text : Cal P w K mg base 2 "is_text" spIsText) : FnOk P w K mg base CX0 3 f fd ["thing", "earliest", "length"] spCue := by
  refine F.ok sc_cue_of (fun vs H Q E h => ?_) (fun cdv A outer s H vs Q E hr h => ?_)
  · obtain ⟨p, c, lo, len, rfl, _⟩ := h
    rfl
  · obtain ⟨p, c, lo, len, rfl, hp, W, qy, qn⟩ := h
    refine ⟨_, (pss_cons (ps_set (i := 3) sc_cue_of.nd rfl (Or.inl rfl) (pe_c c_parts_of hr (by decide) rfl (pa_cons (pv 0) (pa_cons (pe_int) pa_nil))))
    (pss_cons (ps_if (pt_cmpR op_isN (pv 3) (pe_non) (nomark _))
    (pss_one (ps_ret (pe_non)))
    pss_nil)
    (pss_cons (ps_asg (pv 3) (pg_tup rfl (pgs_cons (pg_name (i := 4) sc_cue_of.nd rfl (Or.inl rfl)) (pgs_cons (pg_name (i := 5) sc_cue_of.nd rfl (Or.inl rfl)) (pgs_cons (pg_name (i := 6) sc_cue_of.nd rfl (Or.inl rfl)) (pgs_cons (pg_name (i := 7) sc_cue_of.nd rfl (Or.inl rfl)) pgs_nil))))))
    (pss_cons (ps_if (PW.pt (pw_or (pt_not (pt_val (pe_c c_is_integer hr (by decide) rfl (pa_cons (pv 4) pa_nil)))) (pw_or (pt_not (pt_val (pe_c c_is_integer hr (by decide) rfl (pa_cons (pv 5) pa_nil)))) (pw_or (pt_not (pt_val (pe_c c_is_name hr (by decide) rfl (pa_cons (pv 6) pa_nil)))) (pw_or1 (pt_not (pt_val (pe_c c_is_text hr (by decide) rfl (pa_cons (pv 7) pa_nil)))))))))
    (pss_one (ps_ret (pe_non)))
    pss_nil)
    (pss_cons (ps_if (pt_not (pt_chain3 op_le op_lt op_le (pv 1) (pv 4) (pv 5) (pv 2)))
    (pss_one (ps_ret (pe_non)))
    pss_nil)
    (pss_one (ps_ret (pv 3)))))))), ?_⟩
    refine ⟨_, rfl, p, c.vs, 4, rfl, hp, rfl, (by decide : 4 ≤ 1000), fun H1 t s1 h1 => ?_⟩
    refine ⟨_, rfl, rfl, _, rfl, _, rfl, t, c.vs, rfl, SqT.of h1, rfl, _, _, rfl, _, _, rfl, _, _, rfl, _, _, rfl, rfl, ?_⟩
    refine ⟨_, rfl, .int c.s, rfl, trivial, _, rfl, _, rfl, .int c.e, rfl, trivial, _, rfl, _, rfl, c.nm, rfl, W.nm, fun H2 s2 => ⟨_, rfl, _, rfl, .str c.tx, rfl, .inl trivial, (fun z e => by cases e; exact W.tx), fun H3 s3 => ⟨_, rfl, ?_⟩⟩⟩
    have s13 := (s1.trans s2).trans s3
    cases hT : textV (.str c.tx) with
    | false =>
      refine qn ?_ H3 s13
      have e : okCue c lo len = (textV (.str c.tx) && (decide (lo ≤ c.s) && (decide (c.s < c.e) && decide (c.e ≤ len)))) := rfl
      rw [e, hT, Bool.false_and]
    | true =>
      have e : okCue c lo len = (textV (.str c.tx) && (decide (lo ≤ c.s) && (decide (c.s < c.e) && decide (c.e ≤ len)))) := rfl
      rw [hT, Bool.true_and] at e
      refine ⟨_, rfl, _, rfl, _, _, rfl, rfl, _, rfl, ?_⟩
      by_cases h1' : lo ≤ c.s
      · rw [decide_eq_true h1', Bool.true_and] at e
        rw [decide_eq_true h1']
        refine iteT ⟨_, rfl, _, _, rfl, rfl, _, rfl, ?_⟩
        by_cases h2' : c.s < c.e
        · rw [decide_eq_true h2', Bool.true_and] at e
          rw [decide_eq_true h2']
          refine iteT ⟨_, rfl, _, _, rfl, rfl, _, rfl, ?_⟩
          by_cases h3' : c.e ≤ len
          · rw [decide_eq_true h3'] at e ⊢
            exact ⟨_, rfl, qy e H3 t s13 ((s2.trans s3) _ _ h1)⟩
          · rw [decide_eq_false h3'] at e ⊢
            exact qn e H3 s13
        · rw [decide_eq_false h2', Bool.false_and] at e
          rw [decide_eq_false h2']
          exact iteF (qn e H3 s13)
      · rw [decide_eq_false h1', Bool.false_and] at e
        rw [decide_eq_false h1']
        exact iteF (qn e H3 s13)
end
end Sea
namespace Sea
open PySem PySem.Spec PyProof.Rows L2
/-! the cues of a reel -/
structure XI (P : Program) (w : World) (K : PySem.W.Frag) (mg : Str → Option Value) (base : Heap) (nm fld : Str) (C : Addr) : Prop where
  ex : ∃ (fI : Addr) (fd : FuncData), XC K mg nm fld C fI ∧ FnOk P w K mg base CX0 1 fI fd ["self", fld] (spIni K C fld) ∧ Binds K fd ["self", fld] []
/-- the number of the first cue that can't stand -/
noncomputable def judge (len : Int) : Int → List Cue → Option Nat
  | _, [] => none
  | lo, c :: r => if okCue c lo len = true then (judge len c.e r).map (· + 1) else some 0
/-- a cue at its place -/
def At (H : Hp) (e : Addr × Cue) : Prop := H e.1 = some (.tup e.2.vs)
abbrev refsC (L : List (Addr × Cue)) : List V := L.map fun e => V.ref e.1
abbrev cuesC (L : List (Addr × Cue)) : List Cue := L.map (·.2)
theorem refs_app (a b : List (Addr × Cue)) : refsC (a ++ b) = refsC a ++ refsC b := List.map_append
theorem cues_app (a b : List (Addr × Cue)) : cuesC (a ++ b) = cuesC a ++ cuesC b := List.map_append
theorem At.keep {H H' : Hp} {e : Addr × Cue} (h : At H e) (s : Same H H') : At H' e := s _ _ h
noncomputable def spJudged (CB CM : Addr) : Sp := fun vs H Q E => ∃ (a : Addr) (L : List (Addr × Cue)) (len : Int), vs = [.int len, .ref a] ∧ (H a = some (.tup (refsC L)) ∨ H a = some (.lst (refsC L))) ∧ (∀ e ∈ L, At H e ∧ CueW e.2) ∧ L.length ≤ 100 ∧
  (∀ k, judge len 0 (cuesC L) = some k → ∀ H' d, Same H H' → H' d = none → E (.ref CB) (some d) (upd H' d (.xd [(("number" : Str), .int (k : Nat))]))) ∧
  (judge len 0 (cuesC L) = none → 40 < L.length → ∀ H' d, Same H H' → H' d = none → E (.ref CM) (some d) (upd H' d (.xd [(("word" : Str), .str (Str.ofString "cue"))]))) ∧
  (judge len 0 (cuesC L) = none → L.length ≤ 40 → ∀ H' t L', Same H H' → H' t = some (.tup (refsC L')) → cuesC L' = cuesC L → (∀ e ∈ L', At H' e) → Q (.ref t) H')
section
variable {P : Program} {w : World} {K : PySem.W.Frag} {mg : Str → Option Value} {base : Heap} {CB CM : Addr}
theorem ok_judged_cues {f : Addr} {fd : FuncData} (F : Fun K "judged_cues" "judged_cues" s_judged_cues f fd) (m_enumerate : mg "enumerate" = none) (m_len : mg "len" = none) (m_tuple : mg "tuple" = none)
    {t : Tok} (g_MOST_CUES : mg "MOST_CUES" = some (.int 40 t)) (xB : XI P w K mg base "BadCue" "number" CB) (xM : XI P w K mg base "TooMany" "word" CM)
    (c_items_of : Cal P w K mg base 1 "items_of" spItems) (c_cue_of : Cal P w K mg base 3 "cue_of" spCue) : FnOk P w K mg base (L2.CX P w) 4 f fd ["length", "cues"] (spJudged CB CM) := by
  obtain ⟨fIB, fdB, XB, FB, bB⟩ := xB.ex
  obtain ⟨fIM, fdM, XM, FM, bM⟩ := xM.ex
  refine F.okX sc_judged_cues (fun vs H Q E h => ?_) (fun cdv A outer s H vs Q E hr h => ?_)
  · obtain ⟨a, L, len, rfl, _⟩ := h
    rfl
  · obtain ⟨a, L, len, rfl, ha, hL, hsz, qb, qm, qy⟩ := h
    refine ⟨_, (pss_cons (ps_set (i := 2) sc_judged_cues.nd rfl (Or.inl rfl) (pe_c c_items_of hr (by decide) rfl (pa_cons (pv 1) pa_nil)))
    (pss_cons (ps_if (pt_cmpR op_isN (pv 2) (pe_non) (nomark _))
    (pss_one ps_never)
    pss_nil)
    (pss_cons (ps_set (i := 3) sc_judged_cues.nd rfl (Or.inl rfl) (pe_lst pa_nil))
    (pss_cons (ps_set (i := 4) sc_judged_cues.nd rfl (Or.inl rfl) (pe_int))
    (pss_cons (ps_for (passes_of rfl) rfl (pi_enT (by rfl) m_enumerate (pa_cons (pv 2) pa_nil)) (pg_tup rfl (pgs_cons (pg_name (i := 5) sc_judged_cues.nd rfl (Or.inl rfl)) (pgs_cons (pg_name (i := 6) sc_judged_cues.nd rfl (Or.inl rfl)) pgs_nil)))
    (pss_cons (ps_set (i := 7) sc_judged_cues.nd rfl (Or.inl rfl) (pe_c c_cue_of hr (by decide) rfl (pa_cons (pv 6) (pa_cons (pv 4) (pa_cons (pv 0) pa_nil)))))
    (pss_cons (ps_if (pt_cmpR op_isN (pv 7) (pe_non) (nomark _))
    (pss_one (ps_raise rfl (takes_of rfl rfl rfl rfl) (pmk_oex XB.ox XB.iC XB.tI FB (hr.mono (by decide)) bB .nil pass0 rfl XB.gC (pa_cons (pv 5) pa_nil))))
    pss_nil)
    (pss_cons (ps_expr (pe_bm PySem.F.plainAttrs_list PySem.F.slot_list_append PySem.F.type_list_append mt_append (pv 3) (pa_cons (pv 7) pa_nil)))
    (pss_one (ps_set (i := 4) sc_judged_cues.nd rfl (Or.inl rfl) (pe_ix ix_tup (pv 7) (pe_int) (fun _ _ => rfl))))))))
    (pss_cons (ps_if (pt_cmpR op_gt (pe_callB call_len (by rfl) m_len (by decide +kernel) (pa_cons (pv 3) pa_nil)) (pe_glob (v := .int 40) rfl g_MOST_CUES ⟨_, rfl⟩) (nomark _))
    (pss_one (ps_raise rfl (takes_of rfl rfl rfl rfl) (pmk_oex XM.ox XM.iC XM.tI FM (hr.mono (by decide)) bM .nil pass0 rfl XM.gC (pa_cons (pe_str) pa_nil))))
    pss_nil)
    (pss_one (ps_ret (pe_callTy call_tuple_of (by rfl) m_tuple (by decide +kernel) (pa_cons (pv 3) pa_nil)))))))))), ?_⟩
    refine ⟨_, rfl, a, refsC L, rfl, ha, fun H1 it s1 h1 => ?_⟩
    refine ⟨_, rfl, rfl, _, rfl, (Nat.zero_le _), fun D hD => ?_⟩
    have h1D : (upd H1 D (.lst [])) it = some (.tup (refsC L)) := (same_new hD) _ _ h1
    refine ⟨_, rfl, it, refsC L, rfl, SqT.of h1D, ?_⟩
    refine for_it walk_enT (fun i σ H' => ∃ (lo : Int) (k5 k6 k7 : Option V) (L' : List (Addr × Cue)), σ = [some (.int len), some (.ref a), some (.ref it), some (.ref D), some (.int lo), k5, k6, k7] ∧ Same H1 H' ∧
      H' D = some (.lst (refsC L')) ∧ cuesC L' = (cuesC L).take i ∧ (∀ e ∈ L', At H' e) ∧ judge len 0 (cuesC L) = (judge len lo ((cuesC L).drop i)).map (· + i))
      ⟨0, none, none, none, [], rfl, same_new hD, upd_same, rfl, (fun _ h => nomatch h), by simp⟩ (fun i σ H' _ ⟨_, _, _, _, _, _, hs, _⟩ => SqT.of (hs _ _ h1)) ?_ ?_
    · rintro i x σ Ha Hb hi ⟨lo, k5, k6, k7, L', rfl, hs, hd, hc, hat, hj⟩ ⟨T, y, rfl, hT, hy, rfl⟩
      have hi' : i < L.length := by rw [List.length_map] at hi; exact hi
      obtain ⟨e, he, rfl⟩ : ∃ e, L[i]? = some e ∧ y = V.ref e.1 := by
        rw [List.getElem?_map, List.getElem?_eq_getElem hi'] at hy
        exact ⟨L[i], List.getElem?_eq_getElem hi', (Option.some.inj hy).symm⟩
      have hm : e ∈ L := List.mem_of_getElem? he
      obtain ⟨eAt, eW⟩ := hL e hm
      have sT := same_new (o := .tup [.int (i : Nat), V.ref e.1]) hT
      have s1b : Same H1 (upd Ha T (.tup [.int (i : Nat), V.ref e.1])) := hs.trans sT
      have dr : (cuesC L).drop i = e.2 :: (cuesC L).drop (i + 1) := by
        have hlt : i < (cuesC L).length := by rw [List.length_map]; exact hi'
        rw [List.drop_eq_getElem_cons hlt]
        congr 1
        have e1 : (cuesC L)[i]? = some e.2 := by rw [List.getElem?_map, he]; rfl
        exact (List.getElem?_eq_some_iff.mp e1).2
      refine ⟨T, _, rfl, SqT.of upd_same, rfl, _, _, rfl, _, _, rfl, rfl, ?_⟩
      refine ⟨_, rfl, _, rfl, _, rfl, e.1, e.2, lo, len, rfl, s1b _ _ (s1 _ _ eAt), eW, fun ok H2 t2 s2 h2 => ?_, fun no H2 s2 => ?_⟩
      · -- it stands
        refine ⟨_, rfl, rfl, _, rfl, ?_⟩
        have hd2 : H2 D = some (.lst (refsC L')) := s2 _ _ (sT _ _ hd)
        have len' : L'.length ≤ 100 := by
          have := congrArg List.length hc
          rw [List.length_map, List.length_take] at this
          omega
        refine ⟨_, rfl, .inl ⟨rfl, _, SqL.of hd2⟩, _, rfl, D, _, _, rfl, rfl, hd2, (by rw [List.length_map]; exact small_line (by omega)), ?_⟩
        have nDt : t2 ≠ D := fun z => by rw [z, hd2] at h2; cases h2
        have h3 : (upd H2 D (.lst (refsC L' ++ [V.ref t2]))) t2 = some (.tup e.2.vs) := by rw [upd_ne nDt]; exact h2
        refine ⟨_, rfl, t2, _, 1, _, rfl, rfl, SqT.of h3, atI_nat (j := 1) rfl, e.2.e, _, _, _, L' ++ [(t2, e.2)], rfl, same_over (s1b.trans s2) hD, ?_, ?_, ?_, ?_⟩
        · rw [upd_same, refs_app]
          rfl
        · rw [cues_app, hc, List.take_add_one]
          have e1 : (cuesC L)[i]? = some e.2 := by rw [List.getElem?_map, he]; rfl
          rw [e1]
          rfl
        · intro e' he'
          rcases List.mem_append.mp he' with h | h
          · have q1 := hat e' h
            have ne : e'.1 ≠ D := fun z => by
              have q2 : Ha e'.1 = some (.tup e'.2.vs) := q1
              rw [z, hd] at q2
              cases q2
            show (upd H2 D _) e'.1 = _
            rw [upd_ne ne]
            exact s2 _ _ (sT _ _ q1)
          · rw [List.mem_singleton.mp h]
            exact h3
        · rw [hj, dr]
          show ((if okCue e.2 lo len = true then _ else _) : Option Nat).map _ = _
          rw [if_pos ok, Option.map_map]
          congr 1
          funext n
          show n + 1 + i = n + (i + 1)
          omega
      · -- it does not
        refine ⟨_, rfl, rfl, _, rfl, _, rfl, mk_fin XB.ox XB.no fun d hd3 => ?_⟩
        have r := qb i (by
          rw [hj, dr]
          show ((if okCue e.2 lo len = true then _ else _) : Option Nat).map _ = _
          rw [if_neg (by rw [no]; exact Bool.false_ne_true)]
          show some (0 + i) = some i
          rw [Nat.zero_add]) H2 d ((s1.trans s1b).trans s2) hd3
        exact r
    · rintro σ H' ⟨lo, k5, k6, k7, L', rfl, hs, hd, hc, hat, hj⟩
      have hl : (refsC L).length = L.length := List.length_map ..
      have hl2 : (cuesC L).length = L.length := List.length_map ..
      rw [hl, ← hl2, List.drop_length] at hj
      have hj' : judge len 0 (cuesC L) = none := hj
      rw [hl, ← hl2, List.take_length] at hc
      have len' : L'.length = L.length := by
        have := congrArg List.length hc
        rw [List.length_map, List.length_map] at this
        exact this
      refine ⟨_, rfl, _, L'.length, rfl, .inl ⟨_, SqL.of hd, (List.length_map ..).symm⟩, _, _, rfl, rfl, _, rfl, ite2 (fun k => ?_) (fun k => ?_)⟩
      · refine mk_fin XM.ox XM.no fun d hd3 => qm hj' ?_ H' d (s1.trans hs) hd3
        have : (40 : Int) < (L'.length : Nat) := of_decide_eq_true k
        omega
      · refine ⟨_, rfl, D, _, rfl, .inl ⟨SqL.of hd, fun l hl3 => ?_⟩⟩
        refine qy hj' ?_ _ l L' ((s1.trans hs).trans (same_new hl3)) upd_same hc fun e he => (hat e he).keep (same_new hl3)
        have : ¬ (40 : Int) < (L'.length : Nat) := fun z => k (decide_eq_true z)
        omega
end
end Sea
namespace Sea
open PySem PySem.Spec PyProof.Rows L2
/-! a reel is made -/
theorem putF_len (f : Str) (v : V) : ∀ fs : List (Str × V), (putF f v fs).length ≤ fs.length + 1
  | [] => Nat.le_refl _
  | (g, x) :: r => by
    show (if g = f then (g, v) :: r else (g, x) :: putF f v r).length ≤ _
    by_cases h : g = f
    · rw [if_pos h]
      exact Nat.le_succ _
    · rw [if_neg h]
      exact Nat.succ_le_succ (putF_len f v r)
def reelF (a b c d : V) : List (Str × V) := putF "_naming" d (putF "_speakers" c (putF "cues" b (putF "length" a [])))
theorem reel_length (a b c d : V) : (reelF a b c d).lookup ("length" : Str) = some a := by
  unfold reelF
  rw [lookup_putF, if_neg (by decide +kernel), lookup_putF, if_neg (by decide +kernel), lookup_putF, if_neg (by decide +kernel), lookup_putF, if_pos rfl]
theorem reel_cues (a b c d : V) : (reelF a b c d).lookup ("cues" : Str) = some b := by
  unfold reelF
  rw [lookup_putF, if_neg (by decide +kernel), lookup_putF, if_neg (by decide +kernel), lookup_putF, if_pos rfl]
theorem cues3 (a b c : V) : (putF "_speakers" c (putF "cues" b (putF "length" a []))).lookup ("cues" : Str) = some b := by
  rw [lookup_putF, if_neg (by decide +kernel), lookup_putF, if_pos rfl]
theorem cues2 (a b : V) : (putF "cues" b (putF "length" a [])).lookup ("cues" : Str) = some b := by
  rw [lookup_putF, if_pos rfl]
theorem ne_ins {H : Hp} {x p C dx : Addr} {fs : List (Str × V)} {o : HO} (hx : H x = some (.ins C dx fs)) (hp : H p = some o) (ho : ∀ z, o ≠ .ins C dx z) : p ≠ x := fun e => by
  rw [e, hx] at hp
  exact ho fs (Option.some.inj hp).symm
theorem few_put {f : Str} {v : V} {fs : List (Str × V)} {n : Nat} (h : fs.length ≤ n) (h2 : n + 1 ≤ 100) : (putF f v fs).length < 1000 := by
  have := putF_len f v fs
  omega
theorem len_cues {L L' : List (Addr × Cue)} (h : cuesC L' = cuesC L) : L'.length = L.length := by
  have := congrArg List.length h
  rw [List.length_map, List.length_map] at this
  exact this
/-- a def with one default, as it stands behind the top -/
structure FunV (K : PySem.W.Frag) (x qual : Str) (st : Stmt) (f : Addr) (fd : FuncData) : Prop where
  ex : ∃ (oc : Value) (od : Option Addr) (TD : Addr) (kV doc pm : Value) (an : Option Addr) (cdv ct : Value) (osl : Array (Option Value)) (o : Obj) (d0 : Value) (n : Nat),
    fd = PySem.W.fnOf x qual (defArgs st) (defBody st) (defScope st) (.ref TD) kV doc pm an cdv ct ∧ K.lookup f = some ⟨oc, od, .func fd, osl⟩ ∧ PySem.W.codeIn K cdv qual = true ∧ K.lookup TD = some o ∧ o.data = .seq #[d0] n
theorem FunV.okX {P : Program} {w : World} {K : PySem.W.Frag} {mg : Str → Option Value} {base : Heap} {x qual : Str} {st : Stmt} {f : Addr} {fd : FuncData} {N ps : List Str} {k : Nat} {sp : Sp} (F : FunV K x qual st f fd) (S : FnScope N ps (defScope st)) (len : ∀ vs H Q E, sp vs H Q E → vs.length = ps.length)
    (hbody : ∀ (cdv : Value) (A : Around) (outer : List Env) (s : Shared) (H : Hp) (vs : List V) (Q : VK) (E : XK), Room k (A.deeper (envOfC qual (defScope st) s.heap.objs.size f cdv)) → sp vs H Q E →
      ∃ t, PSs (cxOf (L2.CX P w) P w K mg base N qual (defScope st) f cdv A outer s H E) (defBody st) t ∧ t { nx := fun _ H' => Q .non H', rt := Q } (start N vs) H) : FnOk P w K mg base (L2.CX P w) (k + 1) f fd ps sp := by
  obtain ⟨oc, od, TD, kV, doc, pm, an, cdv, ct, osl, o, d0, n, rfl, lk, hcd, _⟩ := F.ex
  exact fn_of lk hcd S len fun A outer s H vs Q E hr hsp => hbody cdv A outer s H vs Q E hr hsp
theorem reel_binds {K : PySem.W.Frag} {f : Addr} {fd : FuncData} (F : FunV K "__init__" "Reel.__init__" s_Reel___init__ f fd) : Binds K fd ["self", "length", "cues"] [] := by
  obtain ⟨oc, od, TD, kV, doc, pm, an, cdv, ct, osl, o, d0, n, rfl, lk, hcd, lT, oT⟩ := F.ex
  intro s us X hl
  rw [List.append_nil] at hl ⊢
  obtain ⟨a, b, c, rfl⟩ : ∃ a b c, us = [a, b, c] := match us, hl with | [a, b, c], _ => ⟨a, b, c, rfl⟩
  have e : ∃ k, bindArgs (PySem.W.fnOf "__init__" "Reel.__init__" (defArgs s_Reel___init__) (defBody s_Reel___init__) (defScope s_Reel___init__) (.ref TD) kV doc pm an cdv ct) ⟨[a, b, c], []⟩ = seqItems? (.ref TD) >>= k ∧
      k (some #[d0]) = pure ((["self", "length", "cues"] : List Str).zip [a, b, c]) := ⟨_, rfl, rfl⟩
  obtain ⟨k, e1, e2⟩ := e
  refine BindsTo.of_looks fun M => ?_
  rw [e1]
  exact looks_items X lT oT (.of_pure e2)
/-- what the top has written of Reel -/
structure RC (K : PySem.W.Frag) (mg : Str → Option Value) (CR fI : Addr) : Prop where
  cl : Cls K CR
  made : Mk K CR fI
  g : mg "Reel" = some (.ref CR)
  nL : NoAttr K CR "length"
  nC : NoAttr K CR "cues"
  nS : NoAttr K CR "_speakers"
  nN : NoAttr K CR "_naming"
  kl : PySem.W.findIn K (.ref CR) "__class__" = some (some (.builtin "object.__class__"))
  gt : PySem.W.specialIn K (.builtin "object.__class__") "__get__" = some (some (.builtin "getset_descriptor.__get__"))
  tk : PySem.W.takesIn K (.builtin "object.__class__") = some true
  mr : PySem.W.mroIn K CR (.type "object") = some true
/-- the reel at x -/
def ReelAt (H : Hp) (CR x : Addr) (len : Int) (L : List (Addr × Cue)) : Prop := ∃ dx t c d, H x = some (.ins CR dx (reelF (.int len) (.ref t) c d)) ∧ H t = some (.tup (refsC L)) ∧ ∀ e ∈ L, At H e
noncomputable def spReel (CR CB CM : Addr) : Sp := fun vs H Q E => ∃ (x dx a : Addr) (L : List (Addr × Cue)) (len : Int), vs = [.ref x, .int len, .ref a] ∧ H x = some (.ins CR dx []) ∧ 1 ≤ len ∧ len ≤ 2000 ∧
  (H a = some (.tup (refsC L)) ∨ H a = some (.lst (refsC L))) ∧ (∀ e ∈ L, At H e ∧ CueW e.2) ∧ L.length ≤ 100 ∧
  (∀ k, judge len 0 (cuesC L) = some k → ∀ H' d, KB x H H' → H' d = none → E (.ref CB) (some d) (upd H' d (.xd [(("number" : Str), .int (k : Nat))]))) ∧
  (judge len 0 (cuesC L) = none → 40 < L.length → ∀ H' d, KB x H H' → H' d = none → E (.ref CM) (some d) (upd H' d (.xd [(("word" : Str), .str (Str.ofString "cue"))]))) ∧
  (judge len 0 (cuesC L) = none → L.length ≤ 40 → ∀ H' L', KB x H H' → ReelAt H' CR x len L' → cuesC L' = cuesC L → Q .non H')
section
variable {P : Program} {w : World} {K : PySem.W.Frag} {mg : Str → Option Value} {base : Heap} {CB CM CR fI : Addr}
theorem ok_reel {f : Addr} {fd : FuncData} (F : FunV K "__init__" "Reel.__init__" s_Reel___init__ f fd) (m_enumerate : mg "enumerate" = none) (m_tuple : mg "tuple" = none) (m_sorted : mg "sorted" = none) (m_set : mg "set" = none)
    {t : Tok} (g_MOST_TICKS : mg "MOST_TICKS" = some (.int 2000 t)) (T : RC K mg CR fI) (c_is_within : Cal P w K mg base 2 "is_within" spWithin) (c_judged_cues : CalX P w K mg base 4 "judged_cues" (spJudged CB CM)) :
    FnOk P w K mg base (L2.CX P w) 5 f fd ["self", "length", "cues"] (spReel CR CB CM) := by
  refine F.okX sc_Reel___init__ (fun vs H Q E h => ?_) (fun cdv A outer s H vs Q E hr h => ?_)
  · obtain ⟨x, dx, a, L, len, rfl, _⟩ := h
    rfl
  · obtain ⟨x, dx, a, L, len, rfl, hx, l1, l2, ha, hL, hsz, qb, qm, qy⟩ := h
    refine ⟨_, (pss_cons (ps_if (pt_not (pt_val (pe_c c_is_within hr (by decide) rfl (pa_cons (pv 1) (pa_cons (pe_int) (pa_cons (pe_glob (v := .int 2000) rfl g_MOST_TICKS ⟨_, rfl⟩) pa_nil))))))
    (pss_one ps_never)
    pss_nil)
    (pss_cons (ps_fld (pv 0) (pv 1) rfl)
    (pss_cons (ps_fld (tv := tCallSD (spJudged CB CM) [] (WE fun cls d _ H => E cls d H) (tCons (tVar 1) (tCons (tVar 2) tNil))) (pv 0) (by
          refine pe_cX (k := 4) (j := 4) (sp := spJudged CB CM) ?_ ?_ ?_ ?_ ?_ ?_
          · exact c_judged_cues
          · exact hr
          · decide
          · rfl
          · exact (fun σ => passAt (takes_of rfl rfl rfl rfl) σ)
          · exact (pa_cons (pv 1) (pa_cons (pv 2) pa_nil))) rfl)
    (pss_cons (ps_fld (pv 0) (pe_callTy call_tuple_of (by rfl) m_tuple (by decide +kernel) (pa_cons (pe_callB (cr_sortedSetT rfl) (by rfl) m_sorted (by decide +kernel) (pa_cons (pe_callTy (cr_setT rfl) (by rfl) m_set (by decide +kernel) (pa_cons (pe_lc (own := [("cue", 3)]) rfl sc_Reel___init__.nd (pi_tup (pe_fld (pv 0) rfl)) (blkOk_by (N := N_Reel___init__) (sc := defScope s_Reel___init__) (by decide +kernel)) (fun _ _ _ _ _ => (pg_name (i := 3) sc_Reel___init__.nd rfl (Or.inl rfl))) (fun _ _ _ _ _ => pts_nil) (fun _ _ _ _ _ => (pe_ix (show IxR _ (rIxT K) from ix_tup) (pv 3) (pe_int) (fun _ _ => rfl)))) pa_nil)) pa_nil)) pa_nil)) rfl)
    (pss_one (ps_fld (pv 0) (pe_callTy call_tuple_of (by rfl) m_tuple (by decide +kernel) (pa_cons (pe_lc (own := [("number", 4), ("cue", 3)]) (g := gTup K 2 (gCons (gName 4) (gCons (gName 3) gNil))) rfl sc_Reel___init__.nd (pi_enT (by rfl) m_enumerate (pa_cons (pe_fld (pv 0) rfl) pa_nil)) (blkOk_by (N := N_Reel___init__) (sc := defScope s_Reel___init__) (by decide +kernel)) (fun _ _ _ _ _ => by exact (pg_tup rfl (pgs_cons (pg_name (i := 4) sc_Reel___init__.nd rfl (Or.inl rfl)) (pgs_cons (pg_name (i := 3) sc_Reel___init__.nd rfl (Or.inl rfl)) pgs_nil)))) (fun _ _ _ _ _ => pts_one (pt_val (show PE _ _ (tBM K "str" _ _ _) from pe_bm PySem.F.plainAttrs_str PySem.F.slot_str_startswith PySem.F.type_str_startswith mt_startswith (pe_ix (show IxR _ (rIxT K) from ix_tup) (pv 3) (pe_int) (fun _ _ => rfl)) (pa_cons (pe_op op_add_str (pe_ix (show IxR _ (rIxT K) from ix_tup) (pv 3) (pe_int) (fun _ _ => rfl)) (pe_str)) pa_nil)))) (fun _ _ _ _ _ => (pv 4))) pa_nil)) rfl)))))), ?_⟩
    have hI : inside (.int len) 1 2000 = true := by
      show (decide (1 ≤ len) && decide (len ≤ 2000)) = true
      rw [decide_eq_true l1, decide_eq_true l2]
      rfl
    refine ⟨_, rfl, .int len, 1, 2000, rfl, trivial, true, congrArg V.bl hI, ?_⟩
    refine ⟨_, rfl, _, rfl, x, CR, dx, [], rfl, hx, T.cl, T.nL, (by decide : 0 < 1000), ?_⟩
    have nx : ∀ {p : Addr} {xs : List V}, H p = some (.tup xs) → p ≠ x := fun {p xs} h => ne_ins hx h fun z e => by cases e
    have nx' : ∀ {p : Addr} {xs : List V}, H p = some (.lst xs) → p ≠ x := fun {p xs} h => ne_ins hx h fun z e => by cases e
    have k1 : KB x H (upd H x (.ins CR dx (putF "length" (.int len) []))) := (KB.refl x H).set
    refine ⟨_, rfl, _, rfl, a, L, len, rfl, ?_, fun e he => ⟨k1 _ _ (nx (hL e he).1) (hL e he).1, (hL e he).2⟩, hsz, fun k hk H' d s2 hd => qb k hk H' d (k1.trans (.of_same s2)) hd, fun hk hl H' d s2 hd => qm hk hl H' d (k1.trans (.of_same s2)) hd, fun hj hle H2 t2 L2 s2 h2 hc hat => ?_⟩
    · rcases ha with h | h
      · exact .inl (k1 _ _ (nx h) h)
      · exact .inr (k1 _ _ (nx' h) h)
    have k2 := k1.trans (.of_same s2)
    have hx2 := s2 x _ upd_same
    have nt2 : t2 ≠ x := ne_ins hx2 h2 fun z e => by cases e
    have nL2 : ∀ e ∈ L2, e.1 ≠ x := fun e he => ne_ins hx2 (hat e he) fun z q => by cases q
    have lL2 : L2.length ≤ 40 := by rw [len_cues hc]; exact hle
    refine ⟨_, rfl, x, CR, dx, _, rfl, hx2, T.cl, T.nC, few_put (n := 0) (Nat.le_refl 0) (by decide), ?_⟩
    have k3 : KB x H2 (upd H2 x (.ins CR dx (putF "cues" (.ref t2) (putF "length" (.int len) [])))) := (KB.refl x H2).set
    have h3 := k3 t2 _ nt2 h2
    have at3 : ∀ e ∈ L2, At (upd H2 x (.ins CR dx (putF "cues" (.ref t2) (putF "length" (.int len) [])))) e := fun e he => k3 _ _ (nL2 e he) (hat e he)
    generalize hH3 : (upd H2 x (.ins CR dx (putF "cues" (.ref t2) (putF "length" (.int len) [])))) = H3 at k3 h3 at3 ⊢
    have hx3 : H3 x = some (.ins CR dx (putF "cues" (.ref t2) (putF "length" (.int len) []))) := by rw [← hH3]; exact upd_same
    have k03 := k2.trans k3
    -- the speakers
    refine ⟨_, rfl, x, CR, dx, _, _, rfl, hx3, T.cl, T.nC, cues2 _ _, t2, rfl, ⟨_, SqT.of h3⟩, fun D hD => ?_⟩
    refine lc_it walk_tup (fun i H' => Same H3 H' ∧ ∃ ns : List Str, H' D = some (.lst (ns.map V.str)) ∧ ns.length = i) ⟨same_new hD, [], upd_same, rfl⟩ (fun i H' _ hq => SqT.of (hq.1 _ _ h3)) ?_ ?_
    · rintro i y Ha Hb hi ⟨hs, ns, hd, hn⟩ ⟨rfl, hy⟩
      have hi' : i < L2.length := by rw [List.length_map] at hi; exact hi
      obtain ⟨e, he, rfl⟩ : ∃ e, L2[i]? = some e ∧ y = V.ref e.1 := by
        rw [List.getElem?_map, List.getElem?_eq_getElem hi'] at hy
        exact ⟨L2[i], List.getElem?_eq_getElem hi', (Option.some.inj hy).symm⟩
      have hA := hs _ _ (at3 e (List.mem_of_getElem? he))
      refine ⟨rfl, _, rfl, e.1, _, 2, _, rfl, rfl, SqT.of hA, atI_nat (j := 2) rfl, _, hd, (by rw [List.length_map]; exact small_line (by omega)), same_over hs hD, ns ++ [e.2.nm], ?_, ?_⟩
      · rw [upd_same, List.map_append]
        rfl
      · rw [List.length_append, hn]
        rfl
    rintro H4 ⟨s4, ns, hd, hn⟩
    rw [List.length_map] at hn
    refine ⟨D, ns, rfl, SqL.of hd, by omega, fun p hp => ⟨p, ns, rfl, upd_same, by omega, fun zs p2 _ _ _ _ hp2 => ⟨p2, _, rfl, .inl ⟨SqL.of upd_same, fun l hl => ?_⟩⟩⟩⟩
    have s5 := ((s4.trans (same_new hp)).trans (same_new hp2)).trans (same_new (o := .tup (zs.map V.str)) hl)
    have hx5 := s5 _ _ hx3
    refine ⟨_, rfl, x, CR, dx, _, rfl, hx5, T.cl, T.nS, few_put (n := 1) (putF_len _ _ _) (by decide), ?_⟩
    have k6 := (KB.of_same s5 : KB x H3 _).set (o := .ins CR dx (putF "_speakers" (.ref l) (putF "cues" (.ref t2) (putF "length" (.int len) []))))
    have h6 := k6 t2 _ nt2 h3
    have at6 := fun e (he : e ∈ L2) => k6 _ _ (nL2 e he) (at3 e he)
    generalize hH6 : (upd _ x (.ins CR dx (putF "_speakers" (.ref l) (putF "cues" (.ref t2) (putF "length" (.int len) []))))) = H6 at k6 h6 at6 ⊢
    have hx6 : H6 x = some (.ins CR dx (putF "_speakers" (.ref l) (putF "cues" (.ref t2) (putF "length" (.int len) [])))) := by rw [← hH6]; exact upd_same
    -- who is named
    refine ⟨_, rfl, x, CR, dx, _, _, rfl, hx6, T.cl, T.nC, cues3 _ _ _, t2, _, rfl, SqT.of h6, fun D2 hD2 => ?_⟩
    refine lc_it walk_enT (fun i H' => Same H6 H' ∧ ∃ ms : List V, H' D2 = some (.lst ms) ∧ ms.length ≤ i) ⟨same_new hD2, [], upd_same, Nat.le_refl _⟩ (fun i H' _ hq => SqT.of (hq.1 _ _ h6)) ?_ ?_
    · rintro i y Ha Hb hi ⟨hs, ms, hd2, hm⟩ ⟨T2, v, rfl, hT2, hv, rfl⟩
      have hi' : i < L2.length := by rw [List.length_map] at hi; exact hi
      obtain ⟨e, he, rfl⟩ : ∃ e, L2[i]? = some e ∧ v = V.ref e.1 := by
        rw [List.getElem?_map, List.getElem?_eq_getElem hi'] at hv
        exact ⟨L2[i], List.getElem?_eq_getElem hi', (Option.some.inj hv).symm⟩
      have hme := List.mem_of_getElem? he
      have sT := same_new (o := .tup [.int (i : Nat), V.ref e.1]) hT2
      have hA := sT _ _ (hs _ _ (at6 e hme))
      have hd3 := sT _ _ hd2
      have s7 := hs.trans sT
      refine ⟨T2, _, rfl, SqT.of upd_same, rfl, _, _, rfl, _, _, rfl, rfl, rfl, _, rfl, e.1, _, 3, _, rfl, rfl, SqT.of hA, atI_nat (j := 3) rfl, rfl, _, rfl, e.1, _, 2, _, rfl, rfl, SqT.of hA, atI_nat (j := 2) rfl, _, _, rfl, rfl, ?_, _, _, rfl, rfl, _, rfl, ite2 (fun _ => ?_) (fun _ => ?_)⟩
      · have hin : e.2 ∈ cuesC L := hc ▸ List.mem_map_of_mem (f := fun e : Addr × Cue => e.2) hme
        obtain ⟨e0, he0, eq0⟩ := List.mem_map.mp hin
        have W := (hL e0 he0).2
        rw [eq0] at W
        have m8 := W.nm.most
        rw [cp_len] at m8
        have c1 : (Str.ofString ":").length = 1 := by decide +kernel
        rw [c1]
        exact Nat.le_of_lt (small1000 (by omega))
      · exact ⟨_, rfl, _, hd3, small_line (by omega), same_over s7 hD2, _, upd_same, by rw [List.length_append]; exact Nat.succ_le_succ hm⟩
      · exact ⟨s7, ms, hd3, Nat.le_succ_of_le hm⟩
    rintro H7 ⟨s7, ms, hd2, hm⟩
    refine ⟨D2, _, rfl, .inl ⟨SqL.of hd2, fun l2 hl2 => ?_⟩⟩
    have s8 := s7.trans (same_new (o := .tup ms) hl2)
    refine ⟨_, rfl, x, CR, dx, _, rfl, s8 _ _ hx6, T.cl, T.nN, few_put (n := 2) (Nat.le_trans (putF_len _ _ _) (Nat.succ_le_succ (putF_len _ _ _))) (by decide), ?_⟩
    have k9 : KB x H6 _ := (KB.of_same s8).set (o := .ins CR dx (reelF (.int len) (.ref t2) (.ref l) (.ref l2)))
    exact qy hj hle _ L2 ((k03.trans k6).trans k9) ⟨dx, t2, _, _, upd_same, k9 _ _ nt2 h6, fun e he => k9 _ _ (nL2 e he) (at6 e he)⟩ hc
end
end Sea
namespace Sea
open PySem PySem.Spec PyProof.Rows L2
/-! the words of a line -/
abbrev B1 : Str := Str.ofString " "
theorem len_b1 : B1.length = 1 := by decide +kernel
theorem app_cp (a b : Str) : cp (a ++ b) = cp a ++ cp b := by
  show (a.cps ++ b.cps).toList = _
  rw [Array.toList_append]
theorem app_len (a b : Str) : (a ++ b).length = a.length + b.length := by
  rw [← cp_len, ← cp_len, ← cp_len, app_cp, List.length_append]
/-- the method m of the class at C keeps sp, and raises nothing -/
def MCal (P : Program) (w : World) (K : PySem.W.Frag) (mg : Str → Option Value) (base : Heap) (k : Nat) (C : Addr) (m : Str) (sp : Sp) : Prop :=
  ∃ (f : Addr) (fd : FuncData) (ps : List Str), FnOk P w K mg base CX0 k f fd ps sp ∧ Meth K C m f ∧ Binds K fd ps []
section
variable {X : Cx} {sp : Sp} {k j : Nat} {C : Addr} {m : Str} {o e : Expr} {es : List Expr} {ta : TE} {t : TA} {apos pos : Pos}
theorem pe_mc {pl : Sem Bool} (he : PE X o ta) (c : Cls X.K C) (M : MCal X.prog X.w X.K X.mg X.base k C m sp) (hr : Room j X.A) (hk : k ≤ j) (ha : PA X (e :: es) t)
    (hst : starEach (e :: es) X.env = (false, eval e X.env) :: starEach es X.env := by rfl) (hpl : (backTo pos (starEach es X.env)).any (·.1) = false := by rfl)
    (ht : eval (.Call (.Attribute o m apos) (e :: es) [] pos) X.env = (do
      let ov ← eval o X.env
      standAt apos.atName
      let (f, first) ← holding [ov] (getMethod ov m pl)
      callWith pos f first (backTo pos (starEach (e :: es) X.env)) (backToKw pos (keywordEach [] X.env))) := by rfl) :
    PE X (.Call (.Attribute o m apos) (e :: es) [] pos) (tMeth C m sp [] E0 ta t) := by
  obtain ⟨f, fd, ps, F, hm, b⟩ := M
  exact pe_meth he c hm F (hr.mono hk) b .nil pass0 ha hst hpl ht
theorem pe_mc0 {pl : Sem Bool} (he : PE X o ta) (c : Cls X.K C) (M : MCal X.prog X.w X.K X.mg X.base k C m sp) (hr : Room j X.A) (hk : k ≤ j)
    (ht : eval (.Call (.Attribute o m apos) [] [] pos) X.env = (do
      let ov ← eval o X.env
      standAt apos.atName
      let (f, first) ← holding [ov] (getMethod ov m pl)
      callWith pos f first (backTo pos (starEach [] X.env)) (backToKw pos (keywordEach [] X.env))) := by rfl) :
    PE X (.Call (.Attribute o m apos) [] [] pos) (tMeth C m sp [] E0 ta tNil) := by
  obtain ⟨f, fd, ps, F, hm, b⟩ := M
  exact pe_meth0 he c hm F (hr.mono hk) b .nil pass0 ht
end
def lwF (n t : Int) (wl : Addr) : List (Str × V) := putF "taken" (.int t) (putF "words" (.ref wl) (putF "number" (.int n) []))
theorem putF_twice (f : Str) (u v : V) : ∀ fs : List (Str × V), putF f v (putF f u fs) = putF f v fs
  | [] => by
    show (if f = f then [(f, v)] else _) = [(f, v)]
    rw [if_pos rfl]
  | (g, x) :: r => by
    show putF f v (if g = f then (g, u) :: r else (g, x) :: putF f u r) = (if g = f then (g, v) :: r else (g, x) :: putF f v r)
    by_cases h : g = f
    · rw [if_pos h, if_pos h]
      show (if g = f then (g, v) :: r else _) = _
      rw [if_pos h]
    · rw [if_neg h, if_neg h]
      show (if g = f then _ else (g, x) :: putF f v (putF f u r)) = _
      rw [if_neg h, putF_twice f u v r]
theorem lw_taken (n t : Int) (wl : Addr) : (lwF n t wl).lookup ("taken" : Str) = some (.int t) := by
  unfold lwF
  rw [lookup_putF, if_pos rfl]
theorem lw_words (n t : Int) (wl : Addr) : (lwF n t wl).lookup ("words" : Str) = some (.ref wl) := by
  unfold lwF
  rw [lookup_putF, if_neg (by decide +kernel), lookup_putF, if_pos rfl]
theorem lw_none (n t : Int) (wl : Addr) {m : Str} (h1 : m ≠ "taken") (h2 : m ≠ "words") (h3 : m ≠ "number") : (lwF n t wl).lookup m = none := by
  unfold lwF
  rw [lookup_putF, if_neg h1, lookup_putF, if_neg h2, lookup_putF, if_neg h3]
  rfl
theorem lw_put (n t u : Int) (wl : Addr) : putF "taken" (.int u) (lwF n t wl) = lwF n u wl := putF_twice _ _ _ _
theorem lw_few (n t : Int) (wl : Addr) : (lwF n t wl).length < 1000 := by
  have h1 := putF_len "taken" (.int t) (putF "words" (.ref wl) (putF "number" (.int n) []))
  have h2 := putF_len "words" (.ref wl) (putF "number" (.int n) [])
  have h3 := putF_len "number" (.int n) []
  have h0 : ([] : List (Str × V)).length = 0 := rfl
  show (putF "taken" (.int t) (putF "words" (.ref wl) (putF "number" (.int n) []))).length < 1000
  omega
/-- the words ws of a line at p, t of them taken -/
def LWAt (H : Hp) (CL p : Addr) (ws : List Str) (t : Nat) : Prop := ∃ (dx wl : Addr) (n : Int), H p = some (.ins CL dx (lwF n (t : Nat) wl)) ∧ H wl = some (.lst (ws.map V.str))
theorem LWAt.keep {H H' : Hp} {CL p : Addr} {ws : List Str} {t : Nat} (h : LWAt H CL p ws t) (s : Same H H') : LWAt H' CL p ws t :=
  let ⟨dx, wl, n, h1, h2⟩ := h
  ⟨dx, wl, n, s _ _ h1, s _ _ h2⟩
/-- the lines at a: a tuple or a list -/
def LinesAt (H : Hp) (a : Addr) (ls : List Str) : Prop := H a = some (.lst (ls.map V.str)) ∨ H a = some (.tup (ls.map V.str))
theorem LinesAt.keep {H H' : Hp} {a : Addr} {ls : List Str} (h : LinesAt H a ls) (s : Same H H') : LinesAt H' a ls := h.imp (s _ _) (s _ _)
theorem LinesAt.len {K : PySem.W.Frag} {H : Hp} {a : Addr} {ls : List Str} (h : LinesAt H a ls) : LenV K (.ref a) H ls.length := by
  rcases h with h | h
  · exact .inl ⟨_, SqL.of h, (List.length_map ..).symm⟩
  · exact .inr ⟨_, SqT.of h, (List.length_map ..).symm⟩
/-- what the top has written of LineWords -/
structure LC (K : PySem.W.Frag) (mg : Str → Option Value) (CL fI : Addr) : Prop where
  cl : Cls K CL
  made : Mk K CL fI
  g : mg "LineWords" = some (.ref CL)
  nN : NoAttr K CL "number"
  nW : NoAttr K CL "words"
  nT : NoAttr K CL "taken"
def spTakeAny (CL : Addr) : Sp := fun vs H Q _ => ∃ (p : Addr) (ws : List Str) (t : Nat) (z : Str), vs = [.ref p] ∧ LWAt H CL p ws t ∧ ws[t]? = some z ∧ ∀ H', KB p H H' → LWAt H' CL p ws (t + 1) → Q (.str z) H'
def spTakeName (CL : Addr) : Sp := fun vs H Q _ => ∃ (p : Addr) (ws : List Str) (t : Nat) (z : Str), vs = [.ref p] ∧ LWAt H CL p ws t ∧ ws[t]? = some z ∧ NameW (cp z) ∧ ∀ H', KB p H H' → LWAt H' CL p ws (t + 1) → Q (.str z) H'
def spTakeNum (CL : Addr) : Sp := fun vs H Q _ => ∃ (p : Addr) (ws : List Str) (t n : Nat) (lo : Int), vs = [.ref p, .int lo, .int 2000] ∧ LWAt H CL p ws t ∧ ws[t]? = some (numS n) ∧ lo ≤ n ∧ n ≤ 2000 ∧
  ∀ H', KB p H H' → LWAt H' CL p ws (t + 1) → Q (.int (n : Nat)) H'
def spTakeOne (CL : Addr) : Sp := fun vs H Q _ => ∃ (p tp : Addr) (ws : List Str) (t : Nat) (z : Str), vs = [.ref p, .ref tp] ∧ LWAt H CL p ws t ∧ ws[t]? = some z ∧ H tp = some (.tup [.str z]) ∧ tp ≠ p ∧
  ∀ H', KB p H H' → LWAt H' CL p ws (t + 1) → Q (.str z) H'
def spMore (CL : Addr) : Sp := fun vs H Q _ => ∃ (p : Addr) (ws : List Str) (t : Nat), vs = [.ref p] ∧ LWAt H CL p ws t ∧ Q (.bl (decide (t < ws.length))) H
def spFinish (CL : Addr) : Sp := fun vs H Q _ => ∃ (p : Addr) (ws : List Str), vs = [.ref p] ∧ LWAt H CL p ws ws.length ∧ Q .non H
def spLine (CL : Addr) : Sp := fun vs H Q _ => ∃ (x dx la : Addr) (ls : List Str) (k : Nat) (z : Str), vs = [.ref x, .ref la, .int (k : Nat)] ∧ H x = some (.ins CL dx []) ∧ LinesAt H la ls ∧ ls[k]? = some z ∧ z.length ≤ 1000 ∧
  ∀ H', KB x H H' → LWAt H' CL x (Txt.split z B1) 0 → Q .non H'
section
variable {P : Program} {w : World} {K : PySem.W.Frag} {mg : Str → Option Value} {base : Heap} {CL fI : Addr}
theorem ok_line {f : Addr} {fd : FuncData} (F : Fun K "__init__" "LineWords.__init__" s_LineWords___init__ f fd) (T : LC K mg CL fI) (m_len : mg "len" = none) (m_isinstance : mg "isinstance" = none) (m_str : mg "str" = none) :
    FnOk P w K mg base CX0 1 f fd ["self", "lines", "number"] (spLine CL) := by
  refine F.ok sc_LineWords___init__ (fun vs H Q E h => ?_) (fun cdv A outer s H vs Q E hr h => ?_)
  · obtain ⟨x, dx, la, ls, k, z, rfl, _⟩ := h
    rfl
  · obtain ⟨x, dx, la, ls, k, z, rfl, hx, hl, hk, hz, q⟩ := h
    refine ⟨_, (pss_cons (ps_if (PW.pt (pw_or (pt_cmpR op_eq (pv 2) (pe_callB call_len (by rfl) m_len (by decide +kernel) (pa_cons (pv 1) pa_nil)) (nomark _)) (pw_or1 (pt_not (pt_val (pe_callB call_isi (by rfl) m_isinstance (by decide +kernel) (pa_cons (pe_ix ix_seq (pv 1) (pv 2) (fun _ _ => rfl)) (pa_cons (pe_bltn (v := .ty "str") (by rfl) m_str (by decide +kernel) rfl) pa_nil))))))))
    (pss_one ps_never)
    pss_nil)
    (pss_cons (ps_fld (pv 0) (pv 2) rfl)
    (pss_cons (ps_fld (pv 0) (pe_split (pe_ix ix_seq (pv 1) (pv 2) (fun _ _ => rfl)) (pe_str)) rfl)
    (pss_one (ps_fld (pv 0) (pe_int) rfl))))), ?_⟩
    have hkl : k < ls.length := (List.getElem?_eq_some_iff.mp hk).1
    have hat : atI (ls.map V.str) ((k : Nat) : Int) = some (.str z) := atI_nat (by rw [List.getElem?_map, hk]; rfl)
    have ix : ∀ {H' : Hp} {G : VK}, LinesAt H' la ls → G (.str z) H' → rIx K (.ref la) (.int (k : Nat)) H' G := fun {H' G} h g => by
      rcases h with h | h
      · exact .inl ⟨la, _, _, _, rfl, rfl, SqL.of h, hat, g⟩
      · exact .inr (.inl ⟨la, _, _, _, rfl, rfl, SqT.of h, hat, g⟩)
    refine ⟨_, rfl, _, rfl, _, ls.length, rfl, hl.len, rfl, _, rfl, ?_⟩
    rw [decide_eq_false (fun e => by have := V.int.inj e; omega)]
    refine ⟨_, rfl, _, rfl, ix hl ⟨_, _, _, _, true, rfl, .ty _, .base (.str z), kit_ty (by decide +kernel), true, rfl, ?_⟩⟩
    have nla : la ≠ x := by
      rcases hl with h | h
      · exact ne_ins hx h fun z e => by cases e
      · exact ne_ins hx h fun z e => by cases e
    have k1 : KB x H (upd H x (.ins CL dx (putF "number" (.int (k : Nat)) []))) := (KB.refl x H).set
    refine ⟨_, rfl, _, rfl, x, CL, dx, [], rfl, hx, T.cl, T.nN, (by decide : 0 < 1000), ?_⟩
    have b1 := len_b1
    refine ⟨_, rfl, _, rfl, ix (hl.imp (k1 _ _ nla) (k1 _ _ nla)) ⟨⟨_, rfl⟩, z, B1, rfl, rfl, (by rw [b1]; rfl), Nat.le_of_lt (small_line (by omega)), fun wl hwl => ?_⟩⟩
    have s2 := same_new (o := .lst ((Txt.split z B1).map V.str)) hwl
    have hx2 := s2 x _ (upd_same (H := H) (a := x) (o := .ins CL dx (putF "number" (.int (k : Nat)) [])))
    have nwl : wl ≠ x := fun e => by
      rw [e, upd_same] at hwl
      cases hwl
    refine ⟨_, rfl, x, CL, dx, _, rfl, hx2, T.cl, T.nW, few_put (n := 0) (Nat.le_refl 0) (by decide), ?_⟩
    refine ⟨_, rfl, x, CL, dx, _, rfl, upd_same, T.cl, T.nT, few_put (n := 1) (putF_len _ _ _) (by decide), ?_⟩
    refine q _ (((k1.trans (.of_same s2)).set).set) ⟨dx, wl, k, upd_same, ?_⟩
    rw [upd_ne nwl, upd_ne nwl, upd_same]
end
end Sea
namespace Sea
open PySem PySem.Spec PyProof.Rows L2
/-! the words taken one by one -/
section
variable {P : Program} {w : World} {K : PySem.W.Frag} {mg : Str → Option Value} {base : Heap} {CL fI : Addr}
theorem ok_has_more {f : Addr} {fd : FuncData} (F : Fun K "has_more" "LineWords.has_more" s_LineWords_has_more f fd) (T : LC K mg CL fI) (m_len : mg "len" = none) : FnOk P w K mg base CX0 1 f fd ["self"] (spMore CL) := by
  refine F.ok sc_LineWords_has_more (fun vs H Q E h => ?_) (fun cdv A outer s H vs Q E hr h => ?_)
  · obtain ⟨p, ws, t, rfl, _⟩ := h
    rfl
  · obtain ⟨p, ws, t, rfl, ⟨dx, wl, n, hp, hw⟩, q⟩ := h
    refine ⟨_, (pss_one (ps_ret (pe_cmpR op_lt (pe_fld (pv 0) rfl) (pe_callB call_len (by rfl) m_len (by decide +kernel) (pa_cons (pe_fld (pv 0) rfl) pa_nil)) (nomark _)))), ?_⟩
    refine ⟨_, rfl, p, CL, dx, _, _, rfl, hp, T.cl, T.nT, lw_taken _ _ _, _, rfl, p, CL, dx, _, _, rfl, hp, T.cl, T.nW, lw_words _ _ _, _, ws.length, rfl, .inl ⟨_, SqL.of hw, (List.length_map ..).symm⟩, _, _, rfl, rfl, ?_⟩
    have e : decide (((t : Nat) : Int) < ((ws.length : Nat) : Int)) = decide (t < ws.length) := by
      by_cases h : t < ws.length
      · rw [decide_eq_true h, decide_eq_true (by omega)]
      · rw [decide_eq_false h, decide_eq_false (by omega)]
    rw [← e] at q
    exact q
theorem ok_take_any {f : Addr} {fd : FuncData} (F : Fun K "take_any" "LineWords.take_any" s_LineWords_take_any f fd) (T : LC K mg CL fI) (m_len : mg "len" = none) : FnOk P w K mg base CX0 1 f fd ["self"] (spTakeAny CL) := by
  refine F.ok sc_LineWords_take_any (fun vs H Q E h => ?_) (fun cdv A outer s H vs Q E hr h => ?_)
  · obtain ⟨p, ws, t, z, rfl, _⟩ := h
    rfl
  · obtain ⟨p, ws, t, z, rfl, ⟨dx, wl, n, hp, hw⟩, hz, q⟩ := h
    have lt : t < ws.length := (List.getElem?_eq_some_iff.mp hz).1
    have nw : wl ≠ p := ne_ins hp hw fun z e => by cases e
    refine ⟨_, (pss_cons (ps_if (pt_cmpR op_eq (pe_fld (pv 0) rfl) (pe_callB call_len (by rfl) m_len (by decide +kernel) (pa_cons (pe_fld (pv 0) rfl) pa_nil)) (nomark _))
    (pss_one ps_never)
    pss_nil)
    (pss_cons (ps_fldaug (pv 0) (pe_int) in_add)
    (pss_one (ps_ret (pe_ix ix_list (pe_fld (pv 0) rfl) (pe_op op_sub (pe_fld (pv 0) rfl) (pe_int)) (fun _ _ => rfl)))))), ?_⟩
    refine ⟨_, rfl, p, CL, dx, _, _, rfl, hp, T.cl, T.nT, lw_taken _ _ _, _, rfl, p, CL, dx, _, _, rfl, hp, T.cl, T.nW, lw_words _ _ _, _, ws.length, rfl, .inl ⟨_, SqL.of hw, (List.length_map ..).symm⟩, rfl, _, rfl, ?_⟩
    rw [decide_eq_false (fun e => by have := V.int.inj e; omega)]
    refine ⟨_, rfl, p, CL, dx, _, _, rfl, hp, T.cl, T.nT, lw_taken _ _ _, _, _, rfl, rfl, dx, _, hp, lw_few _ _ _, ?_⟩
    have hp2 : (upd H p (.ins CL dx (putF "taken" (.int ((t : Nat) + 1)) (lwF n (t : Nat) wl)))) p = some (.ins CL dx (lwF n ((t + 1 : Nat) : Int) wl)) := by
      rw [upd_same, lw_put]
      rfl
    have hw2 : (upd H p (.ins CL dx (putF "taken" (.int ((t : Nat) + 1)) (lwF n (t : Nat) wl)))) wl = some (.lst (ws.map V.str)) := by
      rw [upd_ne nw]
      exact hw
    refine ⟨_, rfl, p, CL, dx, _, _, rfl, hp2, T.cl, T.nW, lw_words _ _ _, _, rfl, p, CL, dx, _, _, rfl, hp2, T.cl, T.nT, lw_taken _ _ _, _, _, rfl, rfl, wl, _, _, _, rfl, rfl, SqL.of hw2, ?_, q _ (KB.refl p H).set ⟨dx, wl, n, hp2, hw2⟩⟩
    have e : (((t + 1 : Nat) : Int) - 1) = ((t : Nat) : Int) := by omega
    rw [e]
    exact atI_nat (by rw [List.getElem?_map, hz]; rfl)
theorem ok_take_name {f : Addr} {fd : FuncData} (F : Fun K "take_name" "LineWords.take_name" s_LineWords_take_name f fd) (T : LC K mg CL fI) (M : MCal P w K mg base 1 CL "take_any" (spTakeAny CL))
    (c_is_name : Cal P w K mg base 1 "is_name" spName) : FnOk P w K mg base CX0 2 f fd ["self"] (spTakeName CL) := by
  refine F.ok sc_LineWords_take_name (fun vs H Q E h => ?_) (fun cdv A outer s H vs Q E hr h => ?_)
  · obtain ⟨p, ws, t, z, rfl, _⟩ := h
    rfl
  · obtain ⟨p, ws, t, z, rfl, h, hz, g, q⟩ := h
    obtain ⟨dx, wl, n, hp, hw⟩ := id h
    refine ⟨_, (pss_cons (ps_set (i := 1) sc_LineWords_take_name.nd rfl (Or.inl rfl) (pe_mc0 (pv 0) T.cl M hr (by decide)))
    (pss_cons (ps_if (pt_not (pt_val (pe_c c_is_name hr (by decide) rfl (pa_cons (pv 1) pa_nil))))
    (pss_one ps_never)
    pss_nil)
    (pss_one (ps_ret (pv 1))))), ?_⟩
    refine ⟨_, rfl, p, dx, _, rfl, hp, lw_none _ _ _ (by decide +kernel) (by decide +kernel) (by decide +kernel), p, ws, t, z, rfl, h, hz, fun H1 k1 h1 => ?_⟩
    refine ⟨_, rfl, z, rfl, g, fun H2 s2 => ⟨_, rfl, _, rfl, q H2 (k1.trans (.of_same s2)) (h1.keep s2)⟩⟩
theorem ok_take_number {f : Addr} {fd : FuncData} (F : Fun K "take_number" "LineWords.take_number" s_LineWords_take_number f fd) (T : LC K mg CL fI) (m_int : mg "int" = none) (M : MCal P w K mg base 1 CL "take_any" (spTakeAny CL))
    (c_is_number : Cal P w K mg base 1 "is_number" spNum) : FnOk P w K mg base CX0 2 f fd ["self", "low", "high"] (spTakeNum CL) := by
  refine F.ok sc_LineWords_take_number (fun vs H Q E h => ?_) (fun cdv A outer s H vs Q E hr h => ?_)
  · obtain ⟨p, ws, t, n, lo, rfl, _⟩ := h
    rfl
  · obtain ⟨p, ws, t, n, lo, rfl, h, hz, hlo, hn, q⟩ := h
    obtain ⟨dx, wl, n0, hp, hw⟩ := id h
    refine ⟨_, (pss_cons (ps_set (i := 3) sc_LineWords_take_number.nd rfl (Or.inl rfl) (pe_mc0 (pv 0) T.cl M hr (by decide)))
    (pss_cons (ps_if (pt_not (pt_val (pe_c c_is_number hr (by decide) rfl (pa_cons (pv 3) (pa_cons (pv 1) (pa_cons (pv 2) pa_nil))))))
    (pss_one ps_never)
    pss_nil)
    (pss_one (ps_ret (pe_callTy call_int_str (by rfl) m_int (by decide +kernel) (pa_cons (pv 3) pa_nil)))))), ?_⟩
    refine ⟨_, rfl, p, dx, _, rfl, hp, lw_none _ _ _ (by decide +kernel) (by decide +kernel) (by decide +kernel), p, ws, t, numS n, rfl, h, hz, fun H1 k1 h1 => ?_⟩
    have n4 := num_len hn
    refine ⟨_, rfl, _, rfl, _, rfl, n, lo, rfl, hlo, hn, fun H2 s2 => ⟨_, rfl, _, rfl, numS n, n, rfl, TL.int_num (by rw [← num_cp, cp_len]; omega), by omega, q H2 (k1.trans (.of_same s2)) (h1.keep s2)⟩⟩
theorem ok_take_one_of {f : Addr} {fd : FuncData} (F : Fun K "take_one_of" "LineWords.take_one_of" s_LineWords_take_one_of f fd) (T : LC K mg CL fI) (M : MCal P w K mg base 1 CL "take_any" (spTakeAny CL)) :
    FnOk P w K mg base CX0 2 f fd ["self", "words"] (spTakeOne CL) := by
  refine F.ok sc_LineWords_take_one_of (fun vs H Q E h => ?_) (fun cdv A outer s H vs Q E hr h => ?_)
  · obtain ⟨p, tp, ws, t, z, rfl, _⟩ := h
    rfl
  · obtain ⟨p, tp, ws, t, z, rfl, h, hz, ht, ne, q⟩ := h
    obtain ⟨dx, wl, n0, hp, hw⟩ := id h
    refine ⟨_, (pss_cons (ps_set (i := 2) sc_LineWords_take_one_of.nd rfl (Or.inl rfl) (pe_mc0 (pv 0) T.cl M hr (by decide)))
    (pss_cons (ps_if (pt_cmpR op_notIn_seq (pv 2) (pv 1) rfl)
    (pss_one ps_never)
    pss_nil)
    (pss_one (ps_ret (pv 2))))), ?_⟩
    refine ⟨_, rfl, p, dx, _, rfl, hp, lw_none _ _ _ (by decide +kernel) (by decide +kernel) (by decide +kernel), p, ws, t, z, rfl, h, hz, fun H1 k1 h1 => ?_⟩
    refine ⟨_, rfl, _, rfl, tp, _, rfl, .inr (SqT.of (k1 _ _ ne ht)), rfl, rfl, _, rfl, ?_⟩
    have e : inV (.str z) [V.str z] = true := by
      show (eqV (.str z) (.str z) || false) = true
      rw [Bool.or_false]
      show (z == z) = true
      exact beq_self_eq_true z
    rw [e]
    exact ⟨_, rfl, q H1 k1 h1⟩
theorem ok_finish {f : Addr} {fd : FuncData} (F : Fun K "finish" "LineWords.finish" s_LineWords_finish f fd) (T : LC K mg CL fI) (M : MCal P w K mg base 1 CL "has_more" (spMore CL)) :
    FnOk P w K mg base CX0 2 f fd ["self"] (spFinish CL) := by
  refine F.ok sc_LineWords_finish (fun vs H Q E h => ?_) (fun cdv A outer s H vs Q E hr h => ?_)
  · obtain ⟨p, ws, rfl, _⟩ := h
    rfl
  · obtain ⟨p, ws, rfl, h, q⟩ := h
    obtain ⟨dx, wl, n0, hp, hw⟩ := id h
    refine ⟨_, (pss_one (ps_if (pt_val (pe_mc0 (pv 0) T.cl M hr (by decide)))
    (pss_one ps_never)
    pss_nil)), ?_⟩
    refine ⟨_, rfl, p, dx, _, rfl, hp, lw_none _ _ _ (by decide +kernel) (by decide +kernel) (by decide +kernel), p, ws, _, rfl, h, _, rfl, ?_⟩
    rw [decide_eq_false (Nat.lt_irrefl _)]
    exact q
end
end Sea
namespace Sea
open PySem PySem.Spec PyProof.Rows L2
/-! the lines of a reel, and their words -/
abbrev CUE : Str := Str.ofString "cue"
abbrev REEL : Str := Str.ofString "reel"
theorem app_assoc (a b c : Str) : a ++ b ++ c = a ++ (b ++ c) := cp_inj (by rw [app_cp, app_cp, app_cp, app_cp, List.append_assoc])
theorem join_one (a : Str) : Txt.join B1 [a] = a := cp_inj (by
  rw [TL.join_eq, join_cp]
  show ((32 :: (cp a ++ flat []))).drop 1 = cp a
  rw [flat_nil, List.append_nil]
  rfl)
theorem join_more (a b : Str) (r : List Str) : Txt.join B1 (a :: b :: r) = a ++ B1 ++ Txt.join B1 (b :: r) := cp_inj (by
  rw [TL.join_eq, TL.join_eq, join_cp, app_cp, app_cp, join_cp, blank_cp]
  show (32 :: (cp a ++ flat (cp b :: r.map cp))).drop 1 = cp a ++ [32] ++ (32 :: (cp b ++ flat (r.map cp))).drop 1
  rw [flat_cons, List.append_assoc]
  rfl)
/-- the line of a cue -/
def lineC (c : Cue) : Str := Str.ofString "cue " ++ numS c.s.toNat ++ B1 ++ numS c.e.toNat ++ B1 ++ c.nm ++ B1 ++ c.tx
def lineR (n : Nat) : Str := Str.ofString "reel " ++ numS n
theorem cue_blank : Str.ofString "cue " = CUE ++ B1 := by decide +kernel
theorem reel_blank : Str.ofString "reel " = REEL ++ B1 := by decide +kernel
theorem line_join {c : Cue} {ws : List Str} (hne : ws ≠ []) (h : c.tx = Txt.join B1 ws) : lineC c = Txt.join B1 (CUE :: numS c.s.toNat :: numS c.e.toNat :: c.nm :: ws) := by
  obtain ⟨a, r, rfl⟩ : ∃ a r, ws = a :: r := by
    cases ws with
    | nil => exact absurd rfl hne
    | cons a r => exact ⟨a, r, rfl⟩
  unfold lineC
  rw [cue_blank, h, join_more, join_more, join_more, join_more]
  simp only [app_assoc]
theorem lineR_join (n : Nat) : lineR n = Txt.join B1 [REEL, numS n] := by
  unfold lineR
  rw [reel_blank, join_more, join_one]
theorem split_back {ws : List Str} (hne : ws ≠ []) (h : ∀ z ∈ ws, 32 ∉ cp z) : Txt.split (Txt.join B1 ws) B1 = ws :=
  TL.split_join (s := 32) (S := []) (by decide +kernel) (by decide +kernel) hne h
theorem num_nb (n : Nat) : 32 ∉ cp (numS n) := fun h => by
  have := num_dig h
  omega
theorem Wd.nb {l : List Nat} (h : Wd l) : 32 ∉ l := fun m => (h.2 32 m).nb rfl
theorem split_cue {c : Cue} (W : CueW c) {ws : List Str} (hne : ws ≠ []) (hw : ∀ z ∈ ws, Wd (cp z)) (h : c.tx = Txt.join B1 ws) :
    Txt.split (lineC c) B1 = CUE :: numS c.s.toNat :: numS c.e.toNat :: c.nm :: ws := by
  rw [line_join hne h]
  refine split_back (by simp) fun z hz => ?_
  rcases List.mem_cons.mp hz with e | hz
  · rw [e]
    decide +kernel
  rcases List.mem_cons.mp hz with e | hz
  · rw [e]
    exact num_nb _
  rcases List.mem_cons.mp hz with e | hz
  · rw [e]
    exact num_nb _
  rcases List.mem_cons.mp hz with e | hz
  · rw [e]
    exact fun m => by
      have := W.nm.sign 32 m
      omega
  · exact (hw z hz).nb
theorem split_reel (n : Nat) : Txt.split (lineR n) B1 = [REEL, numS n] := by
  rw [lineR_join]
  refine split_back (by simp) fun z hz => ?_
  rcases List.mem_cons.mp hz with e | hz
  · rw [e]
    decide +kernel
  · rw [List.mem_singleton.mp hz]
    exact num_nb _
theorem line_len {c : Cue} (W : CueW c) (ht : c.tx.length ≤ 900) : (lineC c).length ≤ 1000 := by
  unfold lineC
  have h1 := num_len (n := c.s.toNat) (by have := W.s1; omega)
  have h2 := num_len (n := c.e.toNat) (by have := W.e1; omega)
  have h3 := W.nm.most
  rw [cp_len] at h3
  have b := len_b1
  have c4 : (Str.ofString "cue ").length = 4 := by decide +kernel
  simp only [app_len]
  omega
theorem lineR_len {n : Nat} (h : n ≤ 2000) : (lineR n).length ≤ 1000 := by
  unfold lineR
  have h1 := num_len h
  have c4 : (Str.ofString "reel ").length = 5 := by decide +kernel
  simp only [app_len]
  omega
def spFirst : Sp := fun vs H Q _ => ∃ (la : Addr) (ls : List Str) (k : Nat), vs = [.ref la, .int (k : Nat)] ∧ LinesAt H la ls ∧
  ((k = ls.length ∧ Q .non H) ∨ ∃ z z0, ls[k]? = some z ∧ z.length ≤ 1000 ∧ (Txt.split z B1)[0]? = some z0 ∧ ∀ H', Same H H' → Q (.str z0) H')
def spTakeText (CL : Addr) : Sp := fun vs H Q _ => ∃ (p : Addr) (ws : List Str) (t : Nat), vs = [.ref p] ∧ LWAt H CL p ws t ∧ t < ws.length ∧ (∀ z ∈ ws.drop t, Wd (cp z) ∧ z.length ≤ 1000) ∧ ws.length ≤ 1000 ∧
  ∀ H', KB p H H' → Q (.str (Txt.join B1 (ws.drop t))) H'
section
variable {P : Program} {w : World} {K : PySem.W.Frag} {mg : Str → Option Value} {base : Heap} {CL fI : Addr}
theorem ok_first_word {f : Addr} {fd : FuncData} (F : Fun K "first_word" "first_word" s_first_word f fd) (m_len : mg "len" = none) (m_isinstance : mg "isinstance" = none) (m_str : mg "str" = none) : FnOk P w K mg base CX0 1 f fd ["lines", "number"] spFirst := by
  refine F.ok sc_first_word (fun vs H Q E h => ?_) (fun cdv A outer s H vs Q E hr h => ?_)
  · obtain ⟨la, ls, k, rfl, _⟩ := h
    rfl
  · obtain ⟨la, ls, k, rfl, hl, ways⟩ := h
    refine ⟨_, (pss_cons (ps_if (PW.pt (pw_or (pt_cmpR op_eq (pv 1) (pe_callB call_len (by rfl) m_len (by decide +kernel) (pa_cons (pv 0) pa_nil)) (nomark _)) (pw_or1 (pt_not (pt_val (pe_callB call_isi (by rfl) m_isinstance (by decide +kernel) (pa_cons (pe_ix ix_seq (pv 0) (pv 1) (fun _ _ => rfl)) (pa_cons (pe_bltn (v := .ty "str") (by rfl) m_str (by decide +kernel) rfl) pa_nil))))))))
    (pss_one (ps_ret (pe_non)))
    pss_nil)
    (pss_one (ps_ret (pe_ix ix_list (pe_split (pe_ix ix_seq (pv 0) (pv 1) (fun _ _ => rfl)) (pe_str)) (pe_int) (fun _ _ => rfl))))), ?_⟩
    refine ⟨_, rfl, _, rfl, _, ls.length, rfl, hl.len, rfl, _, rfl, ?_⟩
    rcases ways with ⟨rfl, q⟩ | ⟨z, z0, hk, hz, h0, q⟩
    · rw [decide_eq_true rfl]
      exact q
    · have hkl : k < ls.length := (List.getElem?_eq_some_iff.mp hk).1
      have hat : atI (ls.map V.str) ((k : Nat) : Int) = some (.str z) := atI_nat (by rw [List.getElem?_map, hk]; rfl)
      have ix : ∀ {H' : Hp} {G : VK}, LinesAt H' la ls → G (.str z) H' → rIx K (.ref la) (.int (k : Nat)) H' G := fun {H' G} h g => by
        rcases h with h | h
        · exact .inl ⟨la, _, _, _, rfl, rfl, SqL.of h, hat, g⟩
        · exact .inr (.inl ⟨la, _, _, _, rfl, rfl, SqT.of h, hat, g⟩)
      rw [decide_eq_false (fun e => by have := V.int.inj e; omega)]
      refine ⟨_, rfl, _, rfl, ix hl ⟨_, _, _, _, true, rfl, .ty _, .base (.str z), kit_ty (by decide +kernel), true, rfl, ?_⟩⟩
      have b1 := len_b1
      refine ⟨_, rfl, _, rfl, ix hl ⟨⟨_, rfl⟩, z, B1, rfl, rfl, (by rw [b1]; rfl), Nat.le_of_lt (small_line (by omega)), fun wl hwl => ?_⟩⟩
      exact ⟨wl, _, 0, _, rfl, rfl, SqL.of upd_same, atI_nat (j := 0) (by rw [List.getElem?_map, h0]; rfl), q _ (same_new hwl)⟩
theorem ok_take_text {f : Addr} {fd : FuncData} (F : Fun K "take_text" "take_text" s_take_text f fd) (T : LC K mg CL fI) (m_len : mg "len" = none) (M : MCal P w K mg base 1 CL "take_any" (spTakeAny CL)) (MM : MCal P w K mg base 1 CL "has_more" (spMore CL))
    (c_has_percent : Cal P w K mg base 1 "has_percent" spPercent) : FnOk P w K mg base CX0 2 f fd ["line"] (spTakeText CL) := by
  refine F.ok sc_take_text (fun vs H Q E h => ?_) (fun cdv A outer s H vs Q E hr h => ?_)
  · obtain ⟨p, ws, t, rfl, _⟩ := h
    rfl
  · obtain ⟨p, ws, t, rfl, h, lt, hw, hsz, q⟩ := h
    refine ⟨_, (pss_cons (ps_set (i := 1) sc_take_text.nd rfl (Or.inl rfl) (pe_lst pa_nil))
    (pss_cons (ps_while PassesOwn.never (PW.pt (pw_or (pt_val (pe_mc0 (pv 0) T.cl MM hr (by decide))) (pw_or1 (pt_cmpR op_eq (pe_callB call_len (by rfl) m_len (by decide +kernel) (pa_cons (pv 1) pa_nil)) (pe_int) (nomark _)))))
    (pss_cons (ps_set (i := 2) sc_take_text.nd rfl (Or.inl rfl) (pe_mc0 (pv 0) T.cl M hr (by decide)))
    (pss_cons (ps_if (PW.pt (pw_or (pt_cmpR op_eq (pv 2) (pe_str) (nomark _)) (pw_or1 (pt_val (pe_c c_has_percent hr (by decide) rfl (pa_cons (pv 2) pa_nil))))))
    (pss_one ps_never)
    pss_nil)
    (pss_one (ps_expr (pe_bm PySem.F.plainAttrs_list PySem.F.slot_list_append PySem.F.type_list_append mt_append (pv 1) (pa_cons (pv 2) pa_nil)))))))
    (pss_one (ps_ret (pe_join (pe_str) (pv 1)))))), ?_⟩
    obtain ⟨dx0, wl0, n0, hp0, hw0⟩ := id h
    have nones : ∀ (n : Int) (u : Int) (wl : Addr), (lwF n u wl).lookup ("take_any" : Str) = none ∧ (lwF n u wl).lookup ("has_more" : Str) = none := fun n u wl =>
      ⟨lw_none _ _ _ (by decide +kernel) (by decide +kernel) (by decide +kernel), lw_none _ _ _ (by decide +kernel) (by decide +kernel) (by decide +kernel)⟩
    refine ⟨Nat.zero_le _, fun D hD => ?_⟩
    have kD : KB p H (upd H D (.lst [])) := (KB.refl p H).over hD
    refine ⟨fun m σ H' => ∃ (u : Nat) (k2 : Option V), σ = [some (.ref p), some (.ref D), k2] ∧ LWAt H' CL p ws (t + u) ∧ H' D = some (.lst (((ws.drop t).take u).map V.str)) ∧ t + u ≤ ws.length ∧ m = ws.length - (t + u) ∧ KB p H H',
      ⟨_, 0, none, rfl, h.keep (same_new hD), upd_same, by omega, rfl, kD⟩, ?_⟩
    rintro m σ Ha ⟨u, k2, rfl, ha, hd, hu, rfl, ka⟩
    obtain ⟨dx, wl, n, hp, hwl⟩ := id ha
    have nD : D ≠ p := ne_ins hp hd fun z e => by cases e
    have lac : ((ws.drop t).take u).length = u := by rw [List.length_take, List.length_drop]; omega
    refine ⟨_, rfl, p, dx, _, rfl, hp, (nones _ _ _).2, p, ws, t + u, rfl, ha, _, rfl, ?_⟩
    by_cases lu : t + u < ws.length
    · rw [decide_eq_true lu]
      obtain ⟨z, hz⟩ : ∃ z, ws[t + u]? = some z := ⟨_, List.getElem?_eq_getElem lu⟩
      have hzd : (ws.drop t)[u]? = some z := by rw [List.getElem?_drop]; exact hz
      obtain ⟨zw, zl⟩ := hw z (List.mem_of_getElem? hzd)
      refine ⟨fun σ' H' => ∃ k3, σ' = [some (.ref p), some (.ref D), k3] ∧ LWAt H' CL p ws (t + (u + 1)) ∧ H' D = some (.lst (((ws.drop t).take (u + 1)).map V.str)) ∧ KB p H H',
        fun σ' H' ⟨k3, e, h1, h2, h3⟩ => ⟨_, by omega, u + 1, k3, e, h1, h2, by omega, rfl, h3⟩, ?_⟩
      refine ⟨_, rfl, p, dx, _, rfl, hp, (nones _ _ _).1, p, ws, t + u, z, rfl, ha, hz, fun H1 k1 h1 => ?_⟩
      have hd1 := k1 D _ nD hd
      have zne : cp z ≠ [] := zw.1
      refine ⟨_, rfl, rfl, _, rfl, ?_⟩
      rw [decide_eq_false (fun e => zne (by
        have e2 : cp z = cp (Str.ofString "") := congrArg cp (V.str.inj e)
        rw [e2]
        decide +kernel))]
      refine ⟨_, rfl, z, rfl, zl, fun H2 s2 => ⟨_, rfl, ?_⟩⟩
      rw [decide_eq_false (fun e => (zw.2 37 e).2.2 rfl)]
      have hd2 := s2 _ _ hd1
      refine ⟨_, rfl, .inl ⟨rfl, _, SqL.of hd2⟩, _, rfl, D, _, _, rfl, rfl, hd2, (by rw [List.length_map, lac]; exact small_line (by omega)), ?_⟩
      have h2 := h1.keep s2
      obtain ⟨dx2, wl2, n2, hp2, hwl2⟩ := id h2
      have nD2 : p ≠ D := nD.symm
      have nw2 : wl2 ≠ D := fun e => by
        -- the words' own list is another one than the new list: it stood before
        rw [e, hd2] at hwl2
        have e3 := HO.lst.inj (Option.some.inj hwl2)
        have e4 := congrArg List.length e3
        rw [List.length_map, lac, List.length_map] at e4
        omega
      refine ⟨_, rfl, ⟨dx2, wl2, n2, by rw [upd_ne nD2]; exact hp2, by rw [upd_ne nw2]; exact hwl2⟩, ?_, ?_⟩
      · rw [upd_same, List.take_add_one, hzd, List.map_append]
        rfl
      · intro b o nb hb
        have q3 : H2 b = some o := s2 b o (k1 b o nb (ka b o nb hb))
        rw [upd_ne (ne_of_none hb hD)]
        exact q3
    · rw [decide_eq_false lu]
      have eu : t + u = ws.length := by omega
      refine ⟨_, rfl, _, u, rfl, .inl ⟨_, SqL.of hd, by rw [List.length_map, lac]⟩, rfl, _, rfl, ?_⟩
      rw [decide_eq_false (fun e => by have := V.int.inj e; omega)]
      have all : (ws.drop t).take u = ws.drop t := List.take_of_length_le (by rw [List.length_drop]; omega)
      rw [all] at hd
      refine ⟨⟨_, rfl⟩, _, rfl, _, D, _, rfl, rfl, .inl (SqL.of hd), ?_, q Ha ka⟩
      have b1 := len_b1
      have s1 := sum_le (ws := ws.drop t) (n := 1000) fun z hz => (hw z hz).2
      have l2 : (ws.drop t).length ≤ 1000 := by rw [List.length_drop]; omega
      rw [b1]
      have := Nat.mul_le_mul_right 1000 l2
      omega
end
end Sea
namespace Sea
open PySem PySem.Spec PyProof.Rows L2
/-! a cue read, a reel read -/
theorem KB.same {x : Addr} {H H' : Hp} (k : KB x H H') (h : H x = none) : Same H H' := fun b o e => k b o (ne_of_none e h) e
theorem mem_sum : ∀ (l : List Nat) (x : Nat), x ∈ l → x ≤ l.sum
  | a :: r, x, h => by
    rw [List.sum_cons]
    rcases List.mem_cons.mp h with e | h
    · omega
    · have := mem_sum r x h
      omega
theorem len_sum : ∀ ws : List Str, (∀ z ∈ ws, Wd (cp z)) → ws.length ≤ ((ws.map cp).map (·.length)).sum
  | [], _ => Nat.le_refl _
  | a :: r, h => by
    have ih := len_sum r fun z hz => h z (List.mem_cons_of_mem _ hz)
    have ha : 1 ≤ (cp a).length := List.length_pos_iff.mpr (h a List.mem_cons_self).1
    rw [List.map_cons, List.map_cons, List.sum_cons, List.length_cons]
    omega
/-- a text of words: how many, and how long -/
theorem text_words {tx : Str} {ws : List Str} (hw : ∀ z ∈ ws, Wd (cp z)) (hne : ws ≠ []) (h : tx = Txt.join B1 ws) (ht : tx.length ≤ 900) : ws.length ≤ 900 ∧ ∀ z ∈ ws, z.length ≤ 1000 := by
  have e1 : tx.length = (cp (Txt.join B1 ws)).length := by rw [cp_len, ← h]
  rw [TL.join_eq, join_cp, List.length_drop, flat_len, List.length_map] at e1
  have h1 := len_sum ws hw
  have h2 : 0 < ws.length := List.length_pos_iff.mpr hne
  refine ⟨by omega, fun z hz => ?_⟩
  have hm : (cp z).length ∈ (ws.map cp).map (·.length) := List.mem_map_of_mem (List.mem_map_of_mem hz)
  have := mem_sum _ _ hm
  rw [cp_len] at this
  omega
def spScanCue : Sp := fun vs H Q _ => ∃ (la : Addr) (ls : List Str) (k : Nat) (c : Cue), vs = [.ref la, .int (k : Nat)] ∧ LinesAt H la ls ∧ ls[k]? = some (lineC c) ∧ CueW c ∧ c.tx.length ≤ 900 ∧
  ∀ H' t, Same H H' → H' t = some (.tup c.vs) → Q (.ref t) H'
def spScan : Sp := fun vs H Q _ => ∃ (la : Addr) (len : Nat) (cs : List Cue), vs = [.ref la, .int 0] ∧ LinesAt H la (lineR len :: cs.map lineC) ∧ 1 ≤ len ∧ len ≤ 2000 ∧ (∀ c ∈ cs, CueW c ∧ c.tx.length ≤ 900) ∧ cs.length ≤ 100 ∧
  ∀ H' t tt L, Same H H' → H' t = some (.tup [.int (len : Nat), .ref tt, .int ((cs.length + 1 : Nat) : Int)]) → H' tt = some (.tup (refsC L)) → cuesC L = cs → (∀ e ∈ L, At H' e) → Q (.ref t) H'
noncomputable def spRead (CR CB CM : Addr) : Sp := fun vs H Q E => ∃ (la : Addr) (len : Nat) (cs : List Cue), vs = [.ref la] ∧ LinesAt H la (lineR len :: cs.map lineC) ∧ 1 ≤ len ∧ len ≤ 2000 ∧ (∀ c ∈ cs, CueW c ∧ c.tx.length ≤ 900) ∧ cs.length ≤ 100 ∧
  (∀ k, judge len 0 cs = some k → ∀ H' d, Same H H' → H' d = none → E (.ref CB) (some d) (upd H' d (.xd [(("number" : Str), .int (k : Nat))]))) ∧
  (judge len 0 cs = none → 40 < cs.length → ∀ H' d, Same H H' → H' d = none → E (.ref CM) (some d) (upd H' d (.xd [(("word" : Str), .str (Str.ofString "cue"))]))) ∧
  (judge len 0 cs = none → cs.length ≤ 40 → ∀ H' x L, Same H H' → ReelAt H' CR x len L → cuesC L = cs → Q (.ref x) H')
section
variable {P : Program} {w : World} {K : PySem.W.Frag} {mg : Str → Option Value} {base : Heap} {CL fI CB CM CR fR : Addr}
theorem ok_scan_cue {f : Addr} {fd : FuncData} (F : Fun K "scan_cue" "scan_cue" s_scan_cue f fd) (T : LC K mg CL fI) {fdI : FuncData} (FI : FnOk P w K mg base CX0 1 fI fdI ["self", "lines", "number"] (spLine CL)) (bI : Binds K fdI ["self", "lines", "number"] [])
    {t : Tok} (g_MOST_TICKS : mg "MOST_TICKS" = some (.int 2000 t)) (M1 : MCal P w K mg base 2 CL "take_one_of" (spTakeOne CL)) (M2 : MCal P w K mg base 2 CL "take_number" (spTakeNum CL)) (M3 : MCal P w K mg base 2 CL "take_name" (spTakeName CL))
    (c_take_text : Cal P w K mg base 2 "take_text" (spTakeText CL)) : FnOk P w K mg base CX0 3 f fd ["lines", "number"] spScanCue := by
  refine F.ok sc_scan_cue (fun vs H Q E h => ?_) (fun cdv A outer s H vs Q E hr h => ?_)
  · obtain ⟨la, ls, k, c, rfl, _⟩ := h
    rfl
  · obtain ⟨la, ls, k, c, rfl, hl, hk, W, ht, q⟩ := h
    obtain ⟨ws, wne, wwd, wtx⟩ := W.wd
    refine ⟨_, (pss_cons (ps_set (i := 2) sc_scan_cue.nd rfl (Or.inl rfl) (pe_make T.made FI hr rfl T.g bI .nil pass0 (pa_cons (pv 0) (pa_cons (pv 1) pa_nil))))
    (pss_cons (ps_expr (pe_mc (pv 2) T.cl M1 hr (by decide) (pa_cons (pe_tup (pa_cons (pe_str) pa_nil)) pa_nil)))
    (pss_cons (ps_set (i := 3) sc_scan_cue.nd rfl (Or.inl rfl) (pe_mc (pv 2) T.cl M2 hr (by decide) (pa_cons (pe_int) (pa_cons (pe_glob (v := .int 2000) rfl g_MOST_TICKS ⟨_, rfl⟩) pa_nil))))
    (pss_cons (ps_set (i := 4) sc_scan_cue.nd rfl (Or.inl rfl) (pe_mc (pv 2) T.cl M2 hr (by decide) (pa_cons (pe_int) (pa_cons (pe_glob (v := .int 2000) rfl g_MOST_TICKS ⟨_, rfl⟩) pa_nil))))
    (pss_cons (ps_set (i := 5) sc_scan_cue.nd rfl (Or.inl rfl) (pe_mc0 (pv 2) T.cl M3 hr (by decide)))
    (pss_one (ps_ret (pe_tup (pa_cons (pv 3) (pa_cons (pv 4) (pa_cons (pv 5) (pa_cons (pe_c c_take_text hr (by decide) rfl (pa_cons (pv 2) pa_nil)) pa_nil)))))))))))), ?_⟩
    refine ⟨_, rfl, _, rfl, fun x dx hx hdx ne => ?_⟩
    have sN : Same H (upd (upd H dx (.own x)) x (.ins CL dx [])) := fun b o e => by
      rw [upd_ne (ne_of_none e hx), upd_ne (ne_of_none e hdx)]
      exact e
    refine ⟨x, dx, la, ls, k, lineC c, rfl, upd_same, hl.keep sN, hk, line_len W ht, fun H1 k1 h1 => ⟨rfl, ?_⟩⟩
    rw [split_cue W wne wwd wtx] at h1
    have S1 : Same H H1 := fun b o e => k1 b o (ne_of_none e hx) (sN b o e)
    have lk : ∀ (n u : Int) (wl : Addr), (lwF n u wl).lookup ("take_one_of" : Str) = none ∧ (lwF n u wl).lookup ("take_number" : Str) = none ∧ (lwF n u wl).lookup ("take_name" : Str) = none := fun n u wl =>
      ⟨lw_none _ _ _ (by decide +kernel) (by decide +kernel) (by decide +kernel), lw_none _ _ _ (by decide +kernel) (by decide +kernel) (by decide +kernel), lw_none _ _ _ (by decide +kernel) (by decide +kernel) (by decide +kernel)⟩
    have up : ∀ {Ha Hb : Hp}, Same H Ha → KB x Ha Hb → Same H Hb := fun {Ha Hb} s kb b o e => kb b o (ne_of_none e hx) (s b o e)
    obtain ⟨d1, wl1, n1, p1, w1⟩ := id h1
    have hs : ((c.s.toNat : Nat) : Int) = c.s := Int.toNat_of_nonneg W.s0
    have he : ((c.e.toNat : Nat) : Int) = c.e := Int.toNat_of_nonneg W.e0
    -- cue
    refine ⟨_, rfl, x, d1, _, rfl, p1, (lk _ _ _).1, (by show 1 ≤ sizeLine; decide), fun tp htp => ?_⟩
    have s1 := same_new (o := .tup [V.str CUE]) htp
    refine ⟨x, tp, _, 0, CUE, rfl, h1.keep s1, rfl, upd_same, (ne_of_none p1 htp).symm, fun H2 k2 h2 => ?_⟩
    have S2 := up (S1.trans s1) k2
    obtain ⟨d2, wl2, n2, p2, w2⟩ := id h2
    -- start, end
    refine ⟨_, rfl, x, d2, _, rfl, p2, (lk _ _ _).2.1, x, _, 1, c.s.toNat, 0, rfl, h2, rfl, Int.natCast_nonneg _, (by have := W.s1; omega), fun H3 k3 h3 => ?_⟩
    have S3 := up S2 k3
    obtain ⟨d3, wl3, n3, p3, w3⟩ := id h3
    refine ⟨_, rfl, x, d3, _, rfl, p3, (lk _ _ _).2.1, x, _, 2, c.e.toNat, 0, rfl, h3, rfl, Int.natCast_nonneg _, (by have := W.e1; omega), fun H4 k4 h4 => ?_⟩
    have S4 := up S3 k4
    obtain ⟨d4, wl4, n4, p4, w4⟩ := id h4
    refine ⟨_, rfl, x, d4, _, rfl, p4, (lk _ _ _).2.2, x, _, 3, c.nm, rfl, h4, rfl, W.nm, fun H5 k5 h5 => ?_⟩
    have S5 := up S4 k5
    obtain ⟨wl, wz⟩ := text_words wwd wne wtx ht
    refine ⟨_, rfl, _, rfl, _, rfl, _, rfl, x, _, 4, rfl, h5, ?_, fun z hz => ⟨wwd z hz, ?_⟩, ?_, fun H6 k6 => ⟨(by show 4 ≤ sizeLine; decide), fun r hr2 => ?_⟩⟩
    · have : 0 < ws.length := List.length_pos_iff.mpr wne
      show 4 < ws.length + 4
      omega
    · exact wz z hz
    · show ws.length + 4 ≤ 1000
      omega
    · refine q _ r ((up S5 k6).trans (same_new hr2)) ?_
      rw [upd_same]
      show some (HO.tup [.int (c.s.toNat : Nat), .int (c.e.toNat : Nat), .str c.nm, .str (Txt.join B1 ws)]) = some (HO.tup c.vs)
      rw [hs, he, ← wtx]
      rfl
end
end Sea
namespace Sea
open PySem PySem.Spec PyProof.Rows L2
section
variable {P : Program} {w : World} {K : PySem.W.Frag} {mg : Str → Option Value} {base : Heap} {CL fI CB CM CR fR : Addr}
theorem word_eq (a b : Str) : decide (V.str a = V.str b) = decide (a = b) := by
  by_cases h : a = b
  · rw [decide_eq_true h, decide_eq_true (congrArg V.str h)]
  · rw [decide_eq_false h, decide_eq_false (fun e => h (V.str.inj e))]
theorem ok_scan_reel {f : Addr} {fd : FuncData} (F : Fun K "scan_reel" "scan_reel" s_scan_reel f fd) (T : LC K mg CL fI) {fdI : FuncData} (FI : FnOk P w K mg base CX0 1 fI fdI ["self", "lines", "number"] (spLine CL)) (bI : Binds K fdI ["self", "lines", "number"] [])
    (m_tuple : mg "tuple" = none) {t : Tok} (g_MOST_TICKS : mg "MOST_TICKS" = some (.int 2000 t)) (M1 : MCal P w K mg base 2 CL "take_one_of" (spTakeOne CL)) (M2 : MCal P w K mg base 2 CL "take_number" (spTakeNum CL)) (M3 : MCal P w K mg base 2 CL "finish" (spFinish CL))
    (c_first_word : Cal P w K mg base 1 "first_word" spFirst) (c_scan_cue : Cal P w K mg base 3 "scan_cue" spScanCue) : FnOk P w K mg base CX0 4 f fd ["lines", "number"] spScan := by
  refine F.ok sc_scan_reel (fun vs H Q E h => ?_) (fun cdv A outer s H vs Q E hr h => ?_)
  · obtain ⟨la, len, cs, rfl, _⟩ := h
    rfl
  · obtain ⟨la, len, cs, rfl, hl, l1, l2, hW, hsz, q⟩ := h
    refine ⟨_, (pss_cons (ps_set (i := 2) sc_scan_reel.nd rfl (Or.inl rfl) (pe_make T.made FI (hr.mono (by decide)) rfl T.g bI .nil pass0 (pa_cons (pv 0) (pa_cons (pv 1) pa_nil))))
    (pss_cons (ps_expr (pe_mc (pv 2) T.cl M1 hr (by decide) (pa_cons (pe_tup (pa_cons (pe_str) pa_nil)) pa_nil)))
    (pss_cons (ps_set (i := 3) sc_scan_reel.nd rfl (Or.inl rfl) (pe_mc (pv 2) T.cl M2 hr (by decide) (pa_cons (pe_int) (pa_cons (pe_glob (v := .int 2000) rfl g_MOST_TICKS ⟨_, rfl⟩) pa_nil))))
    (pss_cons (ps_expr (pe_mc0 (pv 2) T.cl M3 hr (by decide)))
    (pss_cons (ps_aug (i := 1) sc_scan_reel.nd rfl (Or.inl rfl) (pe_int) ip_add)
    (pss_cons (ps_set (i := 4) sc_scan_reel.nd rfl (Or.inl rfl) (pe_lst pa_nil))
    (pss_cons (ps_while PassesOwn.never (pt_cmpR op_eq (pe_c c_first_word hr (by decide) rfl (pa_cons (pv 0) (pa_cons (pv 1) pa_nil))) (pe_str) (nomark _))
    (pss_cons (ps_expr (pe_bm PySem.F.plainAttrs_list PySem.F.slot_list_append PySem.F.type_list_append mt_append (pv 4) (pa_cons (pe_c c_scan_cue hr (by decide) rfl (pa_cons (pv 0) (pa_cons (pv 1) pa_nil))) pa_nil)))
    (pss_one (ps_aug (i := 1) sc_scan_reel.nd rfl (Or.inl rfl) (pe_int) ip_add))))
    (pss_one (ps_ret (pe_tup (pa_cons (pv 3) (pa_cons (pe_callTy call_tuple_of (by rfl) m_tuple (by decide +kernel) (pa_cons (pv 4) pa_nil)) (pa_cons (pv 1) pa_nil))))))))))))), ?_⟩
    have ll : (lineR len :: cs.map lineC).length = cs.length + 1 := by rw [List.length_cons, List.length_map]
    refine ⟨_, rfl, _, rfl, fun x dx hx hdx ne => ?_⟩
    have sN : Same H (upd (upd H dx (.own x)) x (.ins CL dx [])) := fun b o e => by
      rw [upd_ne (ne_of_none e hx), upd_ne (ne_of_none e hdx)]
      exact e
    refine ⟨x, dx, la, _, 0, lineR len, rfl, upd_same, hl.keep sN, rfl, lineR_len l2, fun H1 k1 h1 => ⟨rfl, ?_⟩⟩
    rw [split_reel] at h1
    have up : ∀ {Ha Hb : Hp}, Same H Ha → KB x Ha Hb → Same H Hb := fun {Ha Hb} s kb b o e => kb b o (ne_of_none e hx) (s b o e)
    have S1 := up sN k1
    have lk : ∀ (n u : Int) (wl : Addr), (lwF n u wl).lookup ("take_one_of" : Str) = none ∧ (lwF n u wl).lookup ("take_number" : Str) = none ∧ (lwF n u wl).lookup ("finish" : Str) = none := fun n u wl =>
      ⟨lw_none _ _ _ (by decide +kernel) (by decide +kernel) (by decide +kernel), lw_none _ _ _ (by decide +kernel) (by decide +kernel) (by decide +kernel), lw_none _ _ _ (by decide +kernel) (by decide +kernel) (by decide +kernel)⟩
    obtain ⟨d1, wl1, n1, p1, w1⟩ := id h1
    refine ⟨_, rfl, x, d1, _, rfl, p1, (lk _ _ _).1, (by show 1 ≤ sizeLine; decide), fun tp htp => ?_⟩
    have s1 := same_new (o := .tup [V.str REEL]) htp
    refine ⟨x, tp, _, 0, REEL, rfl, h1.keep s1, rfl, upd_same, (ne_of_none p1 htp).symm, fun H2 k2 h2 => ?_⟩
    have S2 := up (S1.trans s1) k2
    obtain ⟨d2, wl2, n2, p2, w2⟩ := id h2
    refine ⟨_, rfl, x, d2, _, rfl, p2, (lk _ _ _).2.1, x, _, 1, len, 1, rfl, h2, rfl, by omega, l2, fun H3 k3 h3 => ?_⟩
    have S3 := up S2 k3
    obtain ⟨d3, wl3, n3, p3, w3⟩ := id h3
    refine ⟨_, rfl, x, d3, _, rfl, p3, (lk _ _ _).2.2, x, [REEL, numS len], rfl, h3, ?_⟩
    refine ⟨_, rfl, _, _, rfl, rfl, Nat.zero_le _, fun D hD => ?_⟩
    have SD := S3.trans (same_new (o := .lst []) hD)
    refine ⟨fun m σ H' => ∃ (i : Nat) (L : List (Addr × Cue)), σ = [some (.ref la), some (.int ((i + 1 : Nat) : Int)), some (.ref x), some (.int (len : Nat)), some (.ref D)] ∧ Same H H' ∧ H' D = some (.lst (refsC L)) ∧ cuesC L = cs.take i ∧ i ≤ cs.length ∧ (∀ e ∈ L, At H' e) ∧ m = cs.length - i,
      ⟨_, 0, [], rfl, SD, upd_same, rfl, Nat.zero_le _, (fun _ h => nomatch h), rfl⟩, ?_⟩
    rintro m σ Ha ⟨i, L, rfl, sa, hd, hc, hi, hat, rfl⟩
    have lL : L.length = i := by
      have := congrArg List.length hc
      rw [List.length_map, List.length_take] at this
      omega
    have hla := hl.keep sa
    by_cases lt : i < cs.length
    · obtain ⟨c, hc1⟩ : ∃ c, cs[i]? = some c := ⟨_, List.getElem?_eq_getElem lt⟩
      obtain ⟨W, ht⟩ := hW c (List.mem_of_getElem? hc1)
      obtain ⟨ws, wne, wwd, wtx⟩ := W.wd
      have at1 : (lineR len :: cs.map lineC)[i + 1]? = some (lineC c) := by
        rw [List.getElem?_cons_succ, List.getElem?_map, hc1]
        rfl
      refine ⟨_, rfl, _, rfl, la, _, i + 1, rfl, hla, .inr ⟨lineC c, CUE, at1, line_len W ht, by rw [split_cue W wne wwd wtx]; rfl, fun Hb sb => ⟨rfl, _, rfl, ?_⟩⟩⟩
      rw [decide_eq_true rfl]
      have S4 := sa.trans sb
      refine ⟨fun σ' H' => ∃ (L' : List (Addr × Cue)), σ' = [some (.ref la), some (.int ((i + 1 + 1 : Nat) : Int)), some (.ref x), some (.int (len : Nat)), some (.ref D)] ∧ Same H H' ∧ H' D = some (.lst (refsC L')) ∧ cuesC L' = cs.take (i + 1) ∧ (∀ e ∈ L', At H' e),
        fun σ' H' ⟨L', e1, e2, e3, e4, e5⟩ => ⟨_, by omega, i + 1, L', e1, e2, e3, e4, lt, e5, rfl⟩, ?_⟩
      have hd4 := sb _ _ hd
      refine ⟨_, rfl, .inl ⟨rfl, _, SqL.of hd4⟩, _, rfl, _, rfl, la, _, i + 1, c, rfl, hl.keep S4, at1, W, ht, fun H5 t5 s5 h5 => ?_⟩
      have hd5 := s5 _ _ hd4
      have nt : t5 ≠ D := fun e => by
        rw [e, hd5] at h5
        cases h5
      refine ⟨D, _, _, rfl, rfl, hd5, (by rw [List.length_map]; exact small_line (by omega)), ?_⟩
      refine ⟨_, rfl, _, _, rfl, rfl, L ++ [(t5, c)], ?_, ?_, ?_, ?_, ?_⟩
      · rfl
      · intro b o hb
        have q5 := s5 b o (S4 b o hb)
        have nb : b ≠ D := fun e => by
          rw [e] at hb
          have := S3 D o hb
          rw [hD] at this
          cases this
        rw [upd_ne nb]
        exact q5
      · rw [upd_same, refs_app]
        rfl
      · rw [cues_app, hc, List.take_add_one, hc1]
        rfl
      · intro e he
        rcases List.mem_append.mp he with h | h
        · have qe := s5 _ _ (sb _ _ (hat e h))
          have ne2 : e.1 ≠ D := fun z => by
            rw [z, hd5] at qe
            cases qe
          show upd H5 D _ e.1 = _
          rw [upd_ne ne2]
          exact qe
        · rw [List.mem_singleton.mp h]
          show upd H5 D _ t5 = _
          rw [upd_ne nt]
          exact h5
    · have ei : i = cs.length := by omega
      refine ⟨_, rfl, _, rfl, la, _, i + 1, rfl, hla, .inl ⟨by rw [ll, ei], rfl, _, rfl, ?_⟩⟩
      refine ⟨_, rfl, _, rfl, D, _, rfl, .inl ⟨SqL.of hd, fun tt htt => ?_⟩⟩
      have st := same_new (o := .tup (refsC L)) htt
      refine ⟨_, rfl, (by show 3 ≤ sizeLine; decide), fun r hr2 => ?_⟩
      have sr := same_new (o := .tup [.int (len : Nat), .ref tt, .int ((i + 1 : Nat) : Int)]) hr2
      have full : cuesC L = cs := by rw [hc, ei, List.take_length]
      rw [ei] at sr ⊢
      exact q _ r tt L ((sa.trans st).trans sr) upd_same (sr _ _ upd_same) full fun e he => ((hat e he).keep st).keep sr
end
end Sea
namespace Sea
open PySem PySem.Spec PyProof.Rows L2
section
variable {P : Program} {w : World} {K : PySem.W.Frag} {mg : Str → Option Value} {base : Heap} {CL fI CB CM CR fR : Addr}
theorem ok_read_reel {f : Addr} {fd : FuncData} (F : Fun K "read_reel" "read_reel" s_read_reel f fd) (m_len : mg "len" = none) (T : RC K mg CR fR) {fdR : FuncData} (FR : FnOk P w K mg base (L2.CX P w) 5 fR fdR ["self", "length", "cues"] (spReel CR CB CM))
    (bR : Binds K fdR ["self", "length", "cues"] []) (c_scan_reel : Cal P w K mg base 4 "scan_reel" spScan) : FnOk P w K mg base (L2.CX P w) 7 f fd ["lines"] (spRead CR CB CM) := by
  refine F.okX sc_read_reel (fun vs H Q E h => ?_) (fun cdv A outer s H vs Q E hr h => ?_)
  · obtain ⟨la, len, cs, rfl, _⟩ := h
    rfl
  · obtain ⟨la, len, cs, rfl, hl, l1, l2, hW, hsz, qb, qm, qy⟩ := h
    refine ⟨_, (pss_cons (ps_asg (pe_c c_scan_reel hr (by decide) rfl (pa_cons (pv 0) (pa_cons (pe_int) pa_nil))) (pg_tup rfl (pgs_cons (pg_name (i := 1) sc_read_reel.nd rfl (Or.inl rfl)) (pgs_cons (pg_name (i := 2) sc_read_reel.nd rfl (Or.inl rfl)) (pgs_cons (pg_name (i := 3) sc_read_reel.nd rfl (Or.inl rfl)) pgs_nil)))))
    (pss_cons (ps_if (pt_cmpR op_lt (pv 3) (pe_callB call_len (by rfl) m_len (by decide +kernel) (pa_cons (pv 0) pa_nil)) (nomark _))
    (pss_one ps_never)
    pss_nil)
    (pss_one (ps_ret (pe_make (E := E) T.made FR hr rfl T.g bR .nil (passes_call (takes_of rfl rfl rfl rfl) (fun _ _ _ _ h => h)) (pa_cons (pv 1) (pa_cons (pv 2) pa_nil))))))), ?_⟩
    refine ⟨_, rfl, la, len, cs, rfl, hl, l1, l2, hW, hsz, fun H1 t tt L s1 ht htt hc hat => ?_⟩
    refine ⟨t, _, rfl, SqT.of ht, rfl, _, _, rfl, _, _, rfl, _, _, rfl, rfl, ?_⟩
    have ll : (lineR len :: cs.map lineC).length = cs.length + 1 := by rw [List.length_cons, List.length_map]
    have hl1 := hl.keep s1
    refine ⟨_, rfl, _, rfl, _, _, rfl, hl1.len, _, _, rfl, rfl, _, rfl, ?_⟩
    rw [decide_eq_false (show ¬ (((cs.length + 1 : Nat) : Int) < (((lineR len :: cs.map lineC).length : Nat) : Int)) by rw [ll]; omega)]
    refine ⟨_, rfl, _, rfl, fun x dx hx hdx ne => ?_⟩
    have sN : Same H1 (upd (upd H1 dx (.own x)) x (.ins CR dx [])) := fun b o e => by
      rw [upd_ne (ne_of_none e hx), upd_ne (ne_of_none e hdx)]
      exact e
    have up : ∀ {Ha Hb : Hp}, Same H1 Ha → KB x Ha Hb → Same H Hb := fun {Ha Hb} s kb b o e => kb b o (ne_of_none (s1 b o e) hx) (s b o (s1 b o e))
    have lL : L.length = cs.length := by
      have := congrArg List.length hc
      rw [List.length_map] at this
      exact this
    refine ⟨x, dx, tt, L, len, rfl, upd_same, by omega, by omega, .inl (sN _ _ htt), fun e he => ⟨(hat e he).keep sN, ?_⟩, by omega, fun k hk H' d kb hd => ?_, fun hk hn H' d kb hd => ?_, fun hk hn H' L' kb hR hc' => ⟨rfl, ?_⟩⟩
    · have hm : e.2 ∈ cs := hc ▸ List.mem_map_of_mem (f := fun e : Addr × Cue => e.2) he
      exact (hW _ hm).1
    · rw [hc] at hk
      exact qb k hk H' d (up sN kb) hd
    · rw [hc] at hk
      exact qm hk (by omega) H' d (up sN kb) hd
    · rw [hc] at hk
      exact qy hk (by omega) H' x L' (up sN kb) hR (hc'.trans hc)
end
end Sea
namespace Sea
open PySem PySem.Spec PyProof.Rows L2
/-! reels compared; the lines of a reel -/
/-- a == b of two instances of the class at C, by its own def -/
def rOwnEq (C : Addr) (sp : Sp) : R2 := fun x y H Q => ∃ (a b dx dy : Addr) (fs gs : List (Str × V)), x = .ref a ∧ y = .ref b ∧ H a = some (.ins C dx fs) ∧ H b = some (.ins C dy gs) ∧ sp [.ref a, .ref b] H (fun v H' => (∃ k, v = .bl k) ∧ Q v H') E0
section
variable {X : Cx} {n k : Nat} {C f : Addr} {fd : FuncData} {ps : List Str} {sp : Sp}
theorem op_ownEq (F : FnOk X.prog X.w X.K X.mg X.base CX0 n f fd ps sp) (hr : Room k X.A) (hk : n ≤ k) (hs : PySem.W.findIn X.K (.ref C) "__eq__" = some (some (.ref f))) (hf : PySem.W.isFn X.K (.ref f) = true) (hb : Binds X.K fd ps []) :
    OpR X (compareOp .Eq) (rOwnEq C sp) := by
  intro pins s σ H x y u v Q I rx ry h
  obtain ⟨a, b, dx, dy, fs, gs, rfl, rfl, ha, hb', hsp⟩ := h
  cases rx
  cases ry
  obtain ⟨mA, J, _⟩ := ins_get I.hok ha
  obtain ⟨mB, J', _⟩ := ins_get I.hok hb'
  obtain ⟨od, J, _⟩ := J.look
  obtain ⟨od', J', _⟩ := J'.look
  obtain ⟨m, hF⟩ := I.fr
  show wpAny (model X.prog X.w) X.A (richCompare .Eq (.ref a) (.ref b)) (EP X pins σ Q) X.xe s
  refine PySem.W.cmp_K (op := .Eq) (tb := .ref C) hr.units0 hF I.ok.mod.kin J J'.type (by simp [PySem.W.notFirst]) hs hf ?_
  have r2 : Vals [V.ref a, V.ref b] [Value.ref a, Value.ref b] := .cons rfl (.cons rfl .nil)
  have hl := F.len _ _ _ _ hsp
  have bt := hb s [.ref a, .ref b] I.kIn (by rw [List.append_nil]; exact hl)
  rw [List.append_nil] at bt
  refine wpAny_call (codeAny_mono (F.run X.A X.stack s H ⟨[.ref a, .ref b], []⟩ [.ref a, .ref b] [.ref a, .ref b] _ E0 (hr.mono hk) I.env0 bt r2 hsp) fun r s' hq => ?_)
  cases r with
  | error e => exact hq.elim
  | ok fl =>
    cases fl with
    | ret w =>
      obtain ⟨z, H', I', rz, ⟨kk, ez⟩, q⟩ := I.after hq
      subst ez
      cases rz
      exact ⟨.bl kk, H', I', rfl, q⟩
    | next => exact False.elim hq
    | brk => exact False.elim hq
    | cont => exact False.elim hq
end
/-! the data of cues -/
def cueD (c : Cue) : PyData := .tuple [.int c.s, .int c.e, .str c.nm, .str c.tx]
def cuesD (cs : List Cue) : PyData := .tuple (cs.map cueD)
/-- what a text's signs are -/
def AscS (z : Str) : Prop := ∀ c ∈ cp z, c < 1114112
theorem asc_ok {z : Str} (h : AscS z) : (PyData.str z).canLay0 = true := by
  show (z.cps.all (· < 0x110000)) = true
  rw [Array.all_eq_true_iff_forall_mem]
  intro c hc
  exact decide_eq_true (h c (Array.mem_toList_iff.mpr hc))
theorem cue_lay {c : Cue} (h1 : AscS c.nm) (h2 : AscS c.tx) : (cueD c).canLay0 = true := by
  show (PyData.canLay0 (.int c.s) && (PyData.canLay0 (.int c.e) && (PyData.canLay0 (.str c.nm) && (PyData.canLay0 (.str c.tx) && true)))) = true
  rw [asc_ok h1, asc_ok h2]
  rfl
theorem cues_lay : ∀ {cs : List Cue}, (∀ c ∈ cs, AscS c.nm ∧ AscS c.tx) → PyData.canLayAll0 (cs.map cueD) = true
  | [], _ => rfl
  | c :: r, h => by
    show (PyData.canLay0 (cueD c) && PyData.canLayAll0 (r.map cueD)) = true
    rw [cue_lay (h c List.mem_cons_self).1 (h c List.mem_cons_self).2, cues_lay fun d hd => h d (List.mem_cons_of_mem _ hd)]
    rfl
theorem cues_depth : ∀ cs : List Cue, PyData.depthAll (cs.map cueD) ≤ 1
  | [] => Nat.zero_le _
  | c :: r => by
    show max (PyData.depth (cueD c)) (PyData.depthAll (r.map cueD)) ≤ 1
    have h1 : PyData.depth (cueD c) = 1 := rfl
    have h2 := cues_depth r
    omega
theorem cues_shaped {cs : List Cue} (h : ∀ c ∈ cs, AscS c.nm ∧ AscS c.tx) : SeqAt.shaped (cuesD cs) = true := by
  show (PyData.canLayAll0 (cs.map cueD) && decide (PyData.depthAll (cs.map cueD) + 1 ≤ 64)) = true
  have := cues_depth cs
  rw [cues_lay h, decide_eq_true (by omega)]
  rfl
theorem strs_shaped {ss : List Str} (h : ∀ z ∈ ss, AscS z) : SeqAt.shaped (.list (ss.map .str)) = true := by
  have h1 : ∀ ss : List Str, (∀ z ∈ ss, AscS z) → PyData.canLayAll0 (ss.map .str) = true := fun ss => by
    induction ss with
    | nil => intro _; rfl
    | cons a r ih =>
      intro h
      show (PyData.canLay0 (.str a) && PyData.canLayAll0 (r.map .str)) = true
      rw [asc_ok (h a List.mem_cons_self), ih fun z hz => h z (List.mem_cons_of_mem _ hz)]
      rfl
  have h2 : ∀ ss : List Str, PyData.depthAll (ss.map .str) = 0 := fun ss => by
    induction ss with
    | nil => rfl
    | cons a r ih =>
      show max (PyData.depth (.str a)) (PyData.depthAll (r.map .str)) = 0
      rw [ih]
      rfl
  show (PyData.canLayAll0 (ss.map .str) && decide (PyData.depthAll (ss.map .str) + 1 ≤ 64)) = true
  rw [h1 ss h, h2, decide_eq_true (by decide)]
  rfl
theorem cue_eqv (c d : Cue) : PyData.eqv (cueD c) (cueD d) = decide (c = d) := by
  show ((c.s == d.s) && ((c.e == d.e) && ((c.nm == d.nm) && ((c.tx == d.tx) && true)))) = _
  obtain ⟨a1, a2, a3, a4⟩ := c
  obtain ⟨b1, b2, b3, b4⟩ := d
  by_cases h : (⟨a1, a2, a3, a4⟩ : Cue) = ⟨b1, b2, b3, b4⟩
  · cases h
    simp
  · rw [decide_eq_false h, Bool.eq_false_iff]
    intro q
    simp only [Bool.and_true, Bool.and_eq_true, beq_iff_eq] at q
    exact h (by rw [q.1, q.2.1, q.2.2.1, q.2.2.2])
open Classical in
theorem cues_eqv : ∀ cs ds : List Cue, PyData.eqvAll (cs.map cueD) (ds.map cueD) = decide (cs = ds)
  | [], [] => rfl
  | [], d :: r => (decide_eq_false (by simp)).symm
  | c :: r, [] => (decide_eq_false (by simp)).symm
  | c :: r, d :: q => by
    show (PyData.eqv (cueD c) (cueD d) && PyData.eqvAll (r.map cueD) (q.map cueD)) = _
    rw [cue_eqv, cues_eqv r q]
    by_cases h1 : c = d
    · by_cases h2 : r = q
      · subst h1 h2
        simp
      · rw [decide_eq_false h2, Bool.and_false, decide_eq_false (fun e => h2 (List.cons.inj e).2)]
    · rw [decide_eq_false h1, Bool.false_and, decide_eq_false (fun e => h1 (List.cons.inj e).1)]
theorem strs_eqv : ∀ cs ds : List Str, PyData.eqvAll (cs.map .str) (ds.map .str) = decide (cs = ds)
  | [], [] => rfl
  | [], d :: r => (decide_eq_false (by simp)).symm
  | c :: r, [] => (decide_eq_false (by simp)).symm
  | c :: r, d :: q => by
    show ((c == d) && PyData.eqvAll (r.map .str) (q.map .str)) = _
    rw [strs_eqv r q]
    by_cases h1 : c = d
    · by_cases h2 : r = q
      · subst h1 h2
        simp
      · rw [decide_eq_false h2, Bool.and_false, decide_eq_false (fun e => h2 (List.cons.inj e).2)]
    · rw [beq_eq_false_iff_ne.mpr h1, Bool.false_and, decide_eq_false (fun e => h1 (List.cons.inj e).1)]
theorem dp_cues {K : PySem.W.Frag} {H : Hp} : ∀ {L : List (Addr × Cue)}, (∀ e ∈ L, At H e) → DpAll K H (refsC L) ((cuesC L).map cueD)
  | [], _ => .nil
  | e :: r, h => .cons (.tup (SqT.of (h e List.mem_cons_self)) (.cons (.int _) (.cons (.int _) (.cons (.str _) (.cons (.str _) .nil))))) (dp_cues fun d hd => h d (List.mem_cons_of_mem _ hd))
theorem dp_strs {K : PySem.W.Frag} {H : Hp} : ∀ ss : List Str, DpAll K H (ss.map V.str) (ss.map .str)
  | [] => .nil
  | a :: r => .cons (.str a) (dp_strs r)
end Sea
namespace Sea
open PySem PySem.Spec PyProof.Rows L2
/-! a reel compared and written -/
theorem log_small {i : Int} (h0 : 0 ≤ i) (h : i ≤ 2000) : i.natAbs.log2 < 1920 := by
  by_cases z : i.natAbs = 0
  · rw [z]
    decide
  · exact Nat.lt_of_lt_of_le ((Nat.log2_lt (k := 11) z).mpr (by omega)) (by decide)
theorem str_num {i : Int} (h0 : 0 ≤ i) : ((toString i : String) : Str) = numS i.toNat := by
  unfold numS
  rw [Int.toNat_of_nonneg h0]
def spReelEq (CR : Addr) : Sp := fun vs H Q _ => ∃ (a b : Addr) (la lb : Int) (La Lb : List (Addr × Cue)), vs = [.ref a, .ref b] ∧ ReelAt H CR a la La ∧ ReelAt H CR b lb Lb ∧ (∀ c ∈ cuesC La, AscS c.nm ∧ AscS c.tx) ∧ (∀ c ∈ cuesC Lb, AscS c.nm ∧ AscS c.tx) ∧
  Q (.bl (decide (la = lb ∧ cuesC La = cuesC Lb))) H
def spLines : Sp := fun vs H Q _ => ∃ (a : Addr) (len : Nat) (L : List (Addr × Cue)), vs = [.int (len : Nat), .ref a] ∧ H a = some (.lst (refsC L)) ∧ (∀ e ∈ L, At H e ∧ CueW e.2 ∧ e.2.tx.length ≤ 900) ∧ len ≤ 2000 ∧ L.length ≤ 100 ∧
  ∀ H' p, Same H H' → H' p = some (.lst ((lineR len :: (cuesC L).map lineC).map V.str)) → Q (.ref p) H'
def spWrite (CR : Addr) : Sp := fun vs H Q _ => ∃ (x : Addr) (len : Nat) (L : List (Addr × Cue)), vs = [.ref x] ∧ ReelAt H CR x len L ∧ (∀ e ∈ L, CueW e.2 ∧ e.2.tx.length ≤ 900) ∧ len ≤ 2000 ∧ L.length ≤ 100 ∧
  ∀ H' p, Same H H' → H' p = some (.tup ((lineR len :: (cuesC L).map lineC).map V.str)) → Q (.ref p) H'
section
variable {P : Program} {w : World} {K : PySem.W.Frag} {mg : Str → Option Value} {base : Heap} {CR fR : Addr}
theorem ok_reel_eq {f : Addr} {fd : FuncData} (F : Fun K "__eq__" "Reel.__eq__" s_Reel___eq__ f fd) (T : RC K mg CR fR) (m_isinstance : mg "isinstance" = none) : FnOk P w K mg base CX0 1 f fd ["self", "other"] (spReelEq CR) := by
  refine F.ok sc_Reel___eq__ (fun vs H Q E h => ?_) (fun cdv A outer s H vs Q E hr h => ?_)
  · obtain ⟨a, b, la, lb, La, Lb, rfl, _⟩ := h
    rfl
  · obtain ⟨a, b, la, lb, La, Lb, rfl, ⟨dx, t, c, d, hx, ht, hat⟩, ⟨dy, u, c', d', hy, hu, hbt⟩, sa, sb, q⟩ := h
    refine ⟨_, (pss_one (ps_ret (pe_and (pe_callB call_isi (by rfl) m_isinstance (by decide +kernel) (pa_cons (pv 1) (pa_cons (pe_glob (v := .ref CR) rfl T.g rfl) pa_nil))) (pe_and (pe_cmpR op_eq (pe_fld (pv 0) rfl) (pe_fld (pv 1) rfl) (nomark _)) (pe_one (pe_cmpR (op_eqD hr.units) (pe_fld (pv 0) rfl) (pe_fld (pv 1) rfl) (nomark _))))))), ?_⟩
    refine ⟨_, rfl, _, _, _, _, true, rfl, .own CR, .base (.ins hy T.cl T.kl T.gt T.tk T.mr), if_pos (beq_self_eq_true _), true, rfl, iteT ?_⟩
    refine ⟨_, rfl, a, CR, dx, _, _, rfl, hx, T.cl, T.nL, reel_length _ _ _ _, _, rfl, b, CR, dy, _, _, rfl, hy, T.cl, T.nL, reel_length _ _ _ _, rfl, ?_⟩
    have cu : Q (.bl (decide (la = lb ∧ cuesC La = cuesC Lb))) H := q
    by_cases hl : la = lb
    · rw [decide_eq_true (congrArg V.int hl)]
      refine ⟨true, rfl, iteT ⟨_, rfl, a, CR, dx, _, _, rfl, hx, T.cl, T.nC, reel_cues _ _ _ _, _, rfl, b, CR, dy, _, _, rfl, hy, T.cl, T.nC, reel_cues _ _ _ _, cuesD (cuesC La), cuesD (cuesC Lb), .tup (SqT.of ht) (dp_cues hat), .tup (SqT.of hu) (dp_cues hbt), cues_shaped sa, cues_shaped sb, ?_⟩⟩
      have e : PyData.eqv (cuesD (cuesC La)) (cuesD (cuesC Lb)) = decide (la = lb ∧ cuesC La = cuesC Lb) := by
        show PyData.eqvAll _ _ = _
        rw [cues_eqv]
        by_cases h : cuesC La = cuesC Lb
        · rw [decide_eq_true h, decide_eq_true ⟨hl, h⟩]
        · rw [decide_eq_false h, decide_eq_false fun z => h z.2]
      rw [e]
      exact q
    · rw [decide_eq_false (fun z => hl (V.int.inj z))]
      rw [decide_eq_false (fun z : la = lb ∧ _ => hl z.1)] at q
      exact ⟨false, rfl, iteF q⟩
theorem ok_lines {f : Addr} {fd : FuncData} (F : Fun K "_law_lines" "_law_lines" s__law_lines f fd) (m_str : mg "str" = none) : FnOk P w K mg base CX0 1 f fd ["_law_length", "_law_cues"] spLines := by
  refine F.ok sc__law_lines (fun vs H Q E h => ?_) (fun cdv A outer s H vs Q E hr h => ?_)
  · obtain ⟨a, len, L, rfl, _⟩ := h
    rfl
  · obtain ⟨a, len, L, rfl, ha, hL, hl, hsz, q⟩ := h
    refine ⟨_, (pss_cons (ps_set (i := 2) sc__law_lines.nd rfl (Or.inl rfl) (pe_lst (pa_cons (pe_op op_add_str (pe_str) (pe_callTy call_str_int (by rfl) m_str (by decide +kernel) (pa_cons (pv 0) pa_nil))) pa_nil)))
    (pss_cons (ps_for PassesOwn.never rfl (pi_list (pv 1)) (pg_name (i := 3) sc__law_lines.nd rfl (Or.inl rfl))
    (pss_one (ps_expr (pe_bm PySem.F.plainAttrs_list PySem.F.slot_list_append PySem.F.type_list_append mt_append (pv 2) (pa_cons (pe_op op_add_str (pe_op op_add_str (pe_op op_add_str (pe_op op_add_str (pe_op op_add_str (pe_op op_add_str (pe_op op_add_str (pe_str) (pe_callTy call_str_int (by rfl) m_str (by decide +kernel) (pa_cons (pe_ix ix_tup (pv 3) (pe_int) (fun _ _ => rfl)) pa_nil))) (pe_str)) (pe_callTy call_str_int (by rfl) m_str (by decide +kernel) (pa_cons (pe_ix ix_tup (pv 3) (pe_int) (fun _ _ => rfl)) pa_nil))) (pe_str)) (pe_ix ix_tup (pv 3) (pe_int) (fun _ _ => rfl))) (pe_str)) (pe_ix ix_tup (pv 3) (pe_int) (fun _ _ => rfl))) pa_nil)))))
    (pss_one (ps_ret (pv 2))))), ?_⟩
    have c5 : (Str.ofString "reel ").length = 5 := by decide +kernel
    have c4 : (Str.ofString "cue ").length = 4 := by decide +kernel
    have b1 := len_b1
    have sl : sizeLine = 16777216 := sizeLine_eq
    have n4 := num_len hl
    have es := str_num (i := (len : Int)) (by omega)
    rw [Int.toNat_natCast] at es
    refine ⟨_, rfl, _, rfl, log_small (by omega) (by omega), _, _, rfl, rfl, ?_, (by show 1 ≤ sizeLine; decide), fun D hD => ?_⟩
    · rw [es, c5, sl]
      omega
    rw [es]
    have sD := same_new (o := .lst [V.str (lineR len)]) hD
    refine ⟨_, rfl, a, rfl, ⟨_, SqL.of (sD _ _ ha)⟩, ?_⟩
    refine for_list (K := K) (a := a) (xs := refsC L) (fun i σ H' => ∃ k3, σ = [some (.int (len : Nat)), some (.ref a), some (.ref D), k3] ∧ Same H H' ∧ H' D = some (.lst ((lineR len :: ((cuesC L).take i).map lineC).map V.str)))
      ⟨none, rfl, sD, upd_same⟩ (fun i σ H' _ ⟨_, _, hs, _⟩ => SqL.of (hs _ _ ha)) ?_ ?_
    · rintro i y σ Ha hi ⟨k3, rfl, hs, hd⟩
      have hi' : i < L.length := by
        have := (List.getElem?_eq_some_iff.mp hi).1
        rw [List.length_map] at this
        exact this
      obtain ⟨e, he, rfl⟩ : ∃ e, L[i]? = some e ∧ y = V.ref e.1 := by
        rw [List.getElem?_map, List.getElem?_eq_getElem hi'] at hi
        exact ⟨L[i], List.getElem?_eq_getElem hi', (Option.some.inj hi).symm⟩
      obtain ⟨eA, W, et⟩ := hL e (List.mem_of_getElem? he)
      have hA := SqT.of (K := K) (hs _ _ eA)
      have e1 := str_num W.s0
      have e2 := str_num W.e0
      have n1 := num_len (n := e.2.s.toNat) (by have := W.s1; omega)
      have n2 := num_len (n := e.2.e.toNat) (by have := W.e1; omega)
      have n3 := W.nm.most
      rw [cp_len] at n3
      refine ⟨_, rfl, .inl ⟨rfl, _, SqL.of hd⟩, _, rfl, e.1, _, 0, _, rfl, rfl, hA, atI_nat (j := 0) rfl, _, rfl, log_small W.s0 W.s1, _, _, rfl, rfl, ?_, _, _, rfl, rfl, ?_, _, rfl, e.1, _, 1, _, rfl, rfl, hA, atI_nat (j := 1) rfl, _, rfl, log_small W.e0 W.e1, _, _, rfl, rfl, ?_, _, _, rfl, rfl, ?_, _, rfl, e.1, _, 2, _, rfl, rfl, hA, atI_nat (j := 2) rfl, _, _, rfl, rfl, ?_, _, _, rfl, rfl, ?_, _, rfl, e.1, _, 3, _, rfl, rfl, hA, atI_nat (j := 3) rfl, _, _, rfl, rfl, ?_, D, _, _, rfl, rfl, hd, ?_, ?_⟩
      · rw [e1, c4, sl]; omega
      · simp only [app_len, e1, c4, b1, sl]; omega
      · simp only [app_len, e1, e2, c4, b1, sl]; omega
      · simp only [app_len, e1, e2, c4, b1, sl]; omega
      · simp only [app_len, e1, e2, c4, b1, sl]; omega
      · simp only [app_len, e1, e2, c4, b1, sl]; omega
      · simp only [app_len, e1, e2, c4, b1, sl]; omega
      · rw [List.length_map, List.length_cons, List.length_map, List.length_take, List.length_map]
        exact small_line (by omega)
      · refine ⟨_, rfl, same_over hs hD, ?_⟩
        have hc1 : (cuesC L)[i]? = some e.2 := by rw [List.getElem?_map, he]; rfl
        rw [upd_same, List.take_add_one, hc1, e1, e2]
        show some (HO.lst _) = some (HO.lst _)
        congr 2
        show _ = V.str (lineR len) :: List.map V.str (List.map lineC (_ ++ [e.2]))
        rw [List.map_append, List.map_append]
        rfl
    · rintro σ H' ⟨k3, rfl, hs, hd⟩
      have hl2 : (refsC L).length = (cuesC L).length := by rw [List.length_map, List.length_map]
      rw [hl2, List.take_length] at hd
      exact ⟨_, rfl, q H' D hs hd⟩
end
end Sea
namespace Sea
open PySem PySem.Spec PyProof.Rows L2
theorem empty_app (a : Str) : Str.empty ++ a = a := cp_inj (by rw [app_cp]; rfl)
section
variable {P : Program} {w : World} {K : PySem.W.Frag} {mg : Str → Option Value} {base : Heap} {CR fR : Addr}
theorem ok_write {f : Addr} {fd : FuncData} (F : Fun K "write_reel" "write_reel" s_write_reel f fd) (T : RC K mg CR fR) (m_tuple : mg "tuple" = none) : FnOk P w K mg base CX0 1 f fd ["reel"] (spWrite CR) := by
  refine F.ok sc_write_reel (fun vs H Q E h => ?_) (fun cdv A outer s H vs Q E hr h => ?_)
  · obtain ⟨x, len, L, rfl, _⟩ := h
    rfl
  · obtain ⟨x, len, L, rfl, ⟨dx, t, c, d, hx, ht, hat⟩, hL, hl, hsz, q⟩ := h
    refine ⟨_, (pss_cons (ps_set (i := 1) sc_write_reel.nd rfl (Or.inl rfl) (pe_lst (pa_cons (pe_joined (.cons (pe_str) (.cons (pe_fmt (pe_fld (pv 0) rfl)) .nil))) pa_nil)))
    (pss_cons (ps_for PassesOwn.never rfl (pi_tup (pe_fld (pv 0) rfl)) (pg_tup rfl (pgs_cons (pg_name (i := 2) sc_write_reel.nd rfl (Or.inl rfl)) (pgs_cons (pg_name (i := 3) sc_write_reel.nd rfl (Or.inl rfl)) (pgs_cons (pg_name (i := 4) sc_write_reel.nd rfl (Or.inl rfl)) (pgs_cons (pg_name (i := 5) sc_write_reel.nd rfl (Or.inl rfl)) pgs_nil)))))
    (pss_one (ps_expr (pe_bm PySem.F.plainAttrs_list PySem.F.slot_list_append PySem.F.type_list_append mt_append (pv 1) (pa_cons (pe_joined (.cons (pe_str) (.cons (pe_fmt (pv 2)) (.cons (pe_str) (.cons (pe_fmt (pv 3)) (.cons (pe_str) (.cons (pe_fmt (pv 4)) (.cons (pe_str) (.cons (pe_fmt (pv 5)) .nil))))))))) pa_nil)))))
    (pss_one (ps_ret (pe_callTy call_tuple_of (by rfl) m_tuple (by decide +kernel) (pa_cons (pv 1) pa_nil)))))), ?_⟩
    have c5 : (Str.ofString "reel ").length = 5 := by decide +kernel
    have c4 : (Str.ofString "cue ").length = 4 := by decide +kernel
    have b1 := len_b1
    have sl : sizeLine = 16777216 := sizeLine_eq
    have n4 := num_len hl
    have es := str_num (i := (len : Int)) (by omega)
    rw [Int.toNat_natCast] at es
    refine ⟨_, rfl, by rw [empty_app, c5, sl]; decide, _, rfl, x, CR, dx, _, _, rfl, hx, T.cl, T.nL, reel_length _ _ _ _, .inr ⟨_, rfl, log_small (by omega) (by omega), _, rfl, ?_, (by show 1 ≤ sizeLine; decide), fun D hD => ?_⟩⟩
    · rw [es, app_len, empty_app, c5, sl]
      omega
    rw [es, empty_app]
    have sD := same_new (o := .lst [V.str (lineR len)]) hD
    refine ⟨_, rfl, x, CR, dx, _, _, rfl, sD _ _ hx, T.cl, T.nC, reel_cues _ _ _ _, t, rfl, ⟨_, SqT.of (sD _ _ ht)⟩, ?_⟩
    refine for_it walk_tup (fun i σ H' => ∃ k2 k3 k4 k5, σ = [some (.ref x), some (.ref D), k2, k3, k4, k5] ∧ Same H H' ∧ H' D = some (.lst ((lineR len :: ((cuesC L).take i).map lineC).map V.str)))
      ⟨none, none, none, none, rfl, sD, upd_same⟩ (fun i σ H' _ ⟨_, _, _, _, _, hs, _⟩ => SqT.of (hs _ _ ht)) ?_ ?_
    · rintro i y σ Ha Hb hi ⟨k2, k3, k4, k5, rfl, hs, hd⟩ ⟨rfl, hy⟩
      have hi' : i < L.length := by rw [List.length_map] at hi; exact hi
      obtain ⟨e, he, rfl⟩ : ∃ e, L[i]? = some e ∧ y = V.ref e.1 := by
        rw [List.getElem?_map, List.getElem?_eq_getElem hi'] at hy
        exact ⟨L[i], List.getElem?_eq_getElem hi', (Option.some.inj hy).symm⟩
      have hme := List.mem_of_getElem? he
      obtain ⟨W, et⟩ := hL e hme
      have hA := SqT.of (K := K) (hs _ _ (hat e hme))
      have e1 := str_num W.s0
      have e2 := str_num W.e0
      have n1 := num_len (n := e.2.s.toNat) (by have := W.s1; omega)
      have n2 := num_len (n := e.2.e.toNat) (by have := W.e1; omega)
      have n3 := W.nm.most
      rw [cp_len] at n3
      refine ⟨e.1, _, rfl, hA, rfl, _, _, rfl, _, _, rfl, _, _, rfl, _, _, rfl, rfl, ?_⟩
      refine ⟨_, rfl, .inl ⟨rfl, _, SqL.of hd⟩, _, rfl, ?_, _, rfl, .inr ⟨_, rfl, log_small W.s0 W.s1, _, rfl, ?_, _, rfl, ?_, _, rfl, .inr ⟨_, rfl, log_small W.e0 W.e1, _, rfl, ?_, _, rfl, ?_, _, rfl, .inl ⟨_, rfl, ?_, _, rfl, ?_, _, rfl, ?_, _, rfl, .inl ⟨_, rfl, ?_, _, rfl, ?_, D, _, _, rfl, rfl, hd, ?_, ?_⟩⟩⟩⟩⟩
      · rw [empty_app, c4, sl]; decide
      · simp only [app_len, empty_app, e1, c4, b1, sl]; omega
      · simp only [app_len, empty_app, e1, c4, b1, sl]; omega
      · simp only [app_len, empty_app, e1, e2, c4, b1, sl]; omega
      · simp only [app_len, empty_app, e1, e2, c4, b1, sl]; omega
      · omega
      · simp only [app_len, empty_app, e1, e2, c4, b1, sl]; omega
      · simp only [app_len, empty_app, e1, e2, c4, b1, sl]; omega
      · omega
      · simp only [app_len, empty_app, e1, e2, c4, b1, sl]; omega
      · rw [List.length_map, List.length_cons, List.length_map, List.length_take, List.length_map]
        exact small_line (by omega)
      · refine ⟨_, _, _, _, rfl, same_over hs hD, ?_⟩
        have hc1 : (cuesC L)[i]? = some e.2 := by rw [List.getElem?_map, he]; rfl
        rw [upd_same, List.take_add_one, hc1, e1, e2, empty_app]
        show some (HO.lst _) = some (HO.lst _)
        congr 2
        show _ = V.str (lineR len) :: List.map V.str (List.map lineC (_ ++ [e.2]))
        rw [List.map_append, List.map_append]
        rfl
    · rintro σ H' ⟨k2, k3, k4, k5, rfl, hs, hd⟩
      have hl2 : (refsC L).length = (cuesC L).length := by rw [List.length_map, List.length_map]
      rw [hl2, List.take_length] at hd
      exact ⟨_, rfl, D, _, rfl, .inl ⟨SqL.of hd, fun l hl3 => q _ l (hs.trans (same_new hl3)) upd_same⟩⟩
end
end Sea
namespace Sea
open PySem PySem.Spec PyProof.Rows L2
/-- what is due of a length and cues, at p -/
def DueL (len : Nat) (cs : List Cue) (H : Hp) (p : Addr) : Prop :=
  (∃ k, judge len 0 cs = some k ∧ H p = some (.tup [.str (Str.ofString "BadCue"), .int (k : Nat), .bl false])) ∨
  (judge len 0 cs = none ∧ 40 < cs.length ∧ H p = some (.tup [.str (Str.ofString "TooMany"), .str (Str.ofString "cue"), .bl false])) ∨
  (judge len 0 cs = none ∧ cs.length ≤ 40 ∧ ∃ t L, H p = some (.tup [.str (Str.ofString "reel"), .int (len : Nat), .ref t]) ∧ H t = some (.tup (refsC L)) ∧ cuesC L = cs ∧ ∀ e ∈ L, At H e)
theorem DueL.keep {len : Nat} {cs : List Cue} {H H' : Hp} {p : Addr} (h : DueL len cs H p) (s : Same H H') : DueL len cs H' p := by
  rcases h with ⟨k, h1, h2⟩ | ⟨h1, h2, h3⟩ | ⟨h1, h2, t, L, h3, h4, h5, h6⟩
  · exact .inl ⟨k, h1, s _ _ h2⟩
  · exact .inr (.inl ⟨h1, h2, s _ _ h3⟩)
  · exact .inr (.inr ⟨h1, h2, t, L, s _ _ h3, s _ _ h4, h5, fun e he => (h6 e he).keep s⟩)
def spDue : Sp := fun vs H Q _ => ∃ (a : Addr) (len : Nat) (L : List (Addr × Cue)), vs = [.int (len : Nat), .ref a] ∧ H a = some (.lst (refsC L)) ∧ (∀ e ∈ L, At H e ∧ CueW e.2) ∧ L.length ≤ 100 ∧
  ∀ H' p, Same H H' → DueL len (cuesC L) H' p → Q (.ref p) H'
def spTold : Sp := fun vs H Q _ => ∃ (la : Addr) (len : Nat) (cs : List Cue), vs = [.ref la] ∧ LinesAt H la (lineR len :: cs.map lineC) ∧ 1 ≤ len ∧ len ≤ 2000 ∧ (∀ c ∈ cs, CueW c ∧ c.tx.length ≤ 900) ∧ cs.length ≤ 100 ∧
  ∀ H' p, Same H H' → DueL len cs H' p → Q (.ref p) H'
theorem ok_no {c : Cue} {lo len : Int} (h : c.s < lo ∨ c.e ≤ c.s ∨ len < c.e ∨ 60 < c.tx.length) : okCue c lo len = false := by
  unfold okCue
  rw [Bool.eq_false_iff]
  intro q
  simp only [Bool.and_eq_true, decide_eq_true_eq] at q
  obtain ⟨g, q1, q2, q3⟩ := q
  have := g.most
  rw [cp_len] at this
  omega
theorem ok_yes {c : Cue} {lo len : Int} (W : CueW c) (h1 : lo ≤ c.s) (h2 : c.s < c.e) (h3 : c.e ≤ len) (h4 : c.tx.length ≤ 60) : okCue c lo len = true := by
  unfold okCue
  simp only [Bool.and_eq_true, decide_eq_true_eq]
  exact ⟨W.gd h4, h1, h2, h3⟩
/-- the classes that told asks about -/
structure EX8 (K : PySem.W.Frag) (CB CM CLn CLi CE : Addr) : Prop where
  bb : PySem.W.exmOne K (.ref CB) (.ref CB) = some true
  mb : PySem.W.exmOne K (.ref CM) (.ref CB) = some false
  mm : PySem.W.exmOne K (.ref CM) (.ref CM) = some true
  kb : PySem.W.kitAny K (.ref CB) [.ref CLn, .ref CLi, .ref CM] = some false
  km : PySem.W.kitAny K (.ref CM) [.ref CB, .ref CLn, .ref CLi] = some false
section
variable {P : Program} {w : World} {K : PySem.W.Frag} {mg : Str → Option Value} {base : Heap} {CB CM CLn CLi CE CR fR : Addr}
theorem ok_due {f : Addr} {fd : FuncData} (F : Fun K "_law_due" "_law_due" s__law_due f fd) (m_range : mg "range" = none) (m_len : mg "len" = none) (m_tuple : mg "tuple" = none) : FnOk P w K mg base CX0 1 f fd ["_law_length", "_law_cues"] spDue := by
  refine F.ok sc__law_due (fun vs H Q E h => ?_) (fun cdv A outer s H vs Q E hr h => ?_)
  · obtain ⟨a, len, L, rfl, _⟩ := h
    rfl
  · obtain ⟨a, len, L, rfl, ha, hL, hsz, q⟩ := h
    refine ⟨_, (pss_cons (ps_set (i := 2) sc__law_due.nd rfl (Or.inl rfl) (pe_int))
    (pss_cons (ps_for PassesOwn.never rfl (pi_range1 (by rfl) m_range (pa_cons (pe_callB call_len (by rfl) m_len (by decide +kernel) (pa_cons (pv 1) pa_nil)) pa_nil)) (pg_name (i := 3) sc__law_due.nd rfl (Or.inl rfl))
    (pss_cons (ps_set (i := 4) sc__law_due.nd rfl (Or.inl rfl) (pe_ix ix_list (pv 1) (pv 3) (fun _ _ => rfl)))
    (pss_cons (ps_if (PW.pt (pw_or (pt_cmpR op_lt (pe_ix ix_tup (pv 4) (pe_int) (fun _ _ => rfl)) (pv 2) (nomark _)) (pw_or (pt_cmpR op_ge (pe_ix ix_tup (pv 4) (pe_int) (fun _ _ => rfl)) (pe_ix ix_tup (pv 4) (pe_int) (fun _ _ => rfl)) (nomark _)) (pw_or (pt_cmpR op_gt (pe_ix ix_tup (pv 4) (pe_int) (fun _ _ => rfl)) (pv 0) (nomark _)) (pw_or1 (pt_cmpR op_gt (pe_callB call_len_str (by rfl) m_len (by decide +kernel) (pa_cons (pe_ix ix_tup (pv 4) (pe_int) (fun _ _ => rfl)) pa_nil)) (pe_int) (nomark _)))))))
    (pss_one (ps_ret (pe_tup (pa_cons (pe_str) (pa_cons (pv 3) (pa_cons (pe_bl) pa_nil))))))
    pss_nil)
    (pss_one (ps_set (i := 2) sc__law_due.nd rfl (Or.inl rfl) (pe_ix ix_tup (pv 4) (pe_int) (fun _ _ => rfl)))))))
    (pss_cons (ps_if (pt_cmpR op_gt (pe_callB call_len (by rfl) m_len (by decide +kernel) (pa_cons (pv 1) pa_nil)) (pe_int) (nomark _))
    (pss_one (ps_ret (pe_tup (pa_cons (pe_str) (pa_cons (pe_str) (pa_cons (pe_bl) pa_nil))))))
    pss_nil)
    (pss_one (ps_ret (pe_tup (pa_cons (pe_str) (pa_cons (pv 0) (pa_cons (pe_callTy call_tuple_of (by rfl) m_tuple (by decide +kernel) (pa_cons (pv 1) pa_nil)) pa_nil))))))))), ?_⟩
    have lc : (cuesC L).length = L.length := List.length_map ..
    refine ⟨_, rfl, _, L.length, rfl, .inl ⟨_, SqL.of ha, (List.length_map ..).symm⟩, _, rfl, by omega, by omega, ?_⟩
    refine for_it (walk_range (lo := 0) (n := ((L.length : Nat) : Int).toNat)) (fun i σ H' => ∃ (lo : Int) (k3 k4 : Option V), σ = [some (.int (len : Nat)), some (.ref a), some (.int lo), k3, k4] ∧ H' = H ∧
      judge len 0 (cuesC L) = (judge len lo ((cuesC L).drop i)).map (· + i)) ⟨0, none, none, rfl, rfl, by simp⟩ (fun _ _ _ _ _ => trivial) ?_ ?_
    · rintro i x σ Ha Hb hi ⟨lo, k3, k4, rfl, rfl, hj⟩ ⟨rfl, rfl⟩
      have hi' : i < L.length := by rw [Int.toNat_natCast] at hi; exact hi
      obtain ⟨e, he⟩ : ∃ e, L[i]? = some e := ⟨_, List.getElem?_eq_getElem hi'⟩
      obtain ⟨eA, W⟩ := hL e (List.mem_of_getElem? he)
      have hA := SqT.of (K := K) eA
      have hat : atI (refsC L) (0 + (i : Nat)) = some (V.ref e.1) := by
        rw [Int.zero_add]
        exact atI_nat (by rw [List.getElem?_map, he]; rfl)
      have dr : (cuesC L).drop i = e.2 :: (cuesC L).drop (i + 1) := by
        have hlt : i < (cuesC L).length := by rw [lc]; exact hi'
        rw [List.drop_eq_getElem_cons hlt]
        congr 1
        have e1 : (cuesC L)[i]? = some e.2 := by rw [List.getElem?_map, he]; rfl
        exact (List.getElem?_eq_some_iff.mp e1).2
      have ret : okCue e.2 lo len = false → ∀ p, Hb p = none → Q (.ref p) (upd Hb p (.tup [.str (Str.ofString "BadCue"), .int (0 + (i : Nat)), .bl false])) := fun no p hp => by
        refine q _ p (same_new hp) (.inl ⟨i, ?_, by rw [upd_same, Int.zero_add]⟩)
        rw [hj, dr]
        show ((if okCue e.2 lo len = true then _ else _) : Option Nat).map _ = _
        rw [if_neg (by rw [no]; exact Bool.false_ne_true)]
        show some (0 + i) = some i
        rw [Nat.zero_add]
      refine ⟨_, rfl, _, rfl, a, _, _, _, rfl, rfl, SqL.of ha, hat, ?_⟩
      refine ⟨_, rfl, e.1, _, 0, _, rfl, rfl, hA, atI_nat (j := 0) rfl, _, rfl, _, _, rfl, rfl, _, rfl, ite2 (fun h => ?_) (fun h1 => ?_)⟩
      · exact ⟨_, rfl, (by show 3 ≤ sizeLine; decide), fun p hp => ret (ok_no (.inl (of_decide_eq_true h))) p hp⟩
      refine ⟨_, rfl, e.1, _, 0, _, rfl, rfl, hA, atI_nat (j := 0) rfl, _, rfl, e.1, _, 1, _, rfl, rfl, hA, atI_nat (j := 1) rfl, _, _, rfl, rfl, _, rfl, ite2 (fun h => ?_) (fun h2 => ?_)⟩
      · exact ⟨_, rfl, (by show 3 ≤ sizeLine; decide), fun p hp => ret (ok_no (.inr (.inl (of_decide_eq_true h)))) p hp⟩
      refine ⟨_, rfl, e.1, _, 1, _, rfl, rfl, hA, atI_nat (j := 1) rfl, _, rfl, _, _, rfl, rfl, _, rfl, ite2 (fun h => ?_) (fun h3 => ?_)⟩
      · exact ⟨_, rfl, (by show 3 ≤ sizeLine; decide), fun p hp => ret (ok_no (.inr (.inr (.inl (of_decide_eq_true h))))) p hp⟩
      refine ⟨_, rfl, e.1, _, 3, _, rfl, rfl, hA, atI_nat (j := 3) rfl, e.2.tx, rfl, Nat.le_of_lt (small1000 W.tx), _, _, rfl, rfl, _, rfl, ite2 (fun h => ?_) (fun h4 => ?_)⟩
      · refine ⟨_, rfl, (by show 3 ≤ sizeLine; decide), fun p hp => ret (ok_no (.inr (.inr (.inr ?_)))) p hp⟩
        have : (60 : Int) < (e.2.tx.length : Nat) := of_decide_eq_true h
        omega
      · have g1 : ¬ e.2.s < lo := fun z => h1 (decide_eq_true z)
        have g2 : ¬ e.2.e ≤ e.2.s := fun z => h2 (decide_eq_true z)
        have g3 : ¬ ((len : Nat) : Int) < e.2.e := fun z => h3 (decide_eq_true z)
        have g4 : ¬ (60 : Int) < (e.2.tx.length : Nat) := fun z => h4 (decide_eq_true z)
        have ok := ok_yes (lo := lo) (len := (len : Nat)) W (by omega) (by omega) (by omega) (by omega)
        refine ⟨_, rfl, e.1, _, 1, _, rfl, rfl, hA, atI_nat (j := 1) rfl, e.2.e, _, _, rfl, rfl, ?_⟩
        rw [hj, dr]
        show ((if okCue e.2 lo len = true then _ else _) : Option Nat).map _ = _
        rw [if_pos ok, Option.map_map]
        congr 1
        funext n
        show n + 1 + i = n + (i + 1)
        omega
    · rintro σ H' ⟨lo, k3, k4, rfl, rfl, hj⟩
      rw [Int.toNat_natCast, ← lc, List.drop_length] at hj
      have hj' : judge len 0 (cuesC L) = none := hj
      refine ⟨_, rfl, _, L.length, rfl, .inl ⟨_, SqL.of ha, (List.length_map ..).symm⟩, _, _, rfl, rfl, _, rfl, ite2 (fun h => ?_) (fun h => ?_)⟩
      · refine ⟨(by show 3 ≤ sizeLine; decide), fun p hp => q _ p (same_new hp) (.inr (.inl ⟨hj', ?_, upd_same⟩))⟩
        have : (40 : Int) < (L.length : Nat) := of_decide_eq_true h
        omega
      · refine ⟨_, rfl, _, rfl, a, _, rfl, .inl ⟨SqL.of ha, fun l hl => ⟨(by show 3 ≤ sizeLine; decide), fun p hp => ?_⟩⟩⟩
        have s1 := same_new (o := .tup (refsC L)) hl
        have s2 := same_new (o := .tup [.str (Str.ofString "reel"), .int (len : Nat), .ref l]) hp
        refine q _ p (s1.trans s2) (.inr (.inr ⟨hj', ?_, l, L, upd_same, s2 _ _ upd_same, rfl, fun e he => ((hL e he).1.keep s1).keep s2⟩))
        have : ¬ (40 : Int) < (L.length : Nat) := fun z => h (decide_eq_true z)
        omega
end
end Sea
namespace Sea
open PySem PySem.Spec PyProof.Rows L2
section
variable {P : Program} {w : World} {K : PySem.W.Frag} {mg : Str → Option Value} {base : Heap} {CB CM CLn CLi CE CR fR : Addr}
theorem ok_told {f : Addr} {fd : FuncData} (F : Fun K "_law_told" "_law_told" s__law_told f fd) (m_isinstance : mg "isinstance" = none) (T : RC K mg CR fR)
    (xB : XI P w K mg base "BadCue" "number" CB) (xM : XI P w K mg base "TooMany" "word" CM) (gLn : mg "BadLength" = some (.ref CLn)) (gLi : mg "BadLine" = some (.ref CLi)) (gE : mg "CaptionError" = some (.ref CE)) (x8 : EX8 K CB CM CLn CLi CE)
    (c_read_reel : CalX P w K mg base 7 "read_reel" (spRead CR CB CM)) : FnOk P w K mg base CX0 8 f fd ["_law_lines_here"] spTold := by
  obtain ⟨fIB, fdB, XB, FB, bB⟩ := xB.ex
  obtain ⟨fIM, fdM, XM, FM, bM⟩ := xM.ex
  refine F.ok sc__law_told (fun vs H Q E h => ?_) (fun cdv A outer s H vs Q E hr h => ?_)
  · obtain ⟨la, len, cs, rfl, _⟩ := h
    rfl
  · obtain ⟨la, len, cs, rfl, hl, l1, l2, hW, hsz, q⟩ := h
    refine ⟨_, (pss_cons (ps_try_cl (Wo := fun _ _ _ _ => False) (tb := fun W => tAsg (tCallSD (spRead CR CB CM) [] (WE W) (tCons (tVar 0) tNil)) (gName 1)) rfl rfl sc__law_told.nd takes0
        (fun W pn xe tk _ => by
          refine pss_one (ps_set (i := 1) sc__law_told.nd rfl (Or.inl rfl) ?_)
          refine pe_cX (k := 7) (j := 7) (sp := spRead CR CB CM) ?_ ?_ ?_ ?_ ?_ ?_
          · exact c_read_reel
          · exact hr
          · decide
          · rfl
          · exact (fun σ => passAt tk σ)
          · exact (pa_cons (pv 0) pa_nil))
        (.named (i := 2) ⟨rfl, by decide, .inl XB.gC⟩ rfl rfl (fun a oe cls d pn hz hf => (pss_one (ps_ret (pe_tup (pa_cons (pe_str) (pa_cons (pe_xf XB.xf XB.no hz hf (pv 2)) (pa_cons (pe_callB (call_ask hz hf) (by rfl) m_isinstance (by decide +kernel) (pa_cons (pv 2) (pa_cons (pe_tup (pa_cons (pe_glob (v := .ref CLn) rfl gLn rfl) (pa_cons (pe_glob (v := .ref CLi) rfl gLi rfl) (pa_cons (pe_glob (v := .ref CM) rfl XM.gC rfl) pa_nil)))) pa_nil))) pa_nil)))))))
        (.named (i := 2) ⟨rfl, by decide, .inl XM.gC⟩ rfl rfl (fun a oe cls d pn hz hf => (pss_one (ps_ret (pe_tup (pa_cons (pe_str) (pa_cons (pe_xf XM.xf XM.no hz hf (pv 2)) (pa_cons (pe_callB (call_ask hz hf) (by rfl) m_isinstance (by decide +kernel) (pa_cons (pv 2) (pa_cons (pe_tup (pa_cons (pe_glob (v := .ref CB) rfl XB.gC rfl) (pa_cons (pe_glob (v := .ref CLn) rfl gLn rfl) (pa_cons (pe_glob (v := .ref CLi) rfl gLi rfl) pa_nil)))) pa_nil))) pa_nil)))))))
        (.bare ⟨rfl, by decide, .inl gE⟩ (fun a oe cls d pn hz hf => (pss_one (ps_ret (pe_tup (pa_cons (pe_str) pa_nil))))) .nil))))
      (pss_cons (ps_if (pt_not (pt_val (pe_callB call_isi (by rfl) m_isinstance (by decide +kernel) (pa_cons (pv 1) (pa_cons (pe_glob (v := .ref CR) rfl T.g rfl) pa_nil)))))
    (pss_one (ps_ret (pe_tup (pa_cons (pe_str) pa_nil))))
    pss_nil)
    (pss_one (ps_ret (pe_tup (pa_cons (pe_str) (pa_cons (pe_fld (pv 1) rfl) (pa_cons (pe_fld (pv 1) rfl) pa_nil)))))))), ?_⟩
    refine ⟨_, rfl, la, len, cs, rfl, hl, l1, l2, hW, hsz, fun k hk H1 d s1 hd => ?_, fun hk hn H1 d s1 hd => ?_, fun hk hn H1 x L s1 hR hc => ?_⟩
    · refine ⟨true, x8.bb, fun _ a ha => ?_, (fun z => nomatch z)⟩
      refine ⟨_, rfl, rfl, rfl, d, _, _, rfl, upd_same, rfl, _, rfl, (by show 3 ≤ sizeLine; decide), fun p hp => ?_⟩
      have hd2 : (upd H1 d (.xd [(("number" : Str), .int (k : Nat))])) d = some (.xd [(("number" : Str), .int (k : Nat))]) := upd_same
      refine ⟨CB, d, _, .ref p, false, rfl, rfl, XB.ask, (same_new hp) _ _ hd2, rfl, .inr ⟨p, _, _, rfl, upd_same, .cons (.own _) (.cons (.own _) (.cons (.own _) .nil)), x8.kb⟩, (by show 3 ≤ sizeLine; decide), fun t ht => ?_⟩
      exact q _ t (((s1.trans (same_new hd)).trans (same_new hp)).trans (same_new ht)) (.inl ⟨k, hk, upd_same⟩)
    · refine ⟨false, x8.mb, (fun z => nomatch z), fun _ => ⟨true, x8.mm, fun _ a ha => ?_, (fun z => nomatch z)⟩⟩
      refine ⟨_, rfl, rfl, rfl, d, _, _, rfl, upd_same, rfl, _, rfl, (by show 3 ≤ sizeLine; decide), fun p hp => ?_⟩
      have hd2 : (upd H1 d (.xd [(("word" : Str), .str (Str.ofString "cue"))])) d = some (.xd [(("word" : Str), .str (Str.ofString "cue"))]) := upd_same
      refine ⟨CM, d, _, .ref p, false, rfl, rfl, XM.ask, (same_new hp) _ _ hd2, rfl, .inr ⟨p, _, _, rfl, upd_same, .cons (.own _) (.cons (.own _) (.cons (.own _) .nil)), x8.km⟩, (by show 3 ≤ sizeLine; decide), fun t ht => ?_⟩
      exact q _ t (((s1.trans (same_new hd)).trans (same_new hp)).trans (same_new ht)) (.inr (.inl ⟨hk, hn, upd_same⟩))
    · obtain ⟨dx, t, c, d, hx, ht, hat⟩ := hR
      refine ⟨_, rfl, _, _, _, _, true, rfl, .own CR, .base (.ins hx T.cl T.kl T.gt T.tk T.mr), if_pos (beq_self_eq_true _), true, rfl, ?_⟩
      refine ⟨_, rfl, x, CR, dx, _, _, rfl, hx, T.cl, T.nL, reel_length _ _ _ _, _, rfl, x, CR, dx, _, _, rfl, hx, T.cl, T.nC, reel_cues _ _ _ _, (by show 3 ≤ sizeLine; decide), fun p hp => ?_⟩
      have sp := same_new (o := .tup [.str (Str.ofString "reel"), .int (len : Nat), .ref t]) hp
      exact q _ p (s1.trans sp) (.inr (.inr ⟨hk, hn, t, L, upd_same, sp _ _ ht, hc, fun e he => (hat e he).keep sp⟩))
end
/-! what is told is what is due -/
theorem paired_at {α β : Type} {R : α → β → Prop} : ∀ {l : List α} {r : List β}, Paired R l r → l.length = r.length ∧ ∀ (i : Nat) (u : α) (v : β), l[i]? = some u → r[i]? = some v → R u v
  | _, _, .nil => ⟨rfl, fun i u v h _ => by cases i <;> cases h⟩
  | _, _, .cons h t => by
    obtain ⟨e, q⟩ := paired_at t
    refine ⟨congrArg (· + 1) e, fun i u v h1 h2 => ?_⟩
    cases i with
    | zero =>
      cases h1
      cases h2
      exact h
    | succ i => exact q i u v h1 h2
theorem same_tup {n : Nat} {H : Hp} {a b : Addr} {xs ys : List V} (ha : H a = some (.tup xs)) (hb : H b = some (.tup ys)) (hl : ys.length ≤ 1000) (h : Paired (SameV n H) xs ys) : SameV (n + 1) H (.ref a) (.ref b) :=
  .inr ⟨a, b, xs, ys, rfl, rfl, ha, hb, (paired_at h).1, hl, (paired_at h).2⟩
theorem same_eq {n : Nat} {H : Hp} {x : V} (h : Plain x) : SameV n H x x := by
  cases n with
  | zero => exact ⟨h, rfl⟩
  | succ n => exact .inl ⟨h, rfl⟩
theorem same_cues {H : Hp} : ∀ {L M : List (Addr × Cue)}, cuesC L = cuesC M → (∀ e ∈ L, At H e) → (∀ e ∈ M, At H e) → Paired (SameV 1 H) (refsC L) (refsC M)
  | [], [], _, _, _ => .nil
  | [], _ :: _, h, _, _ => by cases h
  | _ :: _, [], h, _, _ => by cases h
  | e :: r, g :: q, h, h1, h2 => by
    have e1 : e.2 = g.2 := (List.cons.inj h).1
    have hA : At H e := h1 e List.mem_cons_self
    have hB : At H g := h2 g List.mem_cons_self
    have hA' : H e.1 = some (.tup g.2.vs) := by
      have : H e.1 = some (.tup e.2.vs) := hA
      rw [e1] at this
      exact this
    exact .cons (same_tup hA' hB (by show 4 ≤ 1000; decide) (.cons (same_eq trivial) (.cons (same_eq trivial) (.cons (same_eq trivial) (.cons (same_eq trivial) .nil)))))
      (same_cues (List.cons.inj h).2 (fun d hd => h1 d (List.mem_cons_of_mem _ hd)) fun d hd => h2 d (List.mem_cons_of_mem _ hd))
theorem same_dueL {len : Nat} {cs : List Cue} {H : Hp} {p b : Addr} (h : DueL len cs H p) (g : DueL len cs H b) : SameV 3 H (.ref p) (.ref b) := by
  rcases h with ⟨k, h1, h2⟩ | ⟨h1, h2, h3⟩ | ⟨h1, h2, t, L, h3, h4, h5, h6⟩ <;> rcases g with ⟨j, g1, g2⟩ | ⟨g1, g2, g3⟩ | ⟨g1, g2, u, M, g3, g4, g5, g6⟩
  · rw [h1] at g1
    cases g1
    exact same_tup h2 g2 (by simp) (.cons (same_eq trivial) (.cons (same_eq trivial) (.cons (same_eq trivial) .nil)))
  · rw [h1] at g1
    cases g1
  · rw [h1] at g1
    cases g1
  · rw [h1] at g1
    cases g1
  · exact same_tup h3 g3 (by simp) (.cons (same_eq trivial) (.cons (same_eq trivial) (.cons (same_eq trivial) .nil)))
  · omega
  · rw [h1] at g1
    cases g1
  · omega
  · have lM : (refsC M).length ≤ 1000 := by
      rw [List.length_map]
      have := congrArg List.length g5
      rw [List.length_map] at this
      omega
    exact same_tup h3 g3 (by simp) (.cons (same_eq trivial) (.cons (same_eq trivial) (.cons (same_tup h4 g4 lM (same_cues (h5.trans g5.symm) h6 g6)) .nil)))
theorem same_strs {H : Hp} : ∀ ss : List Str, Paired (SameV 0 H) (ss.map V.str) (ss.map V.str)
  | [] => .nil
  | _ :: r => .cons (same_eq trivial) (same_strs r)
end Sea
namespace Sea
open PySem PySem.Spec PyProof.Rows L2
/-! what is right of a length and cues -/
theorem cutV_to (xs : List V) (k : Nat) (i : Int) (e : i = (k : Int)) : cutV xs none (some i) = xs.take k := by
  subst e
  unfold cutV
  rw [HT.sIx_none, HT.sIx_nat]
  show (xs.drop 0).take (min k xs.length - 0) = xs.take k
  rw [List.drop_zero, Nat.sub_zero]
  exact List.take_eq_take_min.symm
theorem asc_nm {c : Cue} (W : CueW c) : AscS c.nm := fun k hk => by
  have := W.nm.sign k hk
  omega
theorem asc_tx {c : Cue} (W : CueW c) : AscS c.tx := fun k hk => by
  obtain ⟨ws, _, hw, e⟩ := W.wd
  rw [e, TL.join_eq, join_cp] at hk
  have h1 := List.mem_of_mem_drop hk
  have h2 := sign_flat (ws := ws.map cp) (fun v hv => by
    obtain ⟨z, hz, rfl⟩ := List.mem_map.mp hv
    exact hw z hz) k h1
  omega
theorem asc_app {a b : Str} (h1 : AscS a) (h2 : AscS b) : AscS (a ++ b) := fun c hc => by
  rw [app_cp] at hc
  rcases List.mem_append.mp hc with h | h
  · exact h1 c h
  · exact h2 c h
theorem asc_num (n : Nat) : AscS (numS n) := fun c hc => by
  have := num_dig hc
  omega
theorem asc_line {c : Cue} (W : CueW c) : AscS (lineC c) := by
  have b : AscS B1 := fun k hk => by
    rw [blank_cp] at hk
    rw [List.mem_singleton.mp hk]
    decide
  have c4 : AscS (Str.ofString "cue ") := fun k hk => by
    have : ∀ k ∈ cp (Str.ofString "cue "), k < 1114112 := by decide +kernel
    exact this k hk
  exact asc_app (asc_app (asc_app (asc_app (asc_app (asc_app (asc_app c4 (asc_num _)) b) (asc_num _)) b) (asc_nm W)) b) (asc_tx W)
theorem asc_reel (n : Nat) : AscS (lineR n) := asc_app (fun k hk => by
  have : ∀ k ∈ cp (Str.ofString "reel "), k < 1114112 := by decide +kernel
  exact this k hk) (asc_num _)
theorem asc_lines {len : Nat} {cs : List Cue} (h : ∀ c ∈ cs, CueW c) : ∀ z ∈ lineR len :: cs.map lineC, AscS z := fun z hz => by
  rcases List.mem_cons.mp hz with e | hz
  · rw [e]
    exact asc_reel len
  · obtain ⟨c, hc, rfl⟩ := List.mem_map.mp hz
    exact asc_line (h c hc)
theorem judge_lt {len : Int} : ∀ {cs : List Cue} {lo : Int} {k : Nat}, judge len lo cs = some k → k < cs.length
  | [], _, _, h => by cases h
  | c :: r, lo, k, h => by
    have h' : (if okCue c lo len = true then (judge len c.e r).map (· + 1) else some 0) = some k := h
    by_cases ok : okCue c lo len = true
    · rw [if_pos ok] at h'
      cases e : judge len c.e r with
      | none => rw [e] at h'; cases h'
      | some j =>
        rw [e] at h'
        have : j + 1 = k := Option.some.inj h'
        have := judge_lt e
        rw [List.length_cons]
        omega
    · rw [if_neg ok] at h'
      have : 0 = k := Option.some.inj h'
      rw [List.length_cons]
      omega
/-- a length and cues at r -/
structure LenCues (H : Hp) (r : Addr) (len : Nat) (L : List (Addr × Cue)) : Prop where
  ex : ∃ a, H r = some (.lst [.int (len : Nat), .ref a]) ∧ H a = some (.lst (refsC L))
  ok : ∀ e ∈ L, At H e ∧ CueW e.2 ∧ e.2.tx.length ≤ 900
  l1 : 1 ≤ len
  l2 : len ≤ 2000
  few : L.length ≤ 60
def spRight : Sp := fun vs H Q _ => ∃ (r : Addr) (len : Nat) (L : List (Addr × Cue)), vs = [.ref r] ∧ LenCues H r len L ∧ ∀ H', Same H H' → Q (.bl true) H'
theorem same_strsN {n : Nat} {H : Hp} : ∀ ss : List Str, Paired (SameV n H) (ss.map V.str) (ss.map V.str)
  | [] => .nil
  | _ :: r => .cons (same_eq trivial) (same_strsN r)
theorem LenCues.keep {H H' : Hp} {r : Addr} {len : Nat} {L : List (Addr × Cue)} (h : LenCues H r len L) (s : Same H H') : LenCues H' r len L := by
  obtain ⟨⟨a, h1, h2⟩, h3, h4, h5, h6⟩ := h
  exact ⟨⟨a, s _ _ h1, s _ _ h2⟩, fun e he => ⟨(h3 e he).1.keep s, (h3 e he).2⟩, h4, h5, h6⟩
section
variable {P : Program} {w : World} {K : PySem.W.Frag} {mg : Str → Option Value} {base : Heap} {CB CM CR fR fE : Addr}
theorem ok_right {f : Addr} {fd : FuncData} (F : Fun K "_law_right" "_law_right" s__law_right f fd) (m_list : mg "list" = none) (m_tuple : mg "tuple" = none) (T : RC K mg CR fR)
    {fdR : FuncData} (FR : FnOk P w K mg base (L2.CX P w) 5 fR fdR ["self", "length", "cues"] (spReel CR CB CM)) (bR : Binds K fdR ["self", "length", "cues"] [])
    {fdE : FuncData} (FE : FnOk P w K mg base CX0 1 fE fdE ["self", "other"] (spReelEq CR)) (bE : Binds K fdE ["self", "other"] []) (hE : PySem.W.findIn K (.ref CR) "__eq__" = some (some (.ref fE))) (iE : PySem.W.isFn K (.ref fE) = true)
    (c__law_lines : Cal P w K mg base 1 "_law_lines" spLines) (c__law_due : Cal P w K mg base 1 "_law_due" spDue) (c__law_same : Cal P w K mg base 4 "_law_same" (spSame 3)) (c__law_told : Cal P w K mg base 8 "_law_told" spTold)
    (c_write_reel : Cal P w K mg base 1 "write_reel" (spWrite CR)) (c_read_reel : CalX P w K mg base 7 "read_reel" (spRead CR CB CM)) : FnOk P w K mg base CX0 9 f fd ["_law_told_here"] spRight := by
  refine F.ok sc__law_right (fun vs H Q E h => ?_) (fun cdv A outer s H vs Q E hr h => ?_)
  · obtain ⟨r, len, L, rfl, _⟩ := h
    rfl
  · obtain ⟨r, len, L, rfl, ⟨⟨a, hr0, ha⟩, hL, l1, l2, hsz⟩, q⟩ := h
    refine ⟨_, (pss_cons (ps_set (i := 1) sc__law_right.nd rfl (Or.inl rfl) (pe_c c__law_lines hr (by decide) rfl (pa_cons (pe_ix ix_list (pv 0) (pe_int) (fun _ _ => rfl)) (pa_cons (pe_ix ix_list (pv 0) (pe_int) (fun _ _ => rfl)) pa_nil))))
    (pss_cons (ps_set (i := 2) sc__law_right.nd rfl (Or.inl rfl) (pe_callTy call_list_of (by rfl) m_list (by decide +kernel) (pa_cons (pv 1) pa_nil)))
    (pss_cons (ps_set (i := 3) sc__law_right.nd rfl (Or.inl rfl) (pe_c c__law_due hr (by decide) rfl (pa_cons (pe_ix ix_list (pv 0) (pe_int) (fun _ _ => rfl)) (pa_cons (pe_ix ix_list (pv 0) (pe_int) (fun _ _ => rfl)) pa_nil))))
    (pss_cons (ps_if (PW.pt (pw_or (pt_not (pt_val (pe_c c__law_same hr (by decide) rfl (pa_cons (pe_c c__law_told hr (by decide) rfl (pa_cons (pe_callTy call_tuple_of (by rfl) m_tuple (by decide +kernel) (pa_cons (pv 1) pa_nil)) pa_nil)) (pa_cons (pv 3) pa_nil))))) (pw_or1 (pt_not (pt_val (pe_c c__law_same hr (by decide) rfl (pa_cons (pe_c c__law_told hr (by decide) rfl (pa_cons (pv 1) pa_nil)) (pa_cons (pv 3) pa_nil))))))))
    (pss_one (ps_ret (pe_bl)))
    pss_nil)
    (pss_cons (ps_if (pt_cmpR (op_neD hr.units) (pv 1) (pv 2) (nomark _))
    (pss_one (ps_ret (pe_bl)))
    pss_nil)
    (pss_cons (ps_if (pt_cmpR op_eq (pe_ix ix_tup (pv 3) (pe_int) (fun _ _ => rfl)) (pe_str) (nomark _))
    (pss_cons (ps_set (i := 4) sc__law_right.nd rfl (Or.inl rfl) (pe_make (E := E0) T.made FR (hr.mono (by decide)) rfl T.g bR .nil (passes_call takes0 (fun _ _ _ _ h => h)) (pa_cons (pe_ix ix_list (pv 0) (pe_int) (fun _ _ => rfl)) (pa_cons (pe_ix ix_list (pv 0) (pe_int) (fun _ _ => rfl)) pa_nil))))
    (pss_one (ps_ret (pe_and (pe_c c__law_same hr (by decide) rfl (pa_cons (pe_c c_write_reel hr (by decide) rfl (pa_cons (pv 4) pa_nil)) (pa_cons (pe_callTy call_tuple_of (by rfl) m_tuple (by decide +kernel) (pa_cons (pv 2) pa_nil)) pa_nil))) (pe_one (pe_cmpR (op_ownEq FE hr (by decide) hE iE bE) (show PE _ _ (tCallSD (spRead CR CB CM) [] (WE fun _ _ _ _ => False) (tCons (tVar 2) tNil)) by
          refine pe_cX (k := 7) (j := 8) (sp := spRead CR CB CM) ?_ ?_ ?_ ?_ ?_ ?_
          · exact c_read_reel
          · exact hr
          · decide
          · rfl
          · exact (fun σ => passAt takes0 σ)
          · exact (pa_cons (pv 2) pa_nil)) (pv 4) (nomark _)))))))
    pss_nil)
    (C8.pss_cut (ps_set (i := 5) sc__law_right.nd rfl (Or.inl rfl) (pe_ifExp (pt_cmpR op_eq (pe_ix ix_tup (pv 3) (pe_int) (fun _ _ => rfl)) (pe_str) (nomark _)) (pe_ix ix_tup (pv 3) (pe_int) (fun _ _ => rfl)) (pe_int)))
    (pss_one (ps_ret (pe_c c__law_same hr (by decide) rfl (pa_cons (pe_c c__law_told hr (by decide) rfl (pa_cons (pe_slice sl_list (pv 1) po_none (po_some (pe_op op_add (pv 5) (pe_int)))) pa_nil)) (pa_cons (pe_c c__law_due hr (by decide) rfl (pa_cons (pe_ix ix_list (pv 0) (pe_int) (fun _ _ => rfl)) (pa_cons (pe_slice sl_list (pe_ix ix_list (pv 0) (pe_int) (fun _ _ => rfl)) po_none (po_some (pv 5))) pa_nil))) pa_nil)))))))))))), ?_⟩
    have at0 : atI [V.int (len : Nat), V.ref a] 0 = some (.int (len : Nat)) := atI_nat (j := 0) rfl
    have at1 : atI [V.int (len : Nat), V.ref a] 1 = some (.ref a) := atI_nat (j := 1) rfl
    have hW : ∀ c ∈ cuesC L, CueW c ∧ c.tx.length ≤ 900 := fun c hc => by
      obtain ⟨e, he, rfl⟩ := List.mem_map.mp hc
      exact (hL e he).2
    have few : (cuesC L).length ≤ 60 := by rw [List.length_map]; exact hsz
    have lc : (cuesC L).length = L.length := List.length_map ..
    refine ⟨_, rfl, r, _, 0, _, rfl, rfl, SqL.of hr0, at0, _, rfl, r, _, 1, _, rfl, rfl, SqL.of hr0, at1, a, len, L, rfl, ha, hL, l2, by omega, fun H1 p1 s1 h1 => ?_⟩
    refine ⟨_, rfl, p1, _, rfl, .inl (SqL.of h1), fun kp hkp => ?_⟩
    have s2 := same_new (o := .lst ((lineR len :: (cuesC L).map lineC).map V.str)) hkp
    have S2 := s1.trans s2
    have k2 : (upd H1 kp (.lst ((lineR len :: (cuesC L).map lineC).map V.str))) kp = some (.lst ((lineR len :: (cuesC L).map lineC).map V.str)) := upd_same
    generalize hH2 : (upd H1 kp (.lst ((lineR len :: (cuesC L).map lineC).map V.str))) = H2 at s2 S2 k2 ⊢
    have r2 := S2 _ _ hr0
    refine ⟨_, rfl, r, _, 0, _, rfl, rfl, SqL.of r2, at0, _, rfl, r, _, 1, _, rfl, rfl, SqL.of r2, at1, a, len, L, rfl, S2 _ _ ha, fun e he => ⟨(hL e he).1.keep S2, (hL e he).2.1⟩, by omega, fun H3 b s3 hb => ?_⟩
    have S3 := S2.trans s3
    have p3 := s3 _ _ (s2 _ _ h1)
    have k3 := s3 _ _ k2
    refine ⟨_, rfl, p1, _, rfl, .inl ⟨SqL.of p3, fun tl htl => ⟨tl, len, cuesC L, rfl, .inr upd_same, l1, l2, hW, by omega, fun H5 p5 s5 h5 => ?_⟩⟩⟩
    have s35 := (same_new (o := .tup ((lineR len :: (cuesC L).map lineC).map V.str)) htl).trans s5
    refine ⟨_, rfl, .ref p5, .ref b, rfl, same_dueL h5 (hb.keep s35), fun H6 s6 => ⟨_, rfl, ?_⟩⟩
    have s36 := s35.trans s6
    refine ⟨_, rfl, p1, len, cuesC L, rfl, .inl (s36 _ _ p3), l1, l2, hW, by omega, fun H7 p7 s7 h7 => ⟨_, rfl, .ref p7, .ref b, rfl, same_dueL h7 (hb.keep (s36.trans s7)), fun H8 s8 => ⟨_, rfl, ?_⟩⟩⟩
    have s38 := (s36.trans s7).trans s8
    have S8 := S3.trans s38
    have p8 := s38 _ _ p3
    have k8 := s38 _ _ k3
    have b8 := hb.keep s38
    have asc := asc_lines (len := len) (fun c hc => (hW c hc).1)
    refine ⟨_, rfl, _, rfl, _, _, .lst (SqL.of p8) (dp_strs _), .lst (SqL.of k8) (dp_strs _), strs_shaped asc, strs_shaped asc, _, rfl, ?_⟩
    have eq1 : PyData.eqv (.list ((lineR len :: (cuesC L).map lineC).map .str)) (.list ((lineR len :: (cuesC L).map lineC).map .str)) = true := by
      show PyData.eqvAll _ _ = true
      rw [strs_eqv, decide_eq_true rfl]
    rw [eq1]
    -- the rest, for so many cues
    have nr : decide (V.str (Str.ofString "BadCue") = V.str (Str.ofString "reel")) = false := by decide +kernel
    have nt : decide (V.str (Str.ofString "TooMany") = V.str (Str.ofString "reel")) = false := by decide +kernel
    have nb : decide (V.str (Str.ofString "TooMany") = V.str (Str.ofString "BadCue")) = false := by decide +kernel
    have ways : (∃ (s0 : Str) (v1 : V) (n : Nat), H8 b = some (.tup [.str s0, v1, .bl false]) ∧ decide (V.str s0 = V.str (Str.ofString "reel")) = false ∧
        ((decide (V.str s0 = V.str (Str.ofString "BadCue")) = true ∧ v1 = .int (n : Nat)) ∨ (decide (V.str s0 = V.str (Str.ofString "BadCue")) = false ∧ n = 40))) ∨
        (judge len 0 (cuesC L) = none ∧ (cuesC L).length ≤ 40 ∧ ∃ t M, H8 b = some (.tup [.str (Str.ofString "reel"), .int (len : Nat), .ref t]) ∧ H8 t = some (.tup (refsC M)) ∧ cuesC M = cuesC L ∧ ∀ e ∈ M, At H8 e) := by
      rcases b8 with ⟨k, _, h⟩ | ⟨_, _, h⟩ | h
      · exact .inl ⟨_, _, k, h, nr, .inl ⟨decide_eq_true rfl, rfl⟩⟩
      · exact .inl ⟨_, _, 40, h, nt, .inr ⟨nb, rfl⟩⟩
      · exact .inr h
    rcases ways with ⟨s0, v1, n, hb8, e1, e2⟩ | ⟨j1, j2, t, M, hb8, ht, hc, hat⟩
    · refine ⟨_, rfl, b, _, 0, _, rfl, rfl, SqT.of hb8, atI_nat (j := 0) rfl, rfl, _, rfl, ?_⟩
      rw [e1]
      refine ⟨fun σ' H' => σ' = [some (.ref r), some (.ref p1), some (.ref kp), some (.ref b), none, some (.int (n : Nat))] ∧ H' = H8, ?_, ?_⟩
      · refine ⟨_, rfl, b, _, 0, _, rfl, rfl, SqT.of hb8, atI_nat (j := 0) rfl, rfl, _, rfl, ?_⟩
        rcases e2 with ⟨e2, e3⟩ | ⟨e2, e3⟩
        · rw [e2]
          refine iteT ⟨_, rfl, b, _, 1, _, rfl, rfl, SqT.of hb8, atI_nat (j := 1) rfl, ?_⟩
          rw [e3]
          exact ⟨rfl, rfl⟩
        · rw [e2]
          refine iteF ?_
          rw [e3]
          exact ⟨rfl, rfl⟩
      · rintro σ' H' ⟨rfl, rfl⟩
        have r8 := S8 _ _ hr0
        have a8 := S8 _ _ ha
        refine ⟨_, rfl, _, rfl, _, _, rfl, rfl, _, rfl, p1, _, rfl, SqL.of p8, fun lp hlp => ?_⟩
        have tk1 : cutV ((lineR len :: (cuesC L).map lineC).map V.str) none (some ((n : Nat) + 1)) = (lineR len :: (cuesC (L.take n)).map lineC).map V.str := by
          rw [cutV_to _ (n + 1) _ (by omega)]
          show List.take (n + 1) (V.str (lineR len) :: List.map V.str (List.map lineC (List.map (·.2) L))) = V.str (lineR len) :: List.map V.str (List.map lineC (List.map (·.2) (L.take n)))
          rw [List.take_succ_cons, ← List.map_take, ← List.map_take, ← List.map_take]
        rw [tk1]
        have sl := same_new (o := .lst ((lineR len :: (cuesC (L.take n)).map lineC).map V.str)) hlp
        have hW' : ∀ c ∈ cuesC (L.take n), CueW c ∧ c.tx.length ≤ 900 := fun c hc => by
          obtain ⟨e, he, rfl⟩ := List.mem_map.mp hc
          exact (hL e (List.mem_of_mem_take he)).2
        have few' : (cuesC (L.take n)).length ≤ 100 := by
          rw [List.length_map, List.length_take]
          omega
        refine ⟨lp, len, cuesC (L.take n), rfl, .inl upd_same, l1, l2, hW', few', fun H9 p9 s9 h9 => ?_⟩
        have s89 := sl.trans s9
        have r9 := s89 _ _ r8
        have a9 := s89 _ _ a8
        refine ⟨_, rfl, r, _, 0, _, rfl, rfl, SqL.of r9, at0, _, rfl, r, _, 1, _, rfl, rfl, SqL.of r9, at1, _, rfl, _, rfl, a, _, rfl, SqL.of a9, fun ap hap => ?_⟩
        have tk2 : cutV (refsC L) none (some ((n : Nat) : Int)) = refsC (L.take n) := by
          rw [cutV_to _ n _ rfl]
          exact List.map_take.symm
        rw [tk2]
        have sa := same_new (o := .lst (refsC (L.take n))) hap
        have S9 := (S8.trans s89).trans sa
        refine ⟨ap, len, L.take n, rfl, upd_same, fun e he => ⟨(hL e (List.mem_of_mem_take he)).1.keep S9, (hL e (List.mem_of_mem_take he)).2.1⟩, by rw [List.length_take]; omega, fun H10 p10 s10 h10 => ?_⟩
        exact ⟨.ref p9, .ref p10, rfl, same_dueL (h9.keep (sa.trans s10)) h10, fun H11 s11 => q H11 ((S9.trans s10).trans s11)⟩
    · refine ⟨_, rfl, b, _, 0, _, rfl, rfl, SqT.of hb8, atI_nat (j := 0) rfl, rfl, _, rfl, ?_⟩
      rw [decide_eq_true rfl]
      have r8 := S8 _ _ hr0
      have a8 := S8 _ _ ha
      refine ⟨_, rfl, r, _, 0, _, rfl, rfl, SqL.of r8, at0, _, rfl, r, _, 1, _, rfl, rfl, SqL.of r8, at1, fun x dx hx hdx ne => ?_⟩
      have sN : Same H8 (upd (upd H8 dx (.own x)) x (.ins CR dx [])) := fun c o e => by
        rw [upd_ne (ne_of_none e hx), upd_ne (ne_of_none e hdx)]
        exact e
      refine ⟨x, dx, a, L, len, rfl, upd_same, by omega, by omega, .inr (sN _ _ a8), fun e he => ⟨((hL e he).1.keep S8).keep sN, (hL e he).2.1⟩, by omega, fun k hk => ?_, fun hk hn => ?_, fun hk hn H9 L' kb hR hc' => ⟨rfl, ?_⟩⟩
      · rw [j1] at hk
        cases hk
      · omega
      have s9 : Same H8 H9 := fun c o e => kb c o (ne_of_none e hx) (sN c o e)
      have hWm : ∀ e ∈ L', CueW e.2 ∧ e.2.tx.length ≤ 900 := fun e he => hW _ (hc' ▸ List.mem_map_of_mem (f := fun e : Addr × Cue => e.2) he)
      have lm : L'.length = L.length := len_cues hc'
      refine ⟨_, rfl, x, len, L', rfl, hR, hWm, l2, by omega, fun H10 pw s10 hw => ?_⟩
      rw [hc'] at hw
      have s8a := s9.trans s10
      refine ⟨_, rfl, kp, _, rfl, .inl ⟨SqL.of (s8a _ _ k8), fun kt hkt => ?_⟩⟩
      have sk := same_new (o := .tup ((lineR len :: (cuesC L).map lineC).map V.str)) hkt
      have lstr : ((lineR len :: (cuesC L).map lineC).map V.str).length ≤ 1000 := by
        rw [List.length_map, List.length_cons, List.length_map]
        omega
      refine ⟨.ref pw, .ref kt, rfl, same_tup (sk _ _ hw) upd_same lstr (same_strsN _), fun H11 s11 => ⟨true, rfl, iteT ?_⟩⟩
      have s8b := (s8a.trans sk).trans s11
      refine ⟨_, rfl, kp, len, cuesC L, rfl, .inl (s8b _ _ k8), l1, l2, hW, by omega, fun k hk => ?_, fun hk hn => ?_, fun hk hn H12 y L2 s12 hR2 hc2 => ?_⟩
      · rw [j1] at hk
        cases hk
      · omega
      have sx := ((s10.trans sk).trans s11).trans s12
      have hRx : ReelAt H12 CR x len L' := by
        obtain ⟨d1, t1, c1, c2, g1, g2, g3⟩ := hR
        exact ⟨d1, t1, c1, c2, sx _ _ g1, sx _ _ g2, fun e he => (g3 e he).keep sx⟩
      obtain ⟨d1, t1, c1, c2, g1, g2, g3⟩ := id hRx
      obtain ⟨d2, t2, f1, f2, y1, y2, y3⟩ := id hR2
      refine ⟨_, rfl, y, x, d2, d1, _, _, rfl, rfl, y1, g1, y, x, len, len, L2, L', rfl, hR2, hRx, ?_, ?_, ⟨_, rfl⟩, ?_⟩
      · intro c hc
        rw [hc2] at hc
        exact ⟨asc_nm (hW c hc).1, asc_tx (hW c hc).1⟩
      · intro c hc
        rw [hc'] at hc
        exact ⟨asc_nm (hW c hc).1, asc_tx (hW c hc).1⟩
      · rw [decide_eq_true (show ((len : Nat) : Int) = ((len : Nat) : Int) ∧ cuesC L2 = cuesC L' from ⟨rfl, hc2.trans hc'.symm⟩)]
        exact q H12 ((S8.trans s8b).trans s12)
end
end Sea
namespace Sea
open PySem PySem.Spec PyProof.Rows L2
/-! the texts of the law's cues -/
/-- a text that a cue of this law bears -/
structure TextC (z : Str) : Prop where
  few : z.length ≤ 100
  wd : ∃ ws : List Str, ws ≠ [] ∧ (∀ y ∈ ws, Wd (cp y)) ∧ z = Txt.join B1 ws
  gd : z.length ≤ 60 → Good (cp z)
theorem split_words : ∀ (n : Nat) (l : List Nat), l.length ≤ n → l ≠ [] → (∀ c ∈ l, 32 ≤ c ∧ c ≤ 126 ∧ c ≠ 37) → l[0]? ≠ some 32 → l[l.length - 1]? ≠ some 32 → twin l = false →
    ∃ ws : List (List Nat), ws ≠ [] ∧ (∀ v ∈ ws, Wd v) ∧ 32 :: l = flat ws := by
  intro n
  induction n with
  | zero =>
    intro l hl hne
    exact absurd (List.length_eq_zero_iff.mp (Nat.le_zero.mp hl)) hne
  | succ n ih =>
    intro l hl hne hs h0 hlast tw
    cases l with
    | nil => exact absurd rfl hne
    | cons c r =>
      have c32 : c ≠ 32 := fun e => h0 (by rw [e]; rfl)
      have sc : Sgn c := by
        have := hs c List.mem_cons_self
        exact ⟨by omega, this.2.1, this.2.2⟩
      cases r with
      | nil => exact ⟨[[c]], by simp, fun v hv => by rw [List.mem_singleton.mp hv]; exact ⟨by simp, fun d hd => by rw [List.mem_singleton.mp hd]; exact sc⟩, rfl⟩
      | cons d q =>
        have last2 : (d :: q)[(d :: q).length - 1]? ≠ some 32 := fun e => hlast (by
          rw [List.length_cons, Nat.add_sub_cancel, List.length_cons, List.getElem?_cons_succ]
          rw [List.length_cons, Nat.add_sub_cancel] at e
          exact e)
        have tw2 : twin (d :: q) = false := by
          have : ((c == 32 && d == 32) || twin (d :: q)) = false := tw
          exact (Bool.or_eq_false_iff.mp this).2
        by_cases d32 : d = 32
        · subst d32
          cases q with
          | nil => exact absurd rfl last2
          | cons e p =>
            have e32 : (e :: p)[0]? ≠ some 32 := fun z => by
              have e1 : e = 32 := Option.some.inj z
              have : ((32 == 32 && e == 32) || twin (e :: p)) = false := tw2
              rw [e1] at this
              cases this
            have last3 : (e :: p)[(e :: p).length - 1]? ≠ some 32 := fun z => last2 (by
              rw [List.length_cons, Nat.add_sub_cancel, List.length_cons, List.getElem?_cons_succ]
              rw [List.length_cons, Nat.add_sub_cancel] at z
              exact z)
            have tw3 : twin (e :: p) = false := by
              have : ((32 == 32 && e == 32) || twin (e :: p)) = false := tw2
              exact (Bool.or_eq_false_iff.mp this).2
            obtain ⟨ws, w1, w2, w3⟩ := ih (e :: p) (by simp only [List.length_cons] at hl ⊢; omega) (by simp) (fun z hz => hs z (List.mem_cons_of_mem _ (List.mem_cons_of_mem _ hz))) e32 last3 tw3
            refine ⟨[c] :: ws, by simp, fun v hv => ?_, ?_⟩
            · rcases List.mem_cons.mp hv with h | h
              · rw [h]
                exact ⟨by simp, fun z hz => by rw [List.mem_singleton.mp hz]; exact sc⟩
              · exact w2 v h
            · rw [flat_cons, ← w3]
              rfl
        · obtain ⟨ws, w1, w2, w3⟩ := ih (d :: q) (by simp only [List.length_cons] at hl ⊢; omega) (by simp) (fun z hz => hs z (List.mem_cons_of_mem _ hz)) (fun z => d32 (Option.some.inj z)) last2 tw2
          cases ws with
          | nil => exact absurd rfl w1
          | cons v vs =>
            rw [flat_cons] at w3
            have w4 : d :: q = v ++ flat vs := (List.cons.inj w3).2
            refine ⟨(c :: v) :: vs, by simp, fun y hy => ?_, ?_⟩
            · rcases List.mem_cons.mp hy with h | h
              · rw [h]
                refine ⟨by simp, fun z hz => ?_⟩
                rcases List.mem_cons.mp hz with g | g
                · rw [g]
                  exact sc
                · exact (w2 v List.mem_cons_self).2 z g
              · exact w2 y (List.mem_cons_of_mem _ h)
            · rw [flat_cons, w4]
              rfl
theorem text_of {z : Str} {ws : List (List Nat)} (hne : ws ≠ []) (hw : ∀ v ∈ ws, Wd v) (h : 32 :: cp z = flat ws) (hl : z.length ≤ 100) : TextC z := by
  have e : cp z = (flat ws).drop 1 := by rw [← h]; rfl
  refine ⟨hl, ⟨ws.map fun v => ⟨v.toArray⟩, ?_, ?_, ?_⟩, fun h60 => ?_⟩
  · intro q
    exact hne (List.map_eq_nil_iff.mp q)
  · intro y hy
    obtain ⟨v, hv, rfl⟩ := List.mem_map.mp hy
    exact hw v hv
  · refine cp_inj ?_
    rw [TL.join_eq, join_cp, List.map_map, e]
    have : List.map (cp ∘ fun v => (⟨v.toArray⟩ : Str)) ws = ws := by
      conv => rhs; rw [← List.map_id ws]
      exact List.map_congr_left fun v _ => rfl
    rw [this]
  · rw [e]
    refine join_good hw hne ?_
    rw [← h, List.length_cons, cp_len]
    omega
theorem text_good {z : Str} (g : Good (cp z)) : TextC z := by
  have h1 := g.most
  rw [cp_len] at h1
  obtain ⟨ws, w1, w2, w3⟩ := split_words _ (cp z) (Nat.le_refl _) (fun e => by have := g.some; rw [e] at this; cases this) g.sign g.head g.last g.twin
  exact text_of w1 w2 w3 (by omega)
abbrev WIDE : Str := repS (Str.ofString "so ") 18 ++ Str.ofString "abcdefghi"
def wideW (n : Nat) : List (List Nat) := List.replicate 18 [115, 111] ++ [[97, 98, 99, 100, 101, 102, 103, 104, 105].take (n - 54)]
theorem wide_ok (n : Nat) (h1 : 58 ≤ n) (h2 : n ≤ 63) : TextC (cutS WIDE none (some (n : Nat))) := by
  have hn : n = 58 ∨ n = 59 ∨ n = 60 ∨ n = 61 ∨ n = 62 ∨ n = 63 := by omega
  have all : ∀ m, m ∈ [58, 59, 60, 61, 62, 63] → 32 :: cp (cutS WIDE none (some ((m : Nat) : Int))) = flat (wideW m) ∧ (cutS WIDE none (some ((m : Nat) : Int))).length ≤ 100 ∧
      ((wideW m).all fun v => !v.isEmpty && v.all fun c => decide (33 ≤ c) && (decide (c ≤ 126) && decide (c ≠ 37))) = true := by decide +kernel
  obtain ⟨a1, a2, a3⟩ := all n (by rcases hn with h | h | h | h | h | h <;> rw [h] <;> simp)
  refine text_of (ws := wideW n) (by unfold wideW; simp) (fun v hv => ?_) a1 a2
  have := List.all_eq_true.mp a3 v hv
  rw [Bool.and_eq_true, List.all_eq_true] at this
  refine ⟨fun e => ?_, fun c hc => ?_⟩
  · rw [e] at this
    cases this.1
  · have q := this.2 c hc
    simp only [Bool.and_eq_true, decide_eq_true_eq] at q
    exact ⟨q.1, q.2.1, q.2.2⟩
def spRarely : Sp := fun vs H Q _ => ∃ (tp cl : Addr) (ns : List Int) (m : Int), vs = [.ref tp, .int m] ∧ Tape H tp cl ns ∧ m < 1073741824 ∧ ∀ H' b, KB tp H H' → Tape H' tp cl ns → Q (.bl b) H'
def spCueText : Sp := fun vs H Q _ => ∃ (tp cl : Addr) (ns : List Int) (b : Bool), vs = [.ref tp, .bl b] ∧ Tape H tp cl ns ∧ ∀ H' z, KB tp H H' → Tape H' tp cl ns → TextC z → Q (.str z) H'
section
variable {P : Program} {w : World} {K : PySem.W.Frag} {mg : Str → Option Value} {base : Heap}
theorem ok_rarely {f : Addr} {fd : FuncData} (F : Fun K "_law_rarely" "_law_rarely" s__law_rarely f fd) (c__law_pick : Cal P w K mg base 1 "_law_pick" spPick) : FnOk P w K mg base CX0 2 f fd ["_law_tape_here", "_law_many"] spRarely := by
  refine F.ok sc__law_rarely (fun vs H Q E h => ?_) (fun cdv A outer s H vs Q E hr h => ?_)
  · obtain ⟨tp, cl, ns, m, rfl, _⟩ := h
    rfl
  · obtain ⟨tp, cl, ns, m, rfl, T, hm, q⟩ := h
    refine ⟨_, (pss_one (ps_ret (pe_cmpR op_eq (pe_c c__law_pick hr (by decide) rfl (pa_cons (pv 0) (pa_cons (pv 1) pa_nil))) (pe_op op_sub (pv 1) (pe_int)) (nomark _)))), ?_⟩
    exact ⟨_, rfl, _, rfl, tp, cl, ns, m, rfl, T, hm, fun H1 d k1 T1 _ _ => ⟨_, rfl, _, _, rfl, rfl, rfl, q H1 _ k1 T1⟩⟩
theorem ok_cue_text {f : Addr} {fd : FuncData} (F : Fun K "_law_cue_text" "_law_cue_text" s__law_cue_text f fd) (c__law_some : Cal P w K mg base 2 "_law_some" spSome) (c__law_rarely : Cal P w K mg base 2 "_law_rarely" spRarely) (c__law_text : Cal P w K mg base 3 "_law_text" spText) :
    FnOk P w K mg base CX0 4 f fd ["_law_tape_here", "_law_wide"] spCueText := by
  refine F.ok sc__law_cue_text (fun vs H Q E h => ?_) (fun cdv A outer s H vs Q E hr h => ?_)
  · obtain ⟨tp, cl, ns, b, rfl, _⟩ := h
    rfl
  · obtain ⟨tp, cl, ns, b, rfl, T, q⟩ := h
    refine ⟨_, (pss_cons (ps_if (PW.pt (pw_and (pt_val (pv 1)) (pw_and1 (pt_val (pe_c c__law_rarely hr (by decide) rfl (pa_cons (pv 0) (pa_cons (pe_int) pa_nil)))))))
    (pss_one (ps_ret (pe_slice sl_str (pe_op op_add_str (pe_op op_mulS (pe_str) (pe_int)) (pe_str)) po_none (po_some (pe_c c__law_some hr (by decide) rfl (pa_cons (pv 0) (pa_cons (pe_int) (pa_cons (pe_int) pa_nil))))))))
    pss_nil)
    (pss_one (ps_ret (pe_c c__law_text hr (by decide) rfl (pa_cons (pv 0) (pa_cons (pe_int) pa_nil)))))), ?_⟩
    have wl : WIDE.length = 63 := by decide +kernel
    have sl : sizeLine = 16777216 := sizeLine_eq
    refine ⟨_, rfl, b, rfl, ?_⟩
    cases b with
    | false => exact iteF ⟨_, rfl, tp, cl, ns, 6, rfl, T, by decide, by decide, fun H1 z k1 T1 g => q H1 z k1 T1 (text_good g)⟩
    | true =>
      refine iteT ⟨_, rfl, tp, cl, ns, 4, rfl, T, by decide, fun H1 b1 k1 T1 => ⟨b1, rfl, ?_⟩⟩
      cases b1 with
      | false => exact ⟨_, rfl, tp, cl, ns, 6, rfl, T1, by decide, by decide, fun H2 z k2 T2 g => q H2 z (k1.trans k2) T2 (text_good g)⟩
      | true =>
        refine ⟨_, _, rfl, rfl, ⟨by decide, by decide⟩, ⟨by decide +kernel, by decide +kernel⟩, _, _, rfl, rfl, by decide +kernel, _, rfl, tp, cl, ns, 58, 63, rfl, T1, by decide, by decide, fun H2 n k2 T2 n0 n1 => ⟨n, rfl, WIDE, rfl, by rw [wl, sl]; decide, ?_⟩⟩
        have e : n = ((n.toNat : Nat) : Int) := (Int.toNat_of_nonneg (by omega)).symm
        rw [e]
        exact q H2 _ (k1.trans k2) T2 (wide_ok n.toNat (by omega) (by omega))
end
end Sea
namespace Sea
open PySem PySem.Spec PyProof.Rows L2
/-! names -/
abbrev PL1 : Str := Str.ofString "a b c ab ba aa z zz abc abd acb bcd abca zzz y xy yx xyz abcd abcde bbbbb q qq qa aq"
abbrev PL2 : Str := Str.ofString "m mm am ma cab bac"
abbrev PL3 : Str := Str.ofString "dab bad add odd ode one two ten net tent tenth nine nines e ee ed de"
/-- a short name -/
def shortB (z : Str) : Bool := decide (1 ≤ z.length) && (decide (z.length ≤ 5) && (cp z).all fun c => decide (97 ≤ c) && decide (c ≤ 122))
def POOL : List Str := (Txt.words PL1 ++ Txt.words PL2) ++ Txt.words PL3
theorem pool_ok : POOL.all shortB = true ∧ POOL.length = 48 := by decide +kernel
theorem pool_len : (Txt.words PL1).length = 25 ∧ (Txt.words PL2).length = 6 ∧ (Txt.words PL3).length = 17 ∧ PL1.length ≤ 200 ∧ PL2.length ≤ 200 ∧ PL3.length ≤ 200 := by decide +kernel
structure Short (z : Str) : Prop where
  some : 1 ≤ z.length
  most : z.length ≤ 5
  sign : ∀ c ∈ cp z, 97 ≤ c ∧ c ≤ 122
theorem short_of {z : Str} (h : shortB z = true) : Short z := by
  unfold shortB at h
  simp only [Bool.and_eq_true, decide_eq_true_eq, List.all_eq_true] at h
  exact ⟨h.1, h.2.1, h.2.2⟩
theorem pool_short {z : Str} (h : z ∈ POOL) : Short z := short_of (List.all_eq_true.mp pool_ok.1 z h)
def spNames : Sp := fun vs H Q _ => ∃ (tp cl : Addr) (ns : List Int) (m : Int), vs = [.ref tp, .int m] ∧ Tape H tp cl ns ∧ 1 ≤ m ∧ m ≤ 4 ∧
  ∀ (H' : Hp) (p : Addr) (ss : List Str), KB tp H H' → Tape H' tp cl ns → p ≠ tp → H' p = some (.lst (ss.map V.str)) → 1 ≤ ss.length → ss.length ≤ 4 → (∀ z ∈ ss, Short z) → Q (.ref p) H'
def spSomeNames : Sp := fun vs H Q _ => ∃ (tp cl : Addr) (ns : List Int) (m : Int), vs = [.ref tp, .int m] ∧ Tape H tp cl ns ∧ 1 ≤ m ∧ m ≤ 4 ∧
  ∀ (H' : Hp) (p : Addr) (ss : List Str), KB tp H H' → Tape H' tp cl ns → p ≠ tp → H' p = some (.lst (ss.map V.str)) → 1 ≤ ss.length → ss.length ≤ 4 → (∀ z ∈ ss, NameW (cp z)) → Q (.ref p) H'
theorem erase_map {α β : Type} (f : α → β) : ∀ (l : List α) (k : Nat), (l.map f).eraseIdx k = (l.eraseIdx k).map f
  | [], _ => rfl
  | _ :: _, 0 => rfl
  | a :: r, k + 1 => by
    show f a :: (r.map f).eraseIdx k = f a :: (r.eraseIdx k).map f
    rw [erase_map f r k]
theorem seq_at {d : Int} {n : Nat} (h0 : 0 ≤ d) (h1 : d < (n : Int)) : seqIndex? d n = some d.toNat := by
  unfold seqIndex?
  simp only []
  rw [if_neg (show ¬ d < 0 by omega), if_pos (by rw [decide_eq_true h0, decide_eq_true h1]; rfl)]
section
variable {P : Program} {w : World} {K : PySem.W.Frag} {mg : Str → Option Value} {base : Heap}
theorem ok_names {f : Addr} {fd : FuncData} (F : Fun K "_law_names" "_law_names" s__law_names f fd) (m_range : mg "range" = none) (m_len : mg "len" = none) (c__law_pick : Cal P w K mg base 1 "_law_pick" spPick) :
    FnOk P w K mg base CX0 2 f fd ["_law_tape_here", "_law_many"] spNames := by
  refine F.ok sc__law_names (fun vs H Q E h => ?_) (fun cdv A outer s H vs Q E hr h => ?_)
  · obtain ⟨tp, cl, ns, m, rfl, _⟩ := h
    rfl
  · obtain ⟨tp, cl, ns, m, rfl, T, m1, m4, q⟩ := h
    refine ⟨_, (pss_cons (ps_set (i := 2) sc__law_names.nd rfl (Or.inl rfl) (pe_words (pe_str)))
    (pss_cons (ps_set (i := 2) sc__law_names.nd rfl (Or.inl rfl) (pe_op op_cat (pv 2) (pe_words (pe_str))))
    (pss_cons (ps_set (i := 2) sc__law_names.nd rfl (Or.inl rfl) (pe_op op_cat (pv 2) (pe_words (pe_str))))
    (pss_cons (ps_set (i := 3) sc__law_names.nd rfl (Or.inl rfl) (pe_lst pa_nil))
    (pss_cons (ps_for PassesOwn.never rfl (pi_range1 (by rfl) m_range (pa_cons (pv 1) pa_nil)) (pg_name (i := 4) sc__law_names.nd rfl (Or.inl rfl))
    (pss_one (ps_expr (pe_bm PySem.F.plainAttrs_list PySem.F.slot_list_append PySem.F.type_list_append mt_append (pv 3) (pa_cons (pe_bm PySem.F.plainAttrs_list PySem.F.slot_list_pop PySem.F.type_list_pop mt_popAt (pv 2) (pa_cons (pe_c c__law_pick hr (by decide) rfl (pa_cons (pv 0) (pa_cons (pe_callB call_len (by rfl) m_len (by decide +kernel) (pa_cons (pv 2) pa_nil)) pa_nil))) pa_nil)) pa_nil)))))
    (pss_one (ps_ret (pv 3)))))))), ?_⟩
    obtain ⟨w1, w2, w3, w4, w5, w6⟩ := pool_len
    have sl : sizeLine = 16777216 := sizeLine_eq
    refine ⟨⟨_, rfl⟩, PL1, rfl, rfl, by omega, fun p1 hp1 => ?_⟩
    have t1 := T.new (o := .lst ((Txt.words PL1).map V.str)) hp1
    have k1 := (KB.refl tp H).over (o := .lst ((Txt.words PL1).map V.str)) hp1
    refine ⟨_, rfl, ⟨_, rfl⟩, PL2, rfl, rfl, by omega, fun p2 hp2 => ?_⟩
    have s2 := same_new (o := .lst ((Txt.words PL2).map V.str)) hp2
    refine ⟨p1, p2, _, _, rfl, rfl, s2 _ _ upd_same, upd_same, by rw [List.length_map, List.length_map]; omega, fun p3 hp3 => ?_⟩
    have s3 := same_new (o := .lst ((Txt.words PL1).map V.str ++ (Txt.words PL2).map V.str)) hp3
    refine ⟨_, rfl, ⟨_, rfl⟩, PL3, rfl, rfl, by omega, fun p4 hp4 => ?_⟩
    have s4 := same_new (o := .lst ((Txt.words PL3).map V.str)) hp4
    have S4 := (s2.trans s3).trans s4
    have t4 := t1.same S4
    have k4 := k1.trans (.of_same S4)
    have c3 := s4 p3 _ (upd_same (H := upd (upd H p1 (.lst ((Txt.words PL1).map V.str))) p2 (.lst ((Txt.words PL2).map V.str))) (a := p3) (o := .lst ((Txt.words PL1).map V.str ++ (Txt.words PL2).map V.str)))
    have c4 := upd_same (H := upd (upd (upd H p1 (.lst ((Txt.words PL1).map V.str))) p2 (.lst ((Txt.words PL2).map V.str))) p3 (.lst ((Txt.words PL1).map V.str ++ (Txt.words PL2).map V.str))) (a := p4) (o := .lst ((Txt.words PL3).map V.str))
    generalize (upd (upd (upd (upd H p1 (.lst ((Txt.words PL1).map V.str))) p2 (.lst ((Txt.words PL2).map V.str))) p3 (.lst ((Txt.words PL1).map V.str ++ (Txt.words PL2).map V.str))) p4 (.lst ((Txt.words PL3).map V.str))) = H4 at S4 t4 k4 c3 c4 ⊢
    refine ⟨p3, p4, _, _, rfl, rfl, c3, c4, by rw [List.length_append, List.length_map, List.length_map, List.length_map]; omega, fun pl hpl => ?_⟩
    have ep : (Txt.words PL1).map V.str ++ (Txt.words PL2).map V.str ++ (Txt.words PL3).map V.str = POOL.map V.str := by
      unfold POOL
      rw [List.map_append, List.map_append]
    rw [ep]
    have t5 := t4.new (o := .lst (POOL.map V.str)) hpl
    have hpl5 := upd_same (H := H4) (a := pl) (o := .lst (POOL.map V.str))
    have npl : tp ≠ pl := (t4.fresh hpl).1
    have gone : H pl = none := by
      cases e : H pl with
      | none => rfl
      | some o =>
        have := k4 pl o npl.symm e
        rw [hpl] at this
        cases this
    have k5 := k4.over (o := .lst (POOL.map V.str)) gone
    generalize (upd H4 pl (.lst (POOL.map V.str))) = H5 at t5 k5 hpl5 ⊢
    refine ⟨Nat.zero_le _, fun D hD => ?_⟩
    have s6 := same_new (o := .lst []) hD
    have nD : tp ≠ D := (t5.fresh hD).1
    have nDl : pl ≠ D := ne_of_none hpl5 hD
    have goneD : H D = none := by
      cases e : H D with
      | none => rfl
      | some o =>
        have := k5 D o nD.symm e
        rw [hD] at this
        cases this
    refine ⟨_, rfl, _, rfl, by omega, by omega, ?_⟩
    refine for_it (walk_range (lo := 0) (n := m.toNat)) (fun i σ H' => ∃ (pool ss : List Str) (k4 : Option V), σ = [some (.ref tp), some (.int m), some (.ref pl), some (.ref D), k4] ∧ KB tp H H' ∧ Tape H' tp cl ns ∧
      H' pl = some (.lst (pool.map V.str)) ∧ H' D = some (.lst (ss.map V.str)) ∧ pool.length + i = 48 ∧ ss.length = i ∧ (∀ z ∈ pool, Short z) ∧ ∀ z ∈ ss, Short z)
      ⟨POOL, [], none, rfl, k5.over goneD, t5.new hD, s6 _ _ hpl5, upd_same, pool_ok.2, rfl, fun z hz => pool_short hz, fun _ h => nomatch h⟩ (fun _ _ _ _ _ => trivial) ?_ ?_
    · rintro i x σ Ha Hb hi ⟨pool, ss, k4, rfl, ka, Ta, hpa, hda, lp, lss, hpo, hss⟩ ⟨rfl, rfl⟩
      have hi4 : i < 4 := by omega
      refine ⟨_, rfl, .inl ⟨rfl, _, SqL.of hda⟩, _, rfl, .inl ⟨rfl, _, SqL.of hpa⟩, _, rfl, _, rfl, _, pool.length, rfl, .inl ⟨_, SqL.of hpa, (List.length_map ..).symm⟩, tp, cl, ns, _, rfl, Ta, by omega, fun H1 d k1 T1 d0 d1 => ?_⟩
      have dl : d < (pool.length : Int) := by omega
      have dn : d.toNat < pool.length := by omega
      have hp1 := k1 pl _ npl.symm hpa
      have hd1 := k1 D _ nD.symm hda
      refine ⟨pl, _, d, d.toNat, .str pool[d.toNat], rfl, rfl, hp1, by omega, by omega, by rw [List.length_map]; exact seq_at d0 dl, by rw [List.getElem?_map, List.getElem?_eq_getElem dn]; rfl, ?_⟩
      have hd2 : (upd H1 pl (.lst ((pool.map V.str).eraseIdx d.toNat))) D = some (.lst (ss.map V.str)) := by
        rw [upd_ne nDl.symm]
        exact hd1
      refine ⟨D, _, _, rfl, rfl, hd2, (by rw [List.length_map]; exact small_line (by omega)), ?_⟩
      refine ⟨pool.eraseIdx d.toNat, ss ++ [pool[d.toNat]], _, rfl, ?_, (T1.other npl fun e => ?_).other nD fun e => ?_, ?_, ?_, ?_, ?_, fun z hz => hpo z (List.mem_of_mem_eraseIdx hz), fun z hz => ?_⟩
      · exact ((ka.trans k1).over gone).over goneD
      · have := T1.cells
        rw [e, hp1] at this
        have e2 := HO.lst.inj (Option.some.inj this)
        cases pool with
        | nil => simp only [List.length_nil] at dn; omega
        | cons z r =>
          cases ns with
          | nil => cases e2
          | cons n r2 => cases (List.cons.inj e2).1
      · have c1 := T1.cells
        have c2 : (upd H1 pl (.lst ((pool.map V.str).eraseIdx d.toNat))) cl = some (.lst (ns.map V.int)) → True := fun _ => trivial
        have c0 := t5.cells
        rw [e, hD] at c0
        cases c0
      · rw [upd_ne nDl, upd_same]
        exact congrArg some (congrArg HO.lst (erase_map V.str pool d.toNat))
      · rw [upd_same, List.map_append]
        rfl
      · rw [List.length_eraseIdx_of_lt dn]
        omega
      · rw [List.length_append, lss]
        rfl
      · rcases List.mem_append.mp hz with h | h
        · exact hss z h
        · rw [List.mem_singleton.mp h]
          exact hpo _ (List.getElem_mem dn)
    · rintro σ H' ⟨pool, ss, k4, rfl, ka, Ta, hpa, hda, lp, lss, hpo, hss⟩
      exact ⟨_, rfl, q H' D ss ka Ta nD.symm hda (by omega) (by omega) hss⟩
end
end Sea
namespace Sea
open PySem PySem.Spec PyProof.Rows L2
abbrev FGJ : Str := Str.ofString "fgj"
theorem fgj_len : FGJ.length = 3 := by decide +kernel
theorem fgj_cut {d : Int} (h0 : 0 ≤ d) (h1 : d ≤ 3) : (cutS FGJ none (some d)).length ≤ 3 ∧ ∀ c ∈ cp (cutS FGJ none (some d)), 97 ≤ c ∧ c ≤ 122 := by
  have all : ∀ m, m ∈ [0, 1, 2, 3] → (cutS FGJ none (some ((m : Nat) : Int))).length ≤ 3 ∧ ((cp (cutS FGJ none (some ((m : Nat) : Int)))).all fun c => decide (97 ≤ c) && decide (c ≤ 122)) = true := by decide +kernel
  have e : d = ((d.toNat : Nat) : Int) := (Int.toNat_of_nonneg h0).symm
  have hm : d.toNat = 0 ∨ d.toNat = 1 ∨ d.toNat = 2 ∨ d.toNat = 3 := by omega
  obtain ⟨a1, a2⟩ := all d.toNat (by rcases hm with h | h | h | h <;> rw [h] <;> simp)
  rw [e]
  refine ⟨a1, fun c hc => ?_⟩
  have := List.all_eq_true.mp a2 c hc
  simp only [Bool.and_eq_true, decide_eq_true_eq] at this
  exact this
theorem let_len : LET.length = 26 := by decide +kernel
theorem flat_strs (ss : List Str) : (ss.map V.str).all flatV = true := by
  induction ss with
  | nil => rfl
  | cons a r ih => exact ih
section
variable {P : Program} {w : World} {K : PySem.W.Frag} {mg : Str → Option Value} {base : Heap}
theorem ok_some_names {f : Addr} {fd : FuncData} (F : Fun K "_law_some_names" "_law_some_names" s__law_some_names f fd) (m_range : mg "range" = none) (c__law_pick : Cal P w K mg base 1 "_law_pick" spPick) (c__law_some : Cal P w K mg base 2 "_law_some" spSome) (c__law_names : Cal P w K mg base 2 "_law_names" spNames) :
    FnOk P w K mg base CX0 3 f fd ["_law_tape_here", "_law_many"] spSomeNames := by
  refine F.ok sc__law_some_names (fun vs H Q E h => ?_) (fun cdv A outer s H vs Q E hr h => ?_)
  · obtain ⟨tp, cl, ns, m, rfl, _⟩ := h
    rfl
  · obtain ⟨tp, cl, ns, m, rfl, T, m1, m4, q⟩ := h
    refine ⟨_, (pss_cons (ps_if (pt_cmpR op_eq (pe_c c__law_pick hr (by decide) rfl (pa_cons (pv 0) (pa_cons (pe_int) pa_nil))) (pe_int) (nomark _))
    (pss_one (ps_ret (pe_lc (own := [("_law_name", 2)]) rfl sc__law_some_names.nd (pi_list (pe_c c__law_names hr (by decide) rfl (pa_cons (pv 0) (pa_cons (pv 1) pa_nil)))) (blkOk_by (N := N__law_some_names) (sc := defScope s__law_some_names) (by decide +kernel)) (fun _ _ _ _ _ => (pg_name (i := 2) sc__law_some_names.nd rfl (Or.inl rfl))) (fun _ _ _ _ _ => pts_nil) (fun _ _ _ _ _ => (pe_op op_add_str (pv 2) (pe_slice sl_str (pe_str) po_none (po_some (pe_c c__law_pick hr (by decide) rfl (pa_cons (pv 0) (pa_cons (pe_int) pa_nil))))))))))
    pss_nil)
    (pss_cons (ps_set (i := 3) sc__law_some_names.nd rfl (Or.inl rfl) (pe_lst pa_nil))
    (pss_cons (ps_for PassesOwn.never rfl (pi_range1 (by rfl) m_range (pa_cons (pv 1) pa_nil)) (pg_name (i := 4) sc__law_some_names.nd rfl (Or.inl rfl))
    (pss_cons (ps_set (i := 5) sc__law_some_names.nd rfl (Or.inl rfl) (pe_c c__law_some hr (by decide) rfl (pa_cons (pv 0) (pa_cons (pe_int) (pa_cons (pe_int) pa_nil)))))
    (pss_cons (ps_set (i := 2) sc__law_some_names.nd rfl (Or.inl rfl) (pe_join (pe_str) (pe_lc (own := [("_law_at", 6)]) rfl sc__law_some_names.nd (pi_range1 (by rfl) m_range (pa_cons (pv 5) pa_nil)) (blkOk_by (N := N__law_some_names) (sc := defScope s__law_some_names) (by decide +kernel)) (fun _ _ _ _ _ => (pg_name (i := 6) sc__law_some_names.nd rfl (Or.inl rfl))) (fun _ _ _ _ _ => pts_nil) (fun _ _ _ _ _ => (pe_ix ix_str (pe_str) (pe_c c__law_pick hr (by decide) rfl (pa_cons (pv 0) (pa_cons (pe_int) pa_nil))) (fun _ _ => rfl))))))
    (pss_one (ps_if (pt_cmpR op_notIn_seq (pv 2) (pv 3) rfl)
    (pss_one (ps_expr (pe_bm PySem.F.plainAttrs_list PySem.F.slot_list_append PySem.F.type_list_append mt_append (pv 3) (pa_cons (pv 2) pa_nil))))
    pss_nil)))))
    (pss_one (ps_ret (pv 3)))))), ?_⟩
    have sl : sizeLine = 16777216 := sizeLine_eq
    have f3 := fgj_len
    have l26 := let_len
    refine ⟨_, rfl, tp, cl, ns, 2, rfl, T, by decide, fun H1 d k1 T1 d0 d1 => ⟨rfl, _, rfl, ite2 (fun _ => ?_) (fun _ => ?_)⟩⟩
    · -- names of the pool
      refine ⟨_, rfl, _, rfl, tp, cl, ns, m, rfl, T1, m1, m4, fun H2 p ss k2 T2 np hp l1 l4 hss => ⟨p, rfl, ⟨_, SqL.of hp⟩, fun D hD => ?_⟩⟩
      have nD := T2.fresh hD
      refine lc_list (K := K) (a := p) (xs := ss.map V.str) (fun i H' => KB tp H2 H' ∧ Tape H' tp cl ns ∧ ∃ ys : List Str, H' D = some (.lst (ys.map V.str)) ∧ ys.length = i ∧ ∀ z ∈ ys, NameW (cp z))
        ⟨(KB.refl tp H2).over hD, T2.new hD, [], upd_same, rfl, fun _ h => nomatch h⟩ (fun i H' _ hq => SqL.of (hq.1 _ _ np hp)) ?_ ?_
      · rintro i y Ha hy ⟨ka, Ta, ys, hd, hl, hys⟩
        obtain ⟨z, hz, rfl⟩ : ∃ z, ss[i]? = some z ∧ y = V.str z := by
          rw [List.getElem?_map] at hy
          cases e : ss[i]? with
          | none => rw [e] at hy; cases hy
          | some z => rw [e] at hy; exact ⟨z, rfl, (Option.some.inj hy).symm⟩
        have sz := hss z (List.mem_of_getElem? hz)
        have il : i < ss.length := (List.getElem?_eq_some_iff.mp hz).1
        refine ⟨rfl, _, rfl, _, rfl, tp, cl, ns, 4, rfl, Ta, by decide, fun H4 g k4 T4 g0 g1 => ⟨g, rfl, FGJ, rfl, by omega, ?_⟩⟩
        obtain ⟨c1, c2⟩ := fgj_cut g0 (show g ≤ 3 by omega)
        have zm := sz.most
        have hd4 : H4 D = some (.lst (ys.map V.str)) := k4 D _ nD.1.symm hd
        refine ⟨_, _, rfl, rfl, by omega, _, hd4, (by rw [List.length_map]; exact small_line (by omega)), (ka.trans k4).over hD, T4.other nD.1 nD.2, ys ++ [z ++ cutS FGJ none (some g)], ?_, ?_, fun v hv => ?_⟩
        · rw [upd_same, List.map_append]
          rfl
        · rw [List.length_append, hl]
          rfl
        · rcases List.mem_append.mp hv with h | h
          · exact hys v h
          · rw [List.mem_singleton.mp h]
            refine ⟨?_, ?_, fun c hc => ?_⟩
            · rw [cp_len, app_len]
              have := sz.some
              omega
            · rw [cp_len, app_len]
              omega
            · rw [app_cp] at hc
              rcases List.mem_append.mp hc with h | h
              · exact sz.sign c h
              · exact c2 c h
      · rintro H' ⟨ka, Ta, ys, hd, hl, hys⟩
        rw [List.length_map] at hl
        exact q H' D ys ((k1.trans k2).trans ka) Ta nD.1.symm hd (by omega) (by omega) hys
    · -- names of any letters
      refine ⟨Nat.zero_le _, fun D hD => ?_⟩
      have nD := T1.fresh hD
      have goneD : H D = none := by
        cases e : H D with
        | none => rfl
        | some o =>
          have := k1 D o nD.1.symm e
          rw [hD] at this
          cases this
      refine ⟨_, rfl, _, rfl, by omega, by omega, ?_⟩
      refine for_it (walk_range (lo := 0) (n := m.toNat)) (fun i σ H' => ∃ (ss : List Str) (k2 k4 k5 : Option V), σ = [some (.ref tp), some (.int m), k2, some (.ref D), k4, k5, none] ∧ KB tp H H' ∧ Tape H' tp cl ns ∧
        H' D = some (.lst (ss.map V.str)) ∧ ss.length ≤ i ∧ (1 ≤ i → ss ≠ []) ∧ ∀ z ∈ ss, NameW (cp z)) ⟨[], none, none, none, rfl, k1.over goneD, T1.new hD, upd_same, Nat.le_refl _, fun h => absurd h (by decide), fun _ h => nomatch h⟩ (fun _ _ _ _ _ => trivial) ?_ ?_
      · rintro i x σ Ha Hb hi ⟨ss, k2, k4, k5, rfl, ka, Ta, hd, hl, hne, hss⟩ ⟨rfl, rfl⟩
        refine ⟨_, rfl, tp, cl, ns, 1, 8, rfl, Ta, by decide, by decide, fun H3 g k3 T3 g0 g1 => ?_⟩
        refine ⟨⟨_, rfl⟩, _, rfl, g, rfl, by omega, by omega, fun D2 hD2 => ?_⟩
        have nD2 := T3.fresh hD2
        have hd3 : H3 D = some (.lst (ss.map V.str)) := k3 D _ nD.1.symm hd
        have nDD : D ≠ D2 := ne_of_none hd3 hD2
        refine lc_range (lo := 0) (n := g.toNat) (fun j H' => KB tp H3 H' ∧ Tape H' tp cl ns ∧ ∃ cs : List Nat, H' D2 = some (.lst ((cs.map fun c => (⟨#[c]⟩ : Str)).map V.str)) ∧ cs.length = j ∧ ∀ c ∈ cs, 97 ≤ c ∧ c ≤ 122)
          ⟨(KB.refl _ _).over hD2, T3.new hD2, [], upd_same, rfl, fun _ h => nomatch h⟩ ?_ ?_
        · rintro j H' hj ⟨kj, Tj, cs, hd2, hcl, hcs⟩
          refine ⟨rfl, _, rfl, tp, cl, ns, 26, rfl, Tj, by decide, fun H5 d3 k5' T5 p0 p1 => ?_⟩
          obtain ⟨k, rfl⟩ : ∃ k : Nat, d3 = (k : Int) := ⟨d3.toNat, by omega⟩
          have hk : k < (cp LET).length := by rw [cp_len, l26]; omega
          have hin := in_let.mp (List.getElem_mem hk)
          have hd5 : H5 D2 = some (.lst ((cs.map fun c => (⟨#[c]⟩ : Str)).map V.str)) := k5' D2 _ nD2.1.symm hd2
          refine ⟨LET, (k : Int), (cp LET)[k], rfl, rfl, by omega, atI_nat (List.getElem?_eq_getElem hk), _, hd5, ?_, (kj.trans k5').over hD2, T5.other nD2.1 nD2.2, cs ++ [(cp LET)[k]], ?_, ?_, fun c hc => ?_⟩
          · rw [List.length_map, List.length_map]
            exact small_line (by omega)
          · rw [upd_same, List.map_append, List.map_append]
            rfl
          · rw [List.length_append, hcl]
            rfl
          · rcases List.mem_append.mp hc with h | h
            · exact hcs c h
            · rw [List.mem_singleton.mp h]
              exact hin
        · rintro H' ⟨kj, Tj, cs, hd2, hcl, hcs⟩
          have b0 : (Str.ofString "").length = 0 := by decide +kernel
          have lj : (Txt.join (Str.ofString "") (cs.map fun c => (⟨#[c]⟩ : Str))).length = cs.length := by rw [← cp_len, word_cp]
          have hdj : H' D = some (.lst (ss.map V.str)) := kj D _ nD.1.symm hd3
          refine ⟨_, D2, _, rfl, rfl, .inl (SqL.of hd2), by rw [sum_ones, List.length_map, b0]; omega, ?_⟩
          have nw : NameW (cp (Txt.join (Str.ofString "") (cs.map fun c => (⟨#[c]⟩ : Str)))) := by
            rw [word_cp]
            exact ⟨by omega, by omega, hcs⟩
          have KK := (ka.trans k3).trans kj
          refine ⟨_, rfl, _, rfl, D, _, rfl, .inl (SqL.of hdj), rfl, flat_strs _, _, rfl, ?_⟩
          cases e : inV (.str (Txt.join (Str.ofString "") (cs.map fun c => (⟨#[c]⟩ : Str)))) (ss.map V.str) with
          | true =>
            refine ⟨ss, _, _, _, rfl, KK, Tj, hdj, Nat.le_succ_of_le hl, fun _ q => ?_, hss⟩
            rw [q] at e
            cases e
          | false =>
            refine ⟨_, rfl, .inl ⟨rfl, _, SqL.of hdj⟩, _, rfl, D, _, _, rfl, rfl, hdj, (by rw [List.length_map]; exact small_line (by omega)), ?_⟩
            refine ⟨ss ++ [Txt.join (Str.ofString "") (cs.map fun c => (⟨#[c]⟩ : Str))], _, _, _, rfl, KK.over goneD, Tj.other nD.1 nD.2, ?_, ?_, fun _ q => ?_, fun z hz => ?_⟩
            · rw [upd_same, List.map_append]
              rfl
            · rw [List.length_append]
              exact Nat.succ_le_succ hl
            · exact absurd q (by simp)
            · rcases List.mem_append.mp hz with h | h
              · exact hss z h
              · rw [List.mem_singleton.mp h]
                exact nw
      · rintro σ H' ⟨ss, k2, k4, k5, rfl, ka, Ta, hd, hl, hne, hss⟩
        have : ss ≠ [] := hne (by omega)
        have l1 : 0 < ss.length := List.length_pos_iff.mpr this
        exact ⟨_, rfl, q H' D ss ka Ta nD.1.symm hd (by omega) (by omega) hss⟩
end
end Sea
namespace Sea
open PySem PySem.Spec PyProof.Rows L2
/-! a length and cues drawn -/
theorem kb_none {tp cl p : Addr} {ns : List Int} {H H' : Hp} (k : KB tp H H') (T : Tape H' tp cl ns) (h : H' p = none) : H p = none := by
  cases e : H p with
  | none => rfl
  | some o =>
    have := k p o (T.fresh h).1.symm e
    rw [h] at this
    cases this
theorem KB.new {tp cl p : Addr} {ns : List Int} {H H' : Hp} {o : HO} (k : KB tp H H') (T : Tape H' tp cl ns) (h : H' p = none) : KB tp H (upd H' p o) := k.over (kb_none k T h)
theorem At.kb {tp cl : Addr} {ns : List Int} {H H' : Hp} {e : Addr × Cue} (h : At H e) (T : Tape H tp cl ns) (k : KB tp H H') : At H' e := by
  refine k _ _ (fun z => ?_) h
  obtain ⟨i, r, y, c, q, _⟩ := T.ex
  have h' : H e.1 = some (.tup e.2.vs) := h
  rw [z, q] at h'
  cases h'
theorem LenCues.kb {tp cl r : Addr} {ns : List Int} {H H' : Hp} {len : Nat} {L : List (Addr × Cue)} (h : LenCues H r len L) (T : Tape H tp cl ns) (k : KB tp H H') : LenCues H' r len L := by
  obtain ⟨⟨a, h1, h2⟩, h3, h4, h5, h6⟩ := h
  obtain ⟨i, rr, y, c, q, _⟩ := T.ex
  have n1 : r ≠ tp := fun z => by
    rw [z, q] at h1
    cases h1
  have n2 : a ≠ tp := fun z => by
    rw [z, q] at h2
    have e := HO.lst.inj (Option.some.inj h2)
    cases L with
    | nil => cases e
    | cons x L =>
      cases L with
      | nil => cases e
      | cons y L => cases (List.cons.inj (List.cons.inj e).2).1
  exact ⟨⟨a, k _ _ n1 h1, k _ _ n2 h2⟩, fun e he => ⟨(h3 e he).1.kb T k, (h3 e he).2⟩, h4, h5, h6⟩
theorem cue_w {s e : Int} {nm tx : Str} (h1 : 0 ≤ s) (h2 : s ≤ 2000) (h3 : 0 ≤ e) (h4 : e ≤ 2000) (hn : NameW (cp nm)) (ht : TextC tx) : CueW ⟨s, e, nm, tx⟩ :=
  ⟨h1, h2, h3, h4, hn, Nat.le_trans ht.few (by decide), ht.wd, ht.gd⟩
def spLawReel : Sp := fun vs H Q _ => ∃ (tp cl : Addr) (ns : List Int), vs = [.ref tp] ∧ Tape H tp cl ns ∧ ∀ (H' : Hp) (r : Addr) (len : Nat) (L : List (Addr × Cue)), KB tp H H' → Tape H' tp cl ns → LenCues H' r len L → Q (.ref r) H'
theorem min_le {a b : Int} : (if b < a then b else a) ≤ a := by split <;> omega
section
variable {P : Program} {w : World} {K : PySem.W.Frag} {mg : Str → Option Value} {base : Heap}
theorem ok_law_reel {f : Addr} {fd : FuncData} (F : Fun K "_law_reel" "_law_reel" s__law_reel f fd) (m_range : mg "range" = none) (m_len : mg "len" = none) (m_min : mg "min" = none) (m_max : mg "max" = none)
    (c__law_pick : Cal P w K mg base 1 "_law_pick" spPick) (c__law_some : Cal P w K mg base 2 "_law_some" spSome) (c__law_rarely : Cal P w K mg base 2 "_law_rarely" spRarely) (c__law_some_names : Cal P w K mg base 3 "_law_some_names" spSomeNames) (c__law_cue_text : Cal P w K mg base 4 "_law_cue_text" spCueText) :
    FnOk P w K mg base CX0 5 f fd ["_law_tape_here"] spLawReel := by
  refine F.ok sc__law_reel (fun vs H Q E h => ?_) (fun cdv A outer s H vs Q E hr h => ?_)
  · obtain ⟨tp, cl, ns, rfl, _⟩ := h
    rfl
  · obtain ⟨tp, cl, ns, rfl, T, q⟩ := h
    refine ⟨_, (pss_cons (ps_set (i := 1) sc__law_reel.nd rfl (Or.inl rfl) (pe_c c__law_some_names hr (by decide) rfl (pa_cons (pv 0) (pa_cons (pe_c c__law_some hr (by decide) rfl (pa_cons (pv 0) (pa_cons (pe_int) (pa_cons (pe_int) pa_nil)))) pa_nil))))
    (pss_cons (ps_set (i := 2) sc__law_reel.nd rfl (Or.inl rfl) (pe_c c__law_pick hr (by decide) rfl (pa_cons (pv 0) (pa_cons (pe_int) pa_nil))))
    (pss_cons (ps_set (i := 3) sc__law_reel.nd rfl (Or.inl rfl) (pe_c c__law_rarely hr (by decide) rfl (pa_cons (pv 0) (pa_cons (pe_int) pa_nil))))
    (C8.pss_cut (ps_if (PW.pt (pw_and (pt_not (pt_val (pv 3))) (pw_and1 (pt_val (pe_c c__law_rarely hr (by decide) rfl (pa_cons (pv 0) (pa_cons (pe_int) pa_nil)))))))
    (pss_one (ps_set (i := 2) sc__law_reel.nd rfl (Or.inl rfl) (pe_c c__law_some hr (by decide) rfl (pa_cons (pv 0) (pa_cons (pe_int) (pa_cons (pe_int) pa_nil))))))
    pss_nil)
    (pss_cons (ps_set (i := 4) sc__law_reel.nd rfl (Or.inl rfl) (pe_ix ix_list (pe_lst (pa_cons (pe_int) (pa_cons (pe_int) (pa_cons (pe_int) (pa_cons (pe_int) pa_nil))))) (pe_c c__law_pick hr (by decide) rfl (pa_cons (pv 0) (pa_cons (pe_int) pa_nil))) (fun _ _ => rfl)))
    (pss_cons (ps_set (i := 5) sc__law_reel.nd rfl (Or.inl rfl) (pe_c c__law_pick hr (by decide) rfl (pa_cons (pv 0) (pa_cons (pv 4) pa_nil))))
    (pss_cons (ps_set (i := 6) sc__law_reel.nd rfl (Or.inl rfl) (pe_lst pa_nil))
    (pss_cons (ps_for PassesOwn.never rfl (pi_range1 (by rfl) m_range (pa_cons (pv 2) pa_nil)) (pg_name (i := 7) sc__law_reel.nd rfl (Or.inl rfl))
    (pss_cons (ps_set (i := 8) sc__law_reel.nd rfl (Or.inl rfl) (pe_callB (call_min2 rfl) (by rfl) m_min (by decide +kernel) (pa_cons (pe_int) (pa_cons (pe_op op_add (pv 5) (pe_c c__law_some hr (by decide) rfl (pa_cons (pv 0) (pa_cons (pe_int) (pa_cons (pv 4) pa_nil))))) pa_nil))))
    (pss_one (ps_if (pt_cmpR op_lt (pv 5) (pe_int) (nomark _))
    (pss_cons (ps_expr (pe_bm PySem.F.plainAttrs_list PySem.F.slot_list_append PySem.F.type_list_append mt_append (pv 6) (pa_cons (pe_tup (pa_cons (pv 5) (pa_cons (pv 8) (pa_cons (pe_ix ix_list (pv 1) (pe_c c__law_pick hr (by decide) rfl (pa_cons (pv 0) (pa_cons (pe_callB call_len (by rfl) m_len (by decide +kernel) (pa_cons (pv 1) pa_nil)) pa_nil))) (fun _ _ => rfl)) (pa_cons (pe_c c__law_cue_text hr (by decide) rfl (pa_cons (pv 0) (pa_cons (pv 3) pa_nil))) pa_nil))))) pa_nil)))
    (pss_one (ps_set (i := 5) sc__law_reel.nd rfl (Or.inl rfl) (pe_callB (call_min2 rfl) (by rfl) m_min (by decide +kernel) (pa_cons (pe_int) (pa_cons (pe_op op_add (pv 8) (pe_op op_mul (pe_c c__law_pick hr (by decide) rfl (pa_cons (pv 0) (pa_cons (pe_int) pa_nil))) (pe_c c__law_pick hr (by decide) rfl (pa_cons (pv 0) (pa_cons (pv 4) pa_nil))))) pa_nil))))))
    pss_nil))))
    (pss_cons (ps_set (i := 9) sc__law_reel.nd rfl (Or.inl rfl) (pe_callB (call_min2 rfl) (by rfl) m_min (by decide +kernel) (pa_cons (pe_int) (pa_cons (pe_op op_add (pe_callB (call_max2 rfl) (by rfl) m_max (by decide +kernel) (pa_cons (pe_int) (pa_cons (pv 5) pa_nil))) (pe_op op_mul (pe_c c__law_pick hr (by decide) rfl (pa_cons (pv 0) (pa_cons (pe_int) pa_nil))) (pe_c c__law_pick hr (by decide) rfl (pa_cons (pv 0) (pa_cons (pe_int) pa_nil))))) pa_nil))))
    (pss_one (ps_ret (pe_lst (pa_cons (pe_ix ix_list (pe_lst (pa_cons (pv 9) (pa_cons (pe_int) pa_nil))) (pe_op op_fdivN (pe_c c__law_pick hr (by decide) rfl (pa_cons (pv 0) (pa_cons (pe_int) pa_nil))) (pe_int)) (fun _ _ => rfl)) (pa_cons (pv 6) pa_nil)))))))))))))), ?_⟩
    have sl : sizeLine = 16777216 := sizeLine_eq
    refine ⟨_, rfl, _, rfl, tp, cl, ns, 1, 4, rfl, T, by decide, by decide, fun H1 m k1 T1 m1 m4 => ⟨tp, cl, ns, m, rfl, T1, m1, m4, fun H2 sp ss k2 T2 nsp hsp l1 l4 hss => ?_⟩⟩
    refine ⟨_, rfl, tp, cl, ns, 9, rfl, T2, by decide, fun H3 many k3 T3 n0 n1 => ?_⟩
    refine ⟨_, rfl, tp, cl, ns, 4, rfl, T3, by decide, fun H4 wide k4 T4 => ?_⟩
    have hsp4 := k4 _ _ nsp (k3 _ _ nsp hsp)
    have K4 := ((k1.trans k2).trans k3).trans k4
    refine ⟨fun σ' H' => ∃ mn : Int, σ' = [some (.ref tp), some (.ref sp), some (.int mn), some (.bl wide), none, none, none, none, none, none] ∧ KB tp H4 H' ∧ Tape H' tp cl ns ∧ 0 ≤ mn ∧ mn ≤ 42, ?_, ?_⟩
    · refine ⟨_, rfl, wide, rfl, ?_⟩
      cases wide with
      | true => exact ⟨_, rfl, KB.refl _ _, T4, n0, by omega⟩
      | false =>
        refine iteT ⟨_, rfl, tp, cl, ns, 8, rfl, T4, by decide, fun H5 b5 k5 T5 => ⟨b5, rfl, ?_⟩⟩
        cases b5 with
        | false => exact ⟨_, rfl, k5, T5, n0, by omega⟩
        | true => exact ⟨_, rfl, tp, cl, ns, 38, 42, rfl, T5, by decide, by decide, fun H6 d k6 T6 d0 d1 => ⟨_, rfl, k5.trans k6, T6, by omega, d1⟩⟩
    · rintro σ' H5 ⟨mn, rfl, k5, T5, hm0, hmn⟩
      refine ⟨(by show 4 ≤ sizeLine; decide), fun p hp => ⟨_, rfl, tp, cl, ns, 4, rfl, T5.new hp, by decide, fun H6 d k6 T6 d0 d1 => ?_⟩⟩
      have np := (T5.fresh hp).1
      obtain ⟨step, s1, s2, hat⟩ : ∃ step : Int, 1 ≤ step ∧ step ≤ 2000 ∧ atI [V.int 5, V.int 5, V.int 40, V.int 2000] d = some (.int step) := by
        have hd : d = 0 ∨ d = 1 ∨ d = 2 ∨ d = 3 := by omega
        rcases hd with h | h | h | h <;> subst h
        · exact ⟨5, by decide, by decide, rfl⟩
        · exact ⟨5, by decide, by decide, rfl⟩
        · exact ⟨40, by decide, by decide, rfl⟩
        · exact ⟨2000, by decide, by decide, rfl⟩
      refine ⟨p, _, d, _, rfl, rfl, SqL.of (k6 _ _ np.symm upd_same), hat, ?_⟩
      refine ⟨_, rfl, _, rfl, tp, cl, ns, step, rfl, T6, by omega, fun H7 at0 k7 T7 a0 a1 => ?_⟩
      have kp := (KB.refl tp H5).over (o := .lst [V.int 5, V.int 5, V.int 40, V.int 2000]) hp
      have K7 := ((K4.trans k5).trans kp).trans (k6.trans k7)
      have hsp7 := k7 _ _ nsp (k6 _ _ nsp (kp _ _ nsp (k5 _ _ nsp hsp4)))
      refine ⟨Nat.zero_le _, fun D hD => ?_⟩
      have nD := T7.fresh hD
      have goneD := kb_none K7 T7 hD
      refine ⟨_, rfl, _, rfl, by omega, by omega, ?_⟩
      refine for_it (walk_range (lo := 0) (n := mn.toNat)) (fun i σ H' => ∃ (at1 : Int) (L : List (Addr × Cue)) (k8 k9 : Option V), σ = [some (.ref tp), some (.ref sp), some (.int mn), some (.bl wide), some (.int step), some (.int at1), some (.ref D), k8, k9, none] ∧ KB tp H H' ∧ Tape H' tp cl ns ∧
        H' sp = some (.lst (ss.map V.str)) ∧ H' D = some (.lst (refsC L)) ∧ (∀ e ∈ L, At H' e ∧ CueW e.2 ∧ e.2.tx.length ≤ 900) ∧ 0 ≤ at1 ∧ at1 ≤ 2000 ∧ L.length ≤ i)
        ⟨at0, [], none, none, rfl, K7.over goneD, T7.new hD, (same_new hD) _ _ hsp7, upd_same, fun _ h => (nomatch h), a0, by omega, Nat.le_refl _⟩ (fun _ _ _ _ _ => trivial) ?_ ?_
      · rintro i x σ Ha Hb hi ⟨at1, L, k8, k9, rfl, ka, Ta, hsa, hda, hL, a0, a1, hl⟩ ⟨rfl, rfl⟩
        refine ⟨_, rfl, _, rfl, _, rfl, tp, cl, ns, 1, step, rfl, Ta, by omega, by omega, fun H8 g k8' T8 g1 g2 => ⟨_, _, rfl, rfl, _, _, rfl, ?_⟩⟩
        have hsa8 := k8' _ _ nsp hsa
        have hda8 := k8' _ _ nD.1.symm hda
        have hL8 : ∀ e ∈ L, At H8 e ∧ CueW e.2 ∧ e.2.tx.length ≤ 900 := fun e he => ⟨(hL e he).1.kb Ta k8', (hL e he).2⟩
        generalize hgone : (if at1 + g < 2000 then at1 + g else (2000 : Int)) = gone
        have gone0 : 0 ≤ gone ∧ gone ≤ 2000 := by
          rw [← hgone]
          split <;> omega
        refine ⟨_, rfl, _, _, rfl, rfl, _, rfl, ite2 (fun _ => ?_) (fun _ => ?_)⟩
        · refine ⟨_, rfl, .inl ⟨rfl, _, SqL.of hda8⟩, _, rfl, _, rfl, _, rfl, _, rfl, _, rfl, _, ss.length, rfl, .inl ⟨_, SqL.of hsa8, (List.length_map ..).symm⟩, tp, cl, ns, _, rfl, T8, by omega, fun H9 d9 k9' T9 e0 e1 => ?_⟩
          have hsa9 := k9' _ _ nsp hsa8
          obtain ⟨nm, hnm, hat9⟩ : ∃ nm, nm ∈ ss ∧ atI (ss.map V.str) d9 = some (.str nm) := by
            obtain ⟨k, rfl⟩ : ∃ k : Nat, d9 = (k : Int) := ⟨d9.toNat, by omega⟩
            have dn : k < ss.length := by omega
            exact ⟨ss[k], List.getElem_mem dn, atI_nat (by rw [List.getElem?_map, List.getElem?_eq_getElem dn]; rfl)⟩
          refine ⟨sp, _, d9, _, rfl, rfl, SqL.of hsa9, hat9, _, rfl, _, rfl, tp, cl, ns, wide, rfl, T9, fun H10 z k10 T10 gz => ⟨(by show 4 ≤ sizeLine; decide), fun c hc => ?_⟩⟩
          have sc := same_new (o := .tup [.int at1, .int gone, .str nm, .str z]) hc
          have hda10 := sc _ _ (k10 _ _ nD.1.symm (k9' _ _ nD.1.symm hda8))
          have ncD : D ≠ c := fun e => by
            have := k10 _ _ nD.1.symm (k9' _ _ nD.1.symm hda8)
            rw [e, hc] at this
            cases this
          refine ⟨D, _, _, rfl, rfl, hda10, (by rw [List.length_map]; exact small_line (by omega)), ?_⟩
          have ed : H10 D = some (.lst (refsC L)) := k10 _ _ nD.1.symm (k9' _ _ nD.1.symm hda8)
          have Tc : Tape (upd (upd H10 c (.tup [.int at1, .int gone, .str nm, .str z])) D (.lst (refsC L ++ [.ref c]))) tp cl ns := (T10.new hc).other nD.1 nD.2
          have KK := ((ka.trans k8').trans k9').trans k10
          have Kc : KB tp H (upd (upd H10 c (.tup [.int at1, .int gone, .str nm, .str z])) D (.lst (refsC L ++ [.ref c]))) := (KK.over (kb_none KK T10 hc)).over goneD
          have oldD : ∀ e : Addr × Cue, At (upd H10 c (.tup [.int at1, .int gone, .str nm, .str z])) e → At (upd (upd H10 c (.tup [.int at1, .int gone, .str nm, .str z])) D (.lst (refsC L ++ [.ref c]))) e := fun e he => by
            have he' : (upd H10 c (.tup [.int at1, .int gone, .str nm, .str z])) e.1 = some (.tup e.2.vs) := he
            have ne : e.1 ≠ D := fun z => by
              rw [z, hda10] at he'
              cases he'
            show (upd _ D _) e.1 = _
            rw [upd_ne ne]
            exact he'
          refine ⟨_, rfl, _, rfl, tp, cl, ns, 2, rfl, Tc, by decide, fun H11 x k11 T11 x0 x1 => ⟨_, rfl, _, rfl, tp, cl, ns, step, rfl, T11, by omega, fun H12 y k12 T12 y0 y1 => ⟨_, _, rfl, rfl, .inl ⟨by omega, by omega⟩, _, _, rfl, rfl, _, _, rfl, ?_⟩⟩⟩
          have xy : 0 ≤ x * y := Int.mul_nonneg x0 y0
          have ncD2 : sp ≠ D := fun e => by
            have := k10 _ _ nD.1.symm (k9' _ _ nD.1.symm hda8)
            rw [← e, k10 _ _ nsp hsa9] at this
            have e2 := HO.lst.inj (Option.some.inj this)
            cases ss with
            | nil => cases hnm
            | cons a r =>
              cases L with
              | nil => cases e2
              | cons b r2 => cases (List.cons.inj e2).1
          refine ⟨_, L ++ [(c, ⟨at1, gone, nm, z⟩)], _, _, rfl, Kc.trans (k11.trans k12), T12, k12 _ _ nsp (k11 _ _ nsp ?_), k12 _ _ nD.1.symm (k11 _ _ nD.1.symm ?_), fun e he => ?_, ?_, ?_, ?_⟩
          · rw [upd_ne ncD2]
            exact sc _ _ (k10 _ _ nsp hsa9)
          · rw [upd_same]
            show _ = some (HO.lst (List.map _ _))
            rw [List.map_append]
            rfl
          · rcases List.mem_append.mp he with h | h
            · exact ⟨((oldD e (((hL8 e h).1.kb T8 (k9'.trans k10)).keep sc)).kb Tc (k11.trans k12)), (hL8 e h).2⟩
            · rw [List.mem_singleton.mp h]
              have h0 : At (upd H10 c (.tup [.int at1, .int gone, .str nm, .str z])) (c, ⟨at1, gone, nm, z⟩) := upd_same
              have := gz.few
              exact ⟨(oldD _ h0).kb Tc (k11.trans k12), cue_w a0 a1 gone0.1 gone0.2 (hss nm hnm) gz, by show z.length ≤ 900; omega⟩
          · split <;> omega
          · split <;> omega
          · rw [List.length_append]
            exact Nat.succ_le_succ hl
        · exact ⟨at1, L, _, _, rfl, ka.trans k8', T8, hsa8, hda8, hL8, a0, a1, Nat.le_succ_of_le hl⟩
      · rintro σ H' ⟨at1, L, k8, k9, rfl, ka, Ta, hsa, hda, hL, a0, a1, hl⟩
        refine ⟨_, rfl, _, _, rfl, _, rfl, tp, cl, ns, 2, rfl, Ta, by decide, fun H8 x k8' T8 x0 x1 => ⟨_, rfl, tp, cl, ns, 9, rfl, T8, by decide, fun H9 y k9' T9 y0 y1 => ⟨_, _, rfl, rfl, .inl ⟨by omega, by omega⟩, _, _, rfl, rfl, _, _, rfl, ?_⟩⟩⟩
        have xy : 0 ≤ x * y := Int.mul_nonneg x0 y0
        have mx : 1 ≤ (if at1 > 1 then at1 else 1) := by split <;> omega
        generalize hlen : (if (if at1 > 1 then at1 else 1) + x * y < 2000 then (if at1 > 1 then at1 else 1) + x * y else (2000 : Int)) = ln
        have ln0 : 1 ≤ ln ∧ ln ≤ 2000 := by
          rw [← hlen]
          split <;> omega
        refine ⟨_, rfl, (by show 2 ≤ sizeLine; decide), fun p2 hp2 => ⟨_, rfl, tp, cl, ns, 4, rfl, T9.new hp2, by decide, fun H10 d4 k10 T10 e0 e1 => ⟨_, _, rfl, rfl, ⟨by decide, by decide⟩, ?_⟩⟩⟩
        have kp2 := (KB.refl tp H9).over (o := .lst [V.int ln, V.int 2000]) hp2
        have np2 := (T9.fresh hp2).1
        obtain ⟨len, le1, le2, hat2⟩ : ∃ len : Nat, 1 ≤ len ∧ len ≤ 2000 ∧ atI [V.int ln, V.int 2000] (d4.fdiv 3) = some (.int (len : Nat)) := by
          have hd : d4 = 0 ∨ d4 = 1 ∨ d4 = 2 ∨ d4 = 3 := by omega
          have hl : ln = ((ln.toNat : Nat) : Int) := (Int.toNat_of_nonneg (by omega)).symm
          rcases hd with h | h | h | h <;> subst h
          · exact ⟨ln.toNat, by omega, by omega, by rw [← hl]; rfl⟩
          · exact ⟨ln.toNat, by omega, by omega, by rw [← hl]; rfl⟩
          · exact ⟨ln.toNat, by omega, by omega, by rw [← hl]; rfl⟩
          · exact ⟨2000, by decide, by decide, rfl⟩
        refine ⟨p2, _, _, _, rfl, rfl, SqL.of (k10 _ _ np2.symm upd_same), hat2, _, rfl, (by show 2 ≤ sizeLine; decide), fun r hr => ?_⟩
        have KE := (k8'.trans k9').trans (kp2.trans k10)
        have KH := ka.trans KE
        refine q _ r len L (KH.over (kb_none KH T10 hr)) (T10.new hr) ⟨⟨D, upd_same, (same_new hr) _ _ (KE _ _ nD.1.symm hda)⟩, fun e he => ⟨((hL e he).1.kb Ta KE).keep (same_new hr), (hL e he).2⟩, le1, le2, by omega⟩
end
end Sea
namespace Sea
open PySem PySem.Spec PyProof.Rows L2
/-! one number exchanged -/
theorem ixN_in {n j : Nat} (hj : j < n) : ixN n (j : Int) = some j := by
  unfold ixN
  rw [if_pos (by omega), if_pos (by omega)]
  simp
def spChanged : Sp := fun vs H Q _ => ∃ (tp cl : Addr) (ns : List Int) (r : Addr) (len : Nat) (L : List (Addr × Cue)), vs = [.ref tp, .ref r] ∧ Tape H tp cl ns ∧ LenCues H r len L ∧
  ∀ (H' : Hp) (r' : Addr) (len' : Nat) (L' : List (Addr × Cue)), KB tp H H' → Tape H' tp cl ns → LenCues H' r' len' L' → Q (.ref r') H'
section
variable {P : Program} {w : World} {K : PySem.W.Frag} {mg : Str → Option Value} {base : Heap}
theorem ok_changed {f : Addr} {fd : FuncData} (F : Fun K "_law_changed" "_law_changed" s__law_changed f fd) (m_list : mg "list" = none) (m_len : mg "len" = none) (m_min : mg "min" = none) (m_max : mg "max" = none)
    (c__law_pick : Cal P w K mg base 1 "_law_pick" spPick) (c__law_some : Cal P w K mg base 2 "_law_some" spSome) :
    FnOk P w K mg base CX0 3 f fd ["_law_tape_here", "_law_told_here"] spChanged := by
  refine F.ok sc__law_changed (fun vs H Q E h => ?_) (fun cdv A outer s H vs Q E hr h => ?_)
  · obtain ⟨tp, cl, ns, r, len, L, rfl, _⟩ := h
    rfl
  · obtain ⟨tp, cl, ns, r, len, L, rfl, T, lc, q⟩ := h
    refine ⟨_, (pss_cons (ps_set (i := 2) sc__law_changed.nd rfl (Or.inl rfl) (pe_ix ix_list (pv 1) (pe_int) (fun _ _ => rfl)))
    (pss_cons (ps_set (i := 3) sc__law_changed.nd rfl (Or.inl rfl) (pe_callTy call_list_of (by rfl) m_list (by decide +kernel) (pa_cons (pe_ix ix_list (pv 1) (pe_int) (fun _ _ => rfl)) pa_nil)))
    (pss_cons (ps_set (i := 4) sc__law_changed.nd rfl (Or.inl rfl) (pe_c c__law_some hr (by decide) rfl (pa_cons (pv 0) (pa_cons (pe_int) (pa_cons (pe_int) pa_nil)))))
    (C8.pss_cut (ps_if (pt_truth (pv 3) (by intro _; rfl))
    (pss_cons (ps_set (i := 5) sc__law_changed.nd rfl (Or.inl rfl) (pe_c c__law_pick hr (by decide) rfl (pa_cons (pv 0) (pa_cons (pe_callB call_len (by rfl) m_len (by decide +kernel) (pa_cons (pv 3) pa_nil)) pa_nil))))
    (pss_cons (ps_set (i := 6) sc__law_changed.nd rfl (Or.inl rfl) (pe_ix ix_list (pv 3) (pv 5) (fun _ _ => rfl)))
    (pss_cons (ps_set (i := 7) sc__law_changed.nd rfl (Or.inl rfl) (pe_lst (pa_cons (pv 4) (pa_cons (pe_ix ix_tup (pv 6) (pe_int) (fun _ _ => rfl)) (pa_cons (pe_ix ix_tup (pv 6) (pe_int) (fun _ _ => rfl)) (pa_cons (pe_callB (call_min2 rfl) (by rfl) m_min (by decide +kernel) (pa_cons (pe_int) (pa_cons (pe_op op_add (pe_ix ix_tup (pv 6) (pe_int) (fun _ _ => rfl)) (pe_int)) pa_nil))) (pa_cons (pe_callB (call_max2 rfl) (by rfl) m_max (by decide +kernel) (pa_cons (pe_int) (pa_cons (pe_op op_sub (pe_ix ix_tup (pv 6) (pe_int) (fun _ _ => rfl)) (pe_int)) pa_nil))) (pa_cons (pe_op op_sub (pv 2) (pe_int)) (pa_cons (pe_callB (call_min2 rfl) (by rfl) m_min (by decide +kernel) (pa_cons (pe_int) (pa_cons (pe_op op_add (pv 2) (pe_int)) pa_nil))) pa_nil)))))))))
    (pss_cons (ps_set (i := 4) sc__law_changed.nd rfl (Or.inl rfl) (pe_ix ix_list (pv 7) (pe_c c__law_pick hr (by decide) rfl (pa_cons (pv 0) (pa_cons (pe_int) pa_nil))) (fun _ _ => rfl)))
    (pss_cons (ps_set (i := 8) sc__law_changed.nd rfl (Or.inl rfl) (pe_c c__law_pick hr (by decide) rfl (pa_cons (pv 0) (pa_cons (pe_int) pa_nil))))
    (pss_one (ps_if (pt_cmpR op_eq (pv 8) (pe_int) (nomark _))
    (pss_one (ps_asg (pe_tup (pa_cons (pv 4) (pa_cons (pe_ix ix_tup (pv 6) (pe_int) (fun _ _ => rfl)) (pa_cons (pe_ix ix_tup (pv 6) (pe_int) (fun _ _ => rfl)) (pa_cons (pe_ix ix_tup (pv 6) (pe_int) (fun _ _ => rfl)) pa_nil))))) (pg_sub (pv 3) (pv 5) set_list)))
    (pss_one (ps_if (pt_cmpR op_eq (pv 8) (pe_int) (nomark _))
    (pss_one (ps_asg (pe_tup (pa_cons (pe_ix ix_tup (pv 6) (pe_int) (fun _ _ => rfl)) (pa_cons (pv 4) (pa_cons (pe_ix ix_tup (pv 6) (pe_int) (fun _ _ => rfl)) (pa_cons (pe_ix ix_tup (pv 6) (pe_int) (fun _ _ => rfl)) pa_nil))))) (pg_sub (pv 3) (pv 5) set_list)))
    pss_nil)))))))))
    (pss_one (ps_set (i := 8) sc__law_changed.nd rfl (Or.inl rfl) (pe_int))))
    (pss_cons (ps_if (pt_cmpR op_eq (pv 8) (pe_int) (nomark _))
    (pss_one (ps_set (i := 2) sc__law_changed.nd rfl (Or.inl rfl) (pe_callB (call_max2 rfl) (by rfl) m_max (by decide +kernel) (pa_cons (pe_int) (pa_cons (pv 4) pa_nil)))))
    pss_nil)
    (pss_one (ps_ret (pe_lst (pa_cons (pv 2) (pa_cons (pv 3) pa_nil)))))))))), ?_⟩
    obtain ⟨⟨a, hr0, ha⟩, hL, l1, l2, hsz⟩ := lc
    have sl : sizeLine = 16777216 := sizeLine_eq
    refine ⟨_, rfl, r, _, 0, _, rfl, rfl, SqL.of hr0, atI_nat (j := 0) rfl, ?_⟩
    refine ⟨_, rfl, r, _, 1, _, rfl, rfl, SqL.of hr0, atI_nat (j := 1) rfl, a, _, rfl, .inl (SqL.of ha), fun D hD => ?_⟩
    have nD := T.fresh hD
    have sD := same_new (o := .lst (refsC L)) hD
    refine ⟨_, rfl, tp, cl, ns, 0, 2000, rfl, T.new hD, by decide, by decide, fun H1 nu k1 T1 u0 u1 => ?_⟩
    have K1 := ((KB.refl tp H).over (o := .lst (refsC L)) hD).trans k1
    have hD1 : H1 D = some (.lst (refsC L)) := k1 _ _ nD.1.symm upd_same
    have hL1 : ∀ e ∈ L, At H1 e ∧ CueW e.2 ∧ e.2.tx.length ≤ 900 := fun e he => ⟨((hL e he).1.keep sD).kb (T.new hD) k1, (hL e he).2⟩
    refine ⟨fun σ' H' => ∃ (nu way : Int) (k5 k6 k7 : Option V) (L' : List (Addr × Cue)), σ' = [some (.ref tp), some (.ref r), some (.int (len : Nat)), some (.ref D), some (.int nu), k5, k6, k7, some (.int way)] ∧ KB tp H H' ∧ Tape H' tp cl ns ∧
      H' D = some (.lst (refsC L')) ∧ (∀ e ∈ L', At H' e ∧ CueW e.2 ∧ e.2.tx.length ≤ 900) ∧ L'.length = L.length ∧ 0 ≤ nu ∧ nu ≤ 2000, ?_, ?_⟩
    · refine ⟨_, rfl, _, .inl ⟨_, SqL.of hD1, rfl⟩, ?_⟩
      by_cases lz : L = []
      · subst lz
        exact ⟨nu, 2, _, _, _, [], rfl, K1, T1, hD1, fun _ h => (nomatch h), rfl, u0, u1⟩
      · have lpos : 0 < L.length := List.length_pos_iff.mpr lz
        refine ite2 (fun _ => ?_) (fun no => absurd ?_ no)
        rotate_left
        · cases L with
          | nil => exact absurd rfl lz
          | cons e0 r0 => rfl
        refine ⟨_, rfl, _, rfl, _, L.length, rfl, .inl ⟨_, SqL.of hD1, (List.length_map ..).symm⟩, tp, cl, ns, _, rfl, T1, by omega, fun H2 d k2 T2 d0 d1 => ?_⟩
        have hD2 : H2 D = some (.lst (refsC L)) := k2 _ _ nD.1.symm hD1
        have hL2 : ∀ e ∈ L, At H2 e ∧ CueW e.2 ∧ e.2.tx.length ≤ 900 := fun e he => ⟨(hL1 e he).1.kb T1 k2, (hL1 e he).2⟩
        have K2 := K1.trans k2
        obtain ⟨k, rfl⟩ : ∃ k : Nat, d = (k : Int) := ⟨d.toNat, by omega⟩
        have dk : k < L.length := by omega
        obtain ⟨e, he⟩ : ∃ e, L[k]? = some e := ⟨_, List.getElem?_eq_getElem dk⟩
        obtain ⟨eA, W, ew⟩ := hL2 e (List.mem_of_getElem? he)
        have hat : atI (refsC L) ((k : Nat) : Int) = some (V.ref e.1) := atI_nat (by rw [List.getElem?_map, he]; rfl)
        have hA : SqT K H2 e.1 e.2.vs := SqT.of eA
        refine ⟨_, rfl, _, rfl, D, _, _, _, rfl, rfl, SqL.of hD2, hat, ?_⟩
        refine ⟨_, rfl, _, rfl, e.1, _, 0, _, rfl, rfl, hA, atI_nat (j := 0) rfl, _, rfl, e.1, _, 1, _, rfl, rfl, hA, atI_nat (j := 1) rfl,
          _, rfl, e.1, _, 0, _, rfl, rfl, hA, atI_nat (j := 0) rfl, _, _, rfl, rfl, _, _, rfl,
          _, rfl, e.1, _, 0, _, rfl, rfl, hA, atI_nat (j := 0) rfl, _, _, rfl, rfl, _, _, rfl,
          _, rfl, _, _, rfl, rfl, _, rfl, _, _, rfl, rfl, _, _, rfl, (by show 7 ≤ sizeLine; decide), fun p hp => ?_⟩
        generalize hb1 : (if e.2.s + 1 < 2000 then e.2.s + 1 else (2000 : Int)) = b1
        generalize hb2 : (if e.2.s - 1 > 0 then e.2.s - 1 else (0 : Int)) = b2
        generalize hb3 : (if ((len : Nat) : Int) + 1 < 2000 then ((len : Nat) : Int) + 1 else (2000 : Int)) = b3
        have g1 : 0 ≤ b1 ∧ b1 ≤ 2000 := by
          have := W.s0
          rw [← hb1]
          split <;> omega
        have g2 : 0 ≤ b2 ∧ b2 ≤ 2000 := by
          have := W.s1
          rw [← hb2]
          split <;> omega
        have g3 : 0 ≤ b3 ∧ b3 ≤ 2000 := by
          rw [← hb3]
          split <;> omega
        have np := (T2.fresh hp).1
        have sp := same_new (o := .lst [.int nu, .int e.2.s, .int e.2.e, .int b1, .int b2, .int (((len : Nat) : Int) - 1), .int b3]) hp
        refine ⟨_, rfl, _, rfl, tp, cl, ns, 7, rfl, T2.new hp, by decide, fun H3 d3 k3 T3 e0 e1 => ?_⟩
        obtain ⟨nv, v0, v1, hatv⟩ : ∃ nv : Int, 0 ≤ nv ∧ nv ≤ 2000 ∧ atI [V.int nu, .int e.2.s, .int e.2.e, .int b1, .int b2, .int (((len : Nat) : Int) - 1), .int b3] d3 = some (.int nv) := by
          have h1 := W.s0
          have h2 := W.s1
          have h3 := W.e0
          have h4 := W.e1
          have hd : d3 = 0 ∨ d3 = 1 ∨ d3 = 2 ∨ d3 = 3 ∨ d3 = 4 ∨ d3 = 5 ∨ d3 = 6 := by omega
          rcases hd with h | h | h | h | h | h | h <;> subst h
          · exact ⟨nu, u0, u1, rfl⟩
          · exact ⟨_, h1, h2, rfl⟩
          · exact ⟨_, h3, h4, rfl⟩
          · exact ⟨_, g1.1, g1.2, rfl⟩
          · exact ⟨_, g2.1, g2.2, rfl⟩
          · exact ⟨((len : Nat) : Int) - 1, by omega, by omega, rfl⟩
          · exact ⟨_, g3.1, g3.2, rfl⟩
        refine ⟨p, _, d3, _, rfl, rfl, SqL.of (k3 _ _ np.symm upd_same), hatv, ?_⟩
        refine ⟨_, rfl, tp, cl, ns, 3, rfl, T3, by decide, fun H4 way k4 T4 w0 w1 => ?_⟩
        have k24 := ((KB.refl tp H2).over (o := .lst [.int nu, .int e.2.s, .int e.2.e, .int b1, .int b2, .int (((len : Nat) : Int) - 1), .int b3]) hp).trans (k3.trans k4)
        have K4 := K2.trans k24
        have hD4 : H4 D = some (.lst (refsC L)) := k24 _ _ nD.1.symm hD2
        have hL4 : ∀ e ∈ L, At H4 e ∧ CueW e.2 ∧ e.2.tx.length ≤ 900 := fun e he => ⟨(hL2 e he).1.kb T2 k24, (hL2 e he).2⟩
        have hA4 : SqT K H4 e.1 e.2.vs := SqT.of (hL4 e (List.mem_of_getElem? he)).1
        -- a cue put in another's place
        have put : ∀ (c : Addr) (g : Cue), H4 c = none → CueW g → g.tx.length ≤ 900 → ∃ L' : List (Addr × Cue), (upd (upd H4 c (.tup g.vs)) D (.lst ((refsC L).set k (.ref c)))) D = some (.lst (refsC L')) ∧
            KB tp H (upd (upd H4 c (.tup g.vs)) D (.lst ((refsC L).set k (.ref c)))) ∧ Tape (upd (upd H4 c (.tup g.vs)) D (.lst ((refsC L).set k (.ref c)))) tp cl ns ∧
            (∀ e ∈ L', At (upd (upd H4 c (.tup g.vs)) D (.lst ((refsC L).set k (.ref c)))) e ∧ CueW e.2 ∧ e.2.tx.length ≤ 900) ∧ L'.length = L.length := fun c g hc Wg tg => by
          have sc := same_new (o := .tup g.vs) hc
          have hDc : (upd H4 c (.tup g.vs)) D = some (.lst (refsC L)) := sc _ _ hD4
          have oldD : ∀ e : Addr × Cue, At (upd H4 c (.tup g.vs)) e → At (upd (upd H4 c (.tup g.vs)) D (.lst ((refsC L).set k (.ref c)))) e := fun e he => by
            have he' : (upd H4 c (.tup g.vs)) e.1 = some (.tup e.2.vs) := he
            have ne : e.1 ≠ D := fun z => by
              rw [z, hDc] at he'
              cases he'
            show (upd _ D _) e.1 = _
            rw [upd_ne ne]
            exact he'
          refine ⟨L.set k (c, g), ?_, (K4.over (kb_none K4 T4 hc)).over hD, (T4.new hc).other nD.1 nD.2, fun x hx => ?_, List.length_set⟩
          · rw [upd_same]
            show _ = some (HO.lst (List.map _ _))
            rw [List.map_set]
          · rcases List.mem_or_eq_of_mem_set hx with h | h
            · exact ⟨oldD x ((hL4 x h).1.keep sc), (hL4 x h).2⟩
            · rw [h]
              exact ⟨oldD (c, g) upd_same, Wg, tg⟩
        refine ⟨_, rfl, rfl, _, rfl, ite2 (fun _ => ?_) (fun _ => ?_)⟩
        · refine ⟨_, rfl, _, rfl, e.1, _, 1, _, rfl, rfl, hA4, atI_nat (j := 1) rfl, _, rfl, e.1, _, 2, _, rfl, rfl, hA4, atI_nat (j := 2) rfl, _, rfl, e.1, _, 3, _, rfl, rfl, hA4, atI_nat (j := 3) rfl, (by show 4 ≤ sizeLine; decide), fun c hc => ?_⟩
          obtain ⟨L', q1, q2, q3, q4, q5⟩ := put c ⟨nv, e.2.e, e.2.nm, e.2.tx⟩ hc ⟨v0, v1, W.e0, W.e1, W.nm, W.tx, W.wd, W.gd⟩ ew
          exact ⟨_, rfl, _, rfl, D, _, _, k, rfl, rfl, (same_new hc) _ _ hD4, by rw [List.length_map]; exact ixN_in dk, nv, way, _, _, _, L', rfl, q2, q3, q1, q4, q5, v0, v1⟩
        · refine ⟨_, rfl, rfl, _, rfl, ite2 (fun _ => ?_) (fun _ => ?_)⟩
          · refine ⟨_, rfl, e.1, _, 0, _, rfl, rfl, hA4, atI_nat (j := 0) rfl, _, rfl, _, rfl, e.1, _, 2, _, rfl, rfl, hA4, atI_nat (j := 2) rfl, _, rfl, e.1, _, 3, _, rfl, rfl, hA4, atI_nat (j := 3) rfl, (by show 4 ≤ sizeLine; decide), fun c hc => ?_⟩
            obtain ⟨L', q1, q2, q3, q4, q5⟩ := put c ⟨e.2.s, nv, e.2.nm, e.2.tx⟩ hc ⟨W.s0, W.s1, v0, v1, W.nm, W.tx, W.wd, W.gd⟩ ew
            exact ⟨_, rfl, _, rfl, D, _, _, k, rfl, rfl, (same_new hc) _ _ hD4, by rw [List.length_map]; exact ixN_in dk, nv, way, _, _, _, L', rfl, q2, q3, q1, q4, q5, v0, v1⟩
          · exact ⟨nv, way, _, _, _, L, rfl, K4, T4, hD4, hL4, rfl, v0, v1⟩
    · rintro σ' H' ⟨nu, way, k5, k6, k7, L', rfl, kh, Th, hd, hL', hl, u0, u1⟩
      have fin : ∀ (ln : Int) (p : Addr), 1 ≤ ln → ln ≤ 2000 → H' p = none → Q (.ref p) (upd H' p (.lst [.int ln, .ref D])) := fun ln p n1 n2 hp => by
        obtain ⟨k, rfl⟩ : ∃ k : Nat, ln = (k : Int) := ⟨ln.toNat, by omega⟩
        exact q _ p k L' (kh.over (kb_none kh Th hp)) (Th.new hp) ⟨⟨D, upd_same, (same_new hp) _ _ hd⟩, fun e he => ⟨(hL' e he).1.keep (same_new hp), (hL' e he).2⟩, by omega, by omega, by omega⟩
      refine ⟨_, rfl, rfl, _, rfl, ite2 (fun _ => ?_) (fun _ => ?_)⟩
      · refine ⟨_, rfl, _, _, rfl, _, rfl, _, rfl, (by show 2 ≤ sizeLine; decide), fun p hp => fin _ p ?_ ?_ hp⟩
        · split <;> omega
        · split <;> omega
      · exact ⟨_, rfl, _, rfl, (by show 2 ≤ sizeLine; decide), fun p hp => fin _ p (by omega) (by omega) hp⟩
end
end Sea
namespace Sea
open PySem PySem.Spec PyProof.Rows L2
/-! the law -/
theorem numS_inj {m n : Nat} (h : numS m = numS n) : m = n := TL.numL_inj (by rw [← num_cp, ← num_cp, h])
theorem lineC_inj {c d : Cue} (W : CueW c) (V : CueW d) (h : lineC c = lineC d) : c = d := by
  obtain ⟨ws, w1, w2, w3⟩ := W.wd
  obtain ⟨vs, v1, v2, v3⟩ := V.wd
  have e : Txt.split (lineC c) B1 = Txt.split (lineC d) B1 := by rw [h]
  rw [split_cue W w1 w2 w3, split_cue V v1 v2 v3] at e
  have e1 := (List.cons.inj e).2
  have e2 := List.cons.inj e1
  have e3 := List.cons.inj e2.2
  have e4 := List.cons.inj e3.2
  have s1 := numS_inj e2.1
  have s2 := numS_inj e3.1
  have a1 := W.s0
  have a2 := W.e0
  have b1 := V.s0
  have b2 := V.e0
  obtain ⟨cs, ce, cn, ct⟩ := c
  obtain ⟨ds, de, dn, dt⟩ := d
  have q1 : cs = ds := by
    have : cs.toNat = ds.toNat := s1
    have : 0 ≤ cs := a1
    have : 0 ≤ ds := b1
    omega
  have q2 : ce = de := by
    have : ce.toNat = de.toNat := s2
    have : 0 ≤ ce := a2
    have : 0 ≤ de := b2
    omega
  have q3 : cn = dn := e4.1
  have q4 : ct = dt := by
    have z1 : ct = _ := w3
    have z2 : dt = _ := v3
    rw [z1, z2, e4.2]
  rw [q1, q2, q3, q4]
theorem lineR_inj {m n : Nat} (h : lineR m = lineR n) : m = n := by
  have e : Txt.split (lineR m) B1 = Txt.split (lineR n) B1 := by rw [h]
  rw [split_reel, split_reel] at e
  exact numS_inj (List.cons.inj (List.cons.inj e).2).1
theorem linesC_inj : ∀ {cs ds : List Cue}, (∀ c ∈ cs, CueW c) → (∀ c ∈ ds, CueW c) → cs.map lineC = ds.map lineC → cs = ds
  | [], [], _, _, _ => rfl
  | [], _ :: _, _, _, h => by cases h
  | _ :: _, [], _, _, h => by cases h
  | c :: r, d :: q, h1, h2, h => by
    have e := List.cons.inj h
    rw [lineC_inj (h1 c List.mem_cons_self) (h2 d List.mem_cons_self) e.1, linesC_inj (fun x hx => h1 x (List.mem_cons_of_mem _ hx)) (fun x hx => h2 x (List.mem_cons_of_mem _ hx)) e.2]
theorem lines_inj {m n : Nat} {cs ds : List Cue} (h1 : ∀ c ∈ cs, CueW c) (h2 : ∀ c ∈ ds, CueW c) : (lineR m :: cs.map lineC = lineR n :: ds.map lineC) ↔ (m = n ∧ cs = ds) := by
  constructor
  · intro h
    have e := List.cons.inj h
    exact ⟨lineR_inj e.1, linesC_inj h1 h2 e.2⟩
  · rintro ⟨rfl, rfl⟩
    rfl
def spLaw (K : PySem.W.Frag) : Sp := fun vs H Q _ => ∃ (a : Addr) (ns : List Int), vs = [.ref a] ∧ SqL K H a (ns.map V.int) ∧ ns.length ≤ 63 ∧ ∀ H', Q (.bl true) H'
section
variable {P : Program} {w : World} {K : PySem.W.Frag} {mg : Str → Option Value} {base : Heap} {CB CM CR fR fE : Addr}
theorem ok_law {f : Addr} {fd : FuncData} (F : Fun K "law" "law" s_law f fd) (m_range : mg "range" = none) (T : RC K mg CR fR)
    {fdE : FuncData} (FE : FnOk P w K mg base CX0 1 fE fdE ["self", "other"] (spReelEq CR)) (bE : Binds K fdE ["self", "other"] []) (hE : PySem.W.findIn K (.ref CR) "__eq__" = some (some (.ref fE))) (iE : PySem.W.isFn K (.ref fE) = true)
    (c__law_tape : Cal P w K mg base 1 "_law_tape" (spTape K)) (c__law_pick : Cal P w K mg base 1 "_law_pick" spPick) (c__law_reel : Cal P w K mg base 5 "_law_reel" spLawReel) (c__law_changed : Cal P w K mg base 3 "_law_changed" spChanged)
    (c__law_right : Cal P w K mg base 9 "_law_right" spRight) (c__law_lines : Cal P w K mg base 1 "_law_lines" spLines) (c__law_due : Cal P w K mg base 1 "_law_due" spDue) (c__law_same : Cal P w K mg base 4 "_law_same" (spSame 3)) (c__law_told : Cal P w K mg base 8 "_law_told" spTold)
    (c_read_reel : CalX P w K mg base 7 "read_reel" (spRead CR CB CM)) : FnOk P w K mg base CX0 10 f fd ["_law_script"] (spLaw K) := by
  refine F.ok sc_law (fun vs H Q E h => ?_) (fun cdv A outer s H vs Q E hr h => ?_)
  · obtain ⟨a, ns, rfl, _⟩ := h
    rfl
  · obtain ⟨a, ns, rfl, hS, hl, q⟩ := h
    refine ⟨_, (pss_cons (ps_set (i := 1) sc_law.nd rfl (Or.inl rfl) (pe_c c__law_tape hr (by decide) rfl (pa_cons (pv 0) pa_nil)))
    (pss_cons (ps_set (i := 2) sc_law.nd rfl (Or.inl rfl) (pe_c c__law_reel hr (by decide) rfl (pa_cons (pv 1) pa_nil)))
    (pss_cons (ps_for PassesOwn.never rfl (pi_range1 (by rfl) m_range (pa_cons (pe_c c__law_pick hr (by decide) rfl (pa_cons (pv 1) (pa_cons (pe_int) pa_nil))) pa_nil)) (pg_name (i := 3) sc_law.nd rfl (Or.inl rfl))
    (pss_one (ps_set (i := 2) sc_law.nd rfl (Or.inl rfl) (pe_c c__law_changed hr (by decide) rfl (pa_cons (pv 1) (pa_cons (pv 2) pa_nil))))))
    (pss_cons (ps_set (i := 4) sc_law.nd rfl (Or.inl rfl) (pe_c c__law_reel hr (by decide) rfl (pa_cons (pv 1) pa_nil)))
    (pss_cons (ps_if (PW.pt (pw_or (pt_not (pt_val (pe_c c__law_right hr (by decide) rfl (pa_cons (pv 2) pa_nil)))) (pw_or1 (pt_not (pt_val (pe_c c__law_right hr (by decide) rfl (pa_cons (pv 4) pa_nil)))))))
    (pss_one (ps_ret (pe_bl)))
    pss_nil)
    (pss_cons (ps_set (i := 5) sc_law.nd rfl (Or.inl rfl) (pe_c c__law_lines hr (by decide) rfl (pa_cons (pe_ix ix_list (pv 2) (pe_int) (fun _ _ => rfl)) (pa_cons (pe_ix ix_list (pv 2) (pe_int) (fun _ _ => rfl)) pa_nil))))
    (pss_cons (ps_set (i := 6) sc_law.nd rfl (Or.inl rfl) (pe_c c__law_lines hr (by decide) rfl (pa_cons (pe_ix ix_list (pv 4) (pe_int) (fun _ _ => rfl)) (pa_cons (pe_ix ix_list (pv 4) (pe_int) (fun _ _ => rfl)) pa_nil))))
    (pss_cons (ps_if (pt_not (pt_val (pe_c c__law_same hr (by decide) rfl (pa_cons (pe_c c__law_told hr (by decide) rfl (pa_cons (pv 5) pa_nil)) (pa_cons (pe_c c__law_due hr (by decide) rfl (pa_cons (pe_ix ix_list (pv 2) (pe_int) (fun _ _ => rfl)) (pa_cons (pe_ix ix_list (pv 2) (pe_int) (fun _ _ => rfl)) pa_nil))) pa_nil)))))
    (pss_one (ps_ret (pe_bl)))
    pss_nil)
    (pss_cons (ps_if (PW.pt (pw_and (pt_cmpR op_eq (pe_ix ix_tup (pe_c c__law_due hr (by decide) rfl (pa_cons (pe_ix ix_list (pv 2) (pe_int) (fun _ _ => rfl)) (pa_cons (pe_ix ix_list (pv 2) (pe_int) (fun _ _ => rfl)) pa_nil))) (pe_int) (fun _ _ => rfl)) (pe_str) (nomark _)) (pw_and1 (pt_cmpR op_eq (pe_ix ix_tup (pe_c c__law_due hr (by decide) rfl (pa_cons (pe_ix ix_list (pv 4) (pe_int) (fun _ _ => rfl)) (pa_cons (pe_ix ix_list (pv 4) (pe_int) (fun _ _ => rfl)) pa_nil))) (pe_int) (fun _ _ => rfl)) (pe_str) (nomark _)))))
    (pss_one (ps_ret (pe_cmpR op_eq (pe_cmpR (op_ownEq FE hr (by decide) hE iE bE) (show PE _ _ (tCallSD (spRead CR CB CM) [] (WE fun _ _ _ _ => False) (tCons (tVar 5) tNil)) by
          refine pe_cX (k := 7) (j := 9) (sp := spRead CR CB CM) ?_ ?_ ?_ ?_ ?_ ?_
          · exact c_read_reel
          · exact hr
          · decide
          · rfl
          · exact (fun σ => passAt takes0 σ)
          · exact (pa_cons (pv 5) pa_nil)) (show PE _ _ (tCallSD (spRead CR CB CM) [] (WE fun _ _ _ _ => False) (tCons (tVar 6) tNil)) by
          refine pe_cX (k := 7) (j := 9) (sp := spRead CR CB CM) ?_ ?_ ?_ ?_ ?_ ?_
          · exact c_read_reel
          · exact hr
          · decide
          · rfl
          · exact (fun σ => passAt takes0 σ)
          · exact (pa_cons (pv 6) pa_nil)) (nomark _)) (pe_cmpR (op_eqD hr.units) (pv 5) (pv 6) (nomark _)) (nomark _))))
    pss_nil)
    (pss_one (ps_ret (pe_bl)))))))))))), ?_⟩
    refine ⟨_, rfl, a, ns, rfl, hS, hl, fun H1 tp cl ns' s1 T1 => ?_⟩
    refine ⟨_, rfl, tp, cl, ns', rfl, T1, fun H2 r0 len0 L0 k2 T2 lc0 => ?_⟩
    refine ⟨_, rfl, tp, cl, ns', 3, rfl, T2, by decide, fun H3 m k3 T3 m0 m1 => ⟨_, rfl, by omega, by omega, ?_⟩⟩
    refine for_it (walk_range (lo := 0) (n := m.toNat)) (fun i σ H' => ∃ (r : Addr) (len : Nat) (L : List (Addr × Cue)) (k : Option V), σ = [some (.ref a), some (.ref tp), some (.ref r), k, none, none, none] ∧ Tape H' tp cl ns' ∧ LenCues H' r len L)
      ⟨r0, len0, L0, none, rfl, T3, lc0.kb T2 k3⟩ (fun _ _ _ _ _ => trivial) ?_ ?_
    · rintro i x σ Ha Hb hi ⟨r, len, L, k, rfl, Tb, lc⟩ ⟨rfl, rfl⟩
      exact ⟨_, rfl, _, rfl, tp, cl, ns', r, len, L, rfl, Tb, lc, fun H4 r' len' L' k4 T4 lc' => ⟨r', len', L', _, rfl, T4, lc'⟩⟩
    · rintro σ H4 ⟨r, len, L, k, rfl, T4, lc⟩
      refine ⟨_, rfl, tp, cl, ns', rfl, T4, fun H5 r' len' L' k5 T5 lc' => ?_⟩
      have lc5 := lc.kb T4 k5
      refine ⟨_, rfl, r, len, L, rfl, lc5, fun H6 s6 => ⟨_, rfl, ?_⟩⟩
      refine ⟨_, rfl, r', len', L', rfl, lc'.keep s6, fun H7 s7 => ⟨_, rfl, ?_⟩⟩
      have lcA := lc5.keep (s6.trans s7)
      have lcB := lc'.keep (s6.trans s7)
      obtain ⟨⟨a1, hr1, ha1⟩, hL1, l1, l2, few1⟩ := lcA
      obtain ⟨⟨b1, hr2, hb1⟩, hL2, j1, j2, few2⟩ := lcB
      have at0 : ∀ {n : Nat} {b : Addr}, atI [V.int (n : Nat), V.ref b] 0 = some (.int (n : Nat)) := fun {n b} => atI_nat (j := 0) rfl
      have at1 : ∀ {n : Nat} {b : Addr}, atI [V.int (n : Nat), V.ref b] 1 = some (.ref b) := fun {n b} => atI_nat (j := 1) rfl
      refine ⟨_, rfl, r, _, 0, _, rfl, rfl, SqL.of hr1, at0, _, rfl, r, _, 1, _, rfl, rfl, SqL.of hr1, at1, a1, len, L, rfl, ha1, hL1, l2, by omega, fun H8 p s8 h8 => ?_⟩
      refine ⟨_, rfl, r', _, 0, _, rfl, rfl, SqL.of (s8 _ _ hr2), at0, _, rfl, r', _, 1, _, rfl, rfl, SqL.of (s8 _ _ hr2), at1, b1, len', L', rfl, s8 _ _ hb1, fun e he => ⟨(hL2 e he).1.keep s8, (hL2 e he).2⟩, j2, by omega, fun H9 p' s9 h9 => ?_⟩
      have hW1 : ∀ c ∈ cuesC L, CueW c ∧ c.tx.length ≤ 900 := fun c hc => by
        obtain ⟨e, he, rfl⟩ := List.mem_map.mp hc
        exact (hL1 e he).2
      have hW2 : ∀ c ∈ cuesC L', CueW c ∧ c.tx.length ≤ 900 := fun c hc => by
        obtain ⟨e, he, rfl⟩ := List.mem_map.mp hc
        exact (hL2 e he).2
      have lm1 : (cuesC L).length = L.length := List.length_map ..
      have lm2 : (cuesC L').length = L'.length := List.length_map ..
      have p9 := s9 _ _ h8
      have S9 := s8.trans s9
      refine ⟨_, rfl, p, len, cuesC L, rfl, .inl p9, l1, l2, hW1, by omega, fun H10 t s10 h10 => ?_⟩
      have S10 := S9.trans s10
      refine ⟨_, rfl, r, _, 0, _, rfl, rfl, SqL.of (S10 _ _ hr1), at0, _, rfl, r, _, 1, _, rfl, rfl, SqL.of (S10 _ _ hr1), at1, a1, len, L, rfl, S10 _ _ ha1, fun e he => ⟨(hL1 e he).1.keep S10, (hL1 e he).2.1⟩, by omega, fun H11 b s11 hb => ?_⟩
      refine ⟨.ref t, .ref b, rfl, same_dueL (h10.keep s11) hb, fun H12 s12 => ⟨_, rfl, ?_⟩⟩
      have S12 := (S10.trans s11).trans s12
      have nr : decide (V.str (Str.ofString "BadCue") = V.str (Str.ofString "reel")) = false := by decide +kernel
      have nt : decide (V.str (Str.ofString "TooMany") = V.str (Str.ofString "reel")) = false := by decide +kernel
      have ways : ∀ {len : Nat} {cs : List Cue} {H : Hp} {b : Addr}, DueL len cs H b → (∃ (s0 : Str) (v1 v2 : V), H b = some (.tup [.str s0, v1, v2]) ∧ decide (V.str s0 = V.str (Str.ofString "reel")) = false) ∨
          (judge len 0 cs = none ∧ cs.length ≤ 40 ∧ ∃ v1 v2 : V, H b = some (.tup [.str (Str.ofString "reel"), v1, v2])) := fun {len cs H b} h => by
        rcases h with ⟨k, _, h⟩ | ⟨_, _, h⟩ | ⟨h1, h2, t, L, h3, _⟩
        · exact .inl ⟨_, _, _, h, nr⟩
        · exact .inl ⟨_, _, _, h, nt⟩
        · exact .inr ⟨h1, h2, _, _, h3⟩
      refine ⟨_, rfl, r, _, 0, _, rfl, rfl, SqL.of (S12 _ _ hr1), at0, _, rfl, r, _, 1, _, rfl, rfl, SqL.of (S12 _ _ hr1), at1, a1, len, L, rfl, S12 _ _ ha1, fun e he => ⟨(hL1 e he).1.keep S12, (hL1 e he).2.1⟩, by omega, fun H13 b2 s13 hb2 => ?_⟩
      have S13 := S12.trans s13
      rcases ways hb2 with ⟨s0, v1, v2, hd, e0⟩ | ⟨u1, u2, v1, v2, hd⟩
      · refine ⟨b2, _, 0, _, rfl, rfl, SqT.of hd, atI_nat (j := 0) rfl, rfl, _, rfl, ?_⟩
        rw [e0]
        exact q H13
      refine ⟨b2, _, 0, _, rfl, rfl, SqT.of hd, atI_nat (j := 0) rfl, rfl, _, rfl, ?_⟩
      rw [decide_eq_true rfl]
      refine iteT ⟨_, rfl, r', _, 0, _, rfl, rfl, SqL.of (S13 _ _ hr2), at0, _, rfl, r', _, 1, _, rfl, rfl, SqL.of (S13 _ _ hr2), at1, b1, len', L', rfl, S13 _ _ hb1, fun e he => ⟨(hL2 e he).1.keep S13, (hL2 e he).2.1⟩, by omega, fun H14 b3 s14 hb3 => ?_⟩
      have S14 := S13.trans s14
      rcases ways hb3 with ⟨s0, w1, w2, hd3, e0⟩ | ⟨x1, x2, w1, w2, hd3⟩
      · refine ⟨b3, _, 0, _, rfl, rfl, SqT.of hd3, atI_nat (j := 0) rfl, rfl, _, rfl, ?_⟩
        rw [e0]
        exact q H14
      refine ⟨b3, _, 0, _, rfl, rfl, SqT.of hd3, atI_nat (j := 0) rfl, rfl, _, rfl, ?_⟩
      rw [decide_eq_true rfl]
      have S94 : Same H9 H14 := (((s10.trans s11).trans s12).trans s13).trans s14
      refine iteT ⟨_, rfl, p, len, cuesC L, rfl, .inl (S94 _ _ p9), l1, l2, hW1, by omega, fun k hk => ?_, fun hk hn => ?_, fun hk hn H15 x M1 s15 hR1 hc1 => ?_⟩
      · rw [u1] at hk
        cases hk
      · omega
      refine ⟨_, rfl, p', len', cuesC L', rfl, .inl (s15 _ _ (S94 _ _ h9)), j1, j2, hW2, by omega, fun k hk => ?_, fun hk hn => ?_, fun hk hn H16 y M2 s16 hR2 hc2 => ?_⟩
      · rw [x1] at hk
        cases hk
      · omega
      have hR1' : ReelAt H16 CR x len M1 := by
        obtain ⟨d1, t1, c1, c2, g1, g2, g3⟩ := hR1
        exact ⟨d1, t1, c1, c2, s16 _ _ g1, s16 _ _ g2, fun e he => (g3 e he).keep s16⟩
      obtain ⟨d1, t1, c1, c2, g1, g2, g3⟩ := id hR1'
      obtain ⟨d2, t2, f1, f2, y1, y2, y3⟩ := id hR2
      have pA := s16 _ _ (s15 _ _ (S94 _ _ p9))
      have pB := s16 _ _ (s15 _ _ (S94 _ _ h9))
      refine ⟨x, y, d1, d2, _, _, rfl, rfl, g1, y1, x, y, len, len', M1, M2, rfl, hR1', hR2, ?_, ?_, ⟨_, rfl⟩, ?_⟩
      · intro c hc
        rw [hc1] at hc
        exact ⟨asc_nm (hW1 c hc).1, asc_tx (hW1 c hc).1⟩
      · intro c hc
        rw [hc2] at hc
        exact ⟨asc_nm (hW2 c hc).1, asc_tx (hW2 c hc).1⟩
      refine ⟨_, rfl, _, rfl, _, _, .lst (SqL.of pA) (dp_strs _), .lst (SqL.of pB) (dp_strs _), strs_shaped (asc_lines fun c hc => (hW1 c hc).1), strs_shaped (asc_lines fun c hc => (hW2 c hc).1), rfl, ?_⟩
      have eq1 : PyData.eqv (.list ((lineR len :: (cuesC L).map lineC).map .str)) (.list ((lineR len' :: (cuesC L').map lineC).map .str)) = decide (((len : Nat) : Int) = ((len' : Nat) : Int) ∧ cuesC M1 = cuesC M2) := by
        show PyData.eqvAll _ _ = _
        rw [strs_eqv, hc1, hc2]
        have := lines_inj (m := len) (n := len') (fun c hc => (hW1 c hc).1) (fun c hc => (hW2 c hc).1)
        by_cases h : len = len' ∧ cuesC L = cuesC L'
        · rw [decide_eq_true (this.mpr h), decide_eq_true ⟨by rw [h.1], h.2⟩]
        · rw [decide_eq_false (fun z => h (this.mp z)), decide_eq_false (fun z => h ⟨by omega, z.2⟩)]
      rw [eq1, decide_eq_true rfl]
      exact q H16
end
end Sea
namespace Sea
open PySem PySem.Spec PyProof.Rows L2
/-! what the top has left -/
theorem exm_mk {K : PySem.W.Frag} {T S : Addr} {b : Bool} (h1 : PySem.W.subIn K (.ref S) (.type "BaseException") = some true) (h2 : PySem.W.isClsIn K S = true) (h3 : PySem.W.typeIn K (.ref S) = some (.type "type")) (h4 : PySem.W.subIn K (.ref T) (.ref S) = some b) :
    PySem.W.exmOne K (.ref T) (.ref S) = some b := by
  have e1 : (PySem.W.subIn K (.ref S) (.type "BaseException") == some true) = true := by rw [h1] <;> rfl
  have e2 : ((PySem.W.clsIn K S).isSome && PySem.W.typeIn K (.ref S) == some (.type "type")) = true := by
    have h2' : (PySem.W.clsIn K S).isSome = true := h2
    rw [h2', h3] <;> rfl
  show (if (PySem.W.subIn K (.ref S) (.type "BaseException") == some true) = true then (if ((PySem.W.clsIn K S).isSome && PySem.W.typeIn K (.ref S) == some (.type "type")) = true then PySem.W.subIn K (.ref T) (.ref S) else none) else none) = some b
  rw [if_pos e1, if_pos e2]
  exact h4
theorem kit_no {K : PySem.W.Frag} {T S : Addr} (h0 : PySem.W.subIn K (.ref T) (.ref T) = some true) (h2 : PySem.W.isClsIn K S = true) (h3 : PySem.W.typeIn K (.ref S) = some (.type "type")) (h4 : PySem.W.subIn K (.ref T) (.ref S) = some false) :
    PySem.W.kitOne K (.ref T) (.ref S) = some false := by
  have ne : ((Value.ref T == Value.ref S) = true) → False := fun e => by
    have e' : Value.ref T = Value.ref S := eq_of_beq e
    rw [← e', h0] at h4
    cases h4
  have e2 : ((PySem.W.clsIn K S).isSome && PySem.W.typeIn K (.ref S) == some (.type "type")) = true := by
    have h2' : (PySem.W.clsIn K S).isSome = true := h2
    rw [h2', h3] <;> rfl
  show (if (Value.ref T == Value.ref S) = true then some true else if ((PySem.W.clsIn K S).isSome && PySem.W.typeIn K (.ref S) == some (.type "type")) = true then PySem.W.subIn K (.ref T) (.ref S) else none) = some false
  rw [if_neg ne, if_pos e2]
  exact h4

theorem kit_three {K : PySem.W.Frag} {T A B C : Addr} (h1 : PySem.W.kitOne K (.ref T) (.ref A) = some false) (h2 : PySem.W.kitOne K (.ref T) (.ref B) = some false) (h3 : PySem.W.kitOne K (.ref T) (.ref C) = some false) : PySem.W.kitAny K (.ref T) [.ref A, .ref B, .ref C] = some false :=
  kitAny_cons h1 (fun _ => kitAny_cons h2 (fun _ => kitAny_cons h3 (fun _ => rfl) (fun z => nomatch z)) (fun z => nomatch z)) (fun z => nomatch z)
theorem ok_iB {P : Program} {w : World} {K : PySem.W.Frag} {mg : Str → Option Value} {base : Heap} {C f : Addr} {fd : FuncData} (F : Fun K "__init__" "BadCue.__init__" s_BadCue___init__ f fd) : FnOk P w K mg base CX0 1 f fd ["self", "number"] (spIni K C "number") := by
  refine F.ok sc_BadCue___init__ (fun vs H Q E h => ?_) (fun cdv A outer s H vs Q E hr h => ?_)
  · obtain ⟨a, v, rfl, _⟩ := h
    rfl
  · obtain ⟨a, v, rfl, ox, no, ha, q⟩ := h
    exact ⟨_, pss_one (ps_ost (pv 0) (pv 1)), _, rfl, _, rfl, a, C, rfl, ox, no, .inl ⟨ha, q⟩⟩
theorem ok_iM {P : Program} {w : World} {K : PySem.W.Frag} {mg : Str → Option Value} {base : Heap} {C f : Addr} {fd : FuncData} (F : Fun K "__init__" "TooMany.__init__" s_TooMany___init__ f fd) : FnOk P w K mg base CX0 1 f fd ["self", "word"] (spIni K C "word") := by
  refine F.ok sc_TooMany___init__ (fun vs H Q E h => ?_) (fun cdv A outer s H vs Q E hr h => ?_)
  · obtain ⟨a, v, rfl, _⟩ := h
    rfl
  · obtain ⟨a, v, rfl, ox, no, ha, q⟩ := h
    exact ⟨_, pss_one (ps_ost (pv 0) (pv 1)), _, rfl, _, rfl, a, C, rfl, ox, no, .inl ⟨ha, q⟩⟩

theorem ok_same3 {P : Program} {w : World} {K : PySem.W.Frag} {mg : Str → Option Value} {base : Heap} {f : Addr} {fd : FuncData} (F : Fun K "_law_same" "_law_same" s__law_same f fd) (m_isinstance : mg "isinstance" = none) (m_tuple : mg "tuple" = none) (m_bool : mg "bool" = none) (m_str : mg "str" = none) (m_int : mg "int" = none)
    (m_len : mg "len" = none) (m_all : mg "all" = none) (m_range : mg "range" = none) (g : mg "_law_same" = some (.ref f)) (kp : PySem.W.keepIn K (.ref f) = true) (b : Binds K fd ["_law_told_here", "_law_due_here"] []) :
    FnOk P w K mg base CX0 4 f fd ["_law_told_here", "_law_due_here"] (spSame 3) := by
  have f0 : FnOk P w K mg base CX0 0 f fd ["_law_told_here", "_law_due_here"] spNever := ⟨fun _ _ _ _ h => h.elim, fun _ _ _ _ _ _ _ _ _ _ _ _ _ h => h.elim⟩
  have step : ∀ {k n : Nat}, FnOk P w K mg base CX0 k f fd ["_law_told_here", "_law_due_here"] (spSame n) → FnOk P w K mg base CX0 (k + 1) f fd ["_law_told_here", "_law_due_here"] (spSame (n + 1)) := fun {k n} h =>
    ok_same_at F m_isinstance m_tuple m_bool m_str m_int m_len m_all m_range ⟨f, fd, _, h, g, kp, b⟩ fun vs H Q E hs => by
      obtain ⟨x, y, rfl, hw, q⟩ := hs
      refine ⟨x, y, rfl, q, ?_⟩
      rcases hw with hw | ⟨a, b, xs, ys, h1, h2, h3, h4, h5, h6, h7⟩
      · exact .inl hw
      · exact .inr ⟨a, b, xs, ys, h1, h2, h3, h4, h5, h6, fun i u v e1 e2 H1 Q1 E1 s1 q1 => ⟨u, v, rfl, (h7 i u v e1 e2).keep s1, q1⟩⟩
  have f1 : FnOk P w K mg base CX0 1 f fd ["_law_told_here", "_law_due_here"] (spSame 0) :=
    ok_same_at F m_isinstance m_tuple m_bool m_str m_int m_len m_all m_range ⟨f, fd, _, f0, g, kp, b⟩ fun vs H Q E hs => by
      obtain ⟨x, y, rfl, hw, q⟩ := hs
      exact ⟨x, y, rfl, q, .inl hw⟩
  exact step (step (step f1))


theorem all_mk {l : PySem.W.OpenLaw} {w : World} {K : PySem.W.Frag} {h : Heap} {mg : Str → Option Value} {fa CE CB CM CLn CLi CR CL TD f_is_integer f_is_within f_items_of f_parts_of f_is_name f_has_percent f_is_text f_cue_of f_judged_cues f_first_word f_is_number f_write_reel f_take_text f_scan_cue f_scan_reel f_read_reel f__law_tape f__law_pick f__law_some f__law_rarely f__law_names f__law_text f__law_same f__law_some_names f__law_cue_text f__law_reel f__law_changed f__law_lines f__law_due f__law_told f__law_right f_law f_iB f_iM f_iR f_iL f_eq f_take_any f_has_more f_take_name f_take_number f_take_one_of f_finish : Addr} (X : K.In h) (G : h.Ns mainGlobals mg) (hfa : mg "law" = some (.ref fa))
    {od_is_integer an_is_integer od_is_within an_is_within od_items_of an_items_of od_parts_of an_parts_of od_is_name an_is_name od_has_percent an_has_percent od_is_text an_is_text od_cue_of an_cue_of od_judged_cues an_judged_cues od_first_word an_first_word od_is_number an_is_number od_write_reel an_write_reel od_take_text an_take_text od_scan_cue an_scan_cue od_scan_reel an_scan_reel od_read_reel an_read_reel od__law_tape an__law_tape od__law_pick an__law_pick od__law_some an__law_some od__law_rarely an__law_rarely od__law_names an__law_names od__law_text an__law_text od__law_same an__law_same od__law_some_names an__law_some_names od__law_cue_text an__law_cue_text od__law_reel an__law_reel od__law_changed an__law_changed od__law_lines an__law_lines od__law_due an__law_due od__law_told an__law_told od__law_right an__law_right od_law an_law od_iB an_iB od_iM an_iM od_iR an_iR od_iL an_iL od_eq an_eq od_take_any an_take_any od_has_more an_has_more od_take_name an_take_name od_take_number an_take_number od_take_one_of an_take_one_of od_finish an_finish : Option Addr} {sl_is_integer sl_is_within sl_items_of sl_parts_of sl_is_name sl_has_percent sl_is_text sl_cue_of sl_judged_cues sl_first_word sl_is_number sl_write_reel sl_take_text sl_scan_cue sl_scan_reel sl_read_reel sl__law_tape sl__law_pick sl__law_some sl__law_rarely sl__law_names sl__law_text sl__law_same sl__law_some_names sl__law_cue_text sl__law_reel sl__law_changed sl__law_lines sl__law_due sl__law_told sl__law_right sl_law sl_iB sl_iM sl_iR sl_iL sl_eq sl_take_any sl_has_more sl_take_name sl_take_number sl_take_one_of sl_finish : Array (Option Value)} {oc_is_integer kV_is_integer dc_is_integer pm_is_integer cd_is_integer ct_is_integer oc_is_within kV_is_within dc_is_within pm_is_within cd_is_within ct_is_within oc_items_of kV_items_of dc_items_of pm_items_of cd_items_of ct_items_of oc_parts_of kV_parts_of dc_parts_of pm_parts_of cd_parts_of ct_parts_of oc_is_name kV_is_name dc_is_name pm_is_name cd_is_name ct_is_name oc_has_percent kV_has_percent dc_has_percent pm_has_percent cd_has_percent ct_has_percent oc_is_text kV_is_text dc_is_text pm_is_text cd_is_text ct_is_text oc_cue_of kV_cue_of dc_cue_of pm_cue_of cd_cue_of ct_cue_of oc_judged_cues kV_judged_cues dc_judged_cues pm_judged_cues cd_judged_cues ct_judged_cues oc_first_word kV_first_word dc_first_word pm_first_word cd_first_word ct_first_word oc_is_number kV_is_number dc_is_number pm_is_number cd_is_number ct_is_number oc_write_reel kV_write_reel dc_write_reel pm_write_reel cd_write_reel ct_write_reel oc_take_text kV_take_text dc_take_text pm_take_text cd_take_text ct_take_text oc_scan_cue kV_scan_cue dc_scan_cue pm_scan_cue cd_scan_cue ct_scan_cue oc_scan_reel kV_scan_reel dc_scan_reel pm_scan_reel cd_scan_reel ct_scan_reel oc_read_reel kV_read_reel dc_read_reel pm_read_reel cd_read_reel ct_read_reel oc__law_tape kV__law_tape dc__law_tape pm__law_tape cd__law_tape ct__law_tape oc__law_pick kV__law_pick dc__law_pick pm__law_pick cd__law_pick ct__law_pick oc__law_some kV__law_some dc__law_some pm__law_some cd__law_some ct__law_some oc__law_rarely kV__law_rarely dc__law_rarely pm__law_rarely cd__law_rarely ct__law_rarely oc__law_names kV__law_names dc__law_names pm__law_names cd__law_names ct__law_names oc__law_text kV__law_text dc__law_text pm__law_text cd__law_text ct__law_text oc__law_same kV__law_same dc__law_same pm__law_same cd__law_same ct__law_same oc__law_some_names kV__law_some_names dc__law_some_names pm__law_some_names cd__law_some_names ct__law_some_names oc__law_cue_text kV__law_cue_text dc__law_cue_text pm__law_cue_text cd__law_cue_text ct__law_cue_text oc__law_reel kV__law_reel dc__law_reel pm__law_reel cd__law_reel ct__law_reel oc__law_changed kV__law_changed dc__law_changed pm__law_changed cd__law_changed ct__law_changed oc__law_lines kV__law_lines dc__law_lines pm__law_lines cd__law_lines ct__law_lines oc__law_due kV__law_due dc__law_due pm__law_due cd__law_due ct__law_due oc__law_told kV__law_told dc__law_told pm__law_told cd__law_told ct__law_told oc__law_right kV__law_right dc__law_right pm__law_right cd__law_right ct__law_right oc_law kV_law dc_law pm_law cd_law ct_law oc_iB kV_iB dc_iB pm_iB cd_iB ct_iB oc_iM kV_iM dc_iM pm_iM cd_iM ct_iM oc_iR kV_iR dc_iR pm_iR cd_iR ct_iR oc_iL kV_iL dc_iL pm_iL cd_iL ct_iL oc_eq kV_eq dc_eq pm_eq cd_eq ct_eq oc_take_any kV_take_any dc_take_any pm_take_any cd_take_any ct_take_any oc_has_more kV_has_more dc_has_more pm_has_more cd_has_more ct_has_more oc_take_name kV_take_name dc_take_name pm_take_name cd_take_name ct_take_name oc_take_number kV_take_number dc_take_number pm_take_number cd_take_number ct_take_number oc_take_one_of kV_take_one_of dc_take_one_of pm_take_one_of cd_take_one_of ct_take_one_of oc_finish kV_finish dc_finish pm_finish cd_finish ct_finish d0TD : Value} {tP tT tQ tL tD : Tok} {oTD : Obj} {nTD : Nat}
    {nmB qB : Str} {NB : Addr} {bsB : List Value} {snB : List Str} {subB : List Value} {abB : Bool} {colB : Option Bool} {ddB : Option Addr} {m0B m1B m2B m3B m5B : Option Value}
    {nmM qM : Str} {NM : Addr} {bsM : List Value} {snM : List Str} {subM : List Value} {abM : Bool} {colM : Option Bool} {ddM : Option Addr} {m0M m1M m2M m3M m5M : Option Value}
    (a_is_integer : PySem.W.nsIn K mainGlobals "is_integer" = some (some (.ref f_is_integer)))
    (l_is_integer : K.lookup f_is_integer = some ⟨oc_is_integer, od_is_integer, .func (PySem.W.fnOf "is_integer" "is_integer" (defArgs s_is_integer) (defBody s_is_integer) (defScope s_is_integer) .none kV_is_integer dc_is_integer pm_is_integer an_is_integer cd_is_integer ct_is_integer), sl_is_integer⟩)
    (c_is_integer_ : PySem.W.codeIn K cd_is_integer "is_integer" = true)
    (k_is_integer : PySem.W.keepIn K (.ref f_is_integer) = true)
    (a_is_within : PySem.W.nsIn K mainGlobals "is_within" = some (some (.ref f_is_within)))
    (l_is_within : K.lookup f_is_within = some ⟨oc_is_within, od_is_within, .func (PySem.W.fnOf "is_within" "is_within" (defArgs s_is_within) (defBody s_is_within) (defScope s_is_within) .none kV_is_within dc_is_within pm_is_within an_is_within cd_is_within ct_is_within), sl_is_within⟩)
    (c_is_within_ : PySem.W.codeIn K cd_is_within "is_within" = true)
    (k_is_within : PySem.W.keepIn K (.ref f_is_within) = true)
    (a_items_of : PySem.W.nsIn K mainGlobals "items_of" = some (some (.ref f_items_of)))
    (l_items_of : K.lookup f_items_of = some ⟨oc_items_of, od_items_of, .func (PySem.W.fnOf "items_of" "items_of" (defArgs s_items_of) (defBody s_items_of) (defScope s_items_of) .none kV_items_of dc_items_of pm_items_of an_items_of cd_items_of ct_items_of), sl_items_of⟩)
    (c_items_of_ : PySem.W.codeIn K cd_items_of "items_of" = true)
    (k_items_of : PySem.W.keepIn K (.ref f_items_of) = true)
    (a_parts_of : PySem.W.nsIn K mainGlobals "parts_of" = some (some (.ref f_parts_of)))
    (l_parts_of : K.lookup f_parts_of = some ⟨oc_parts_of, od_parts_of, .func (PySem.W.fnOf "parts_of" "parts_of" (defArgs s_parts_of) (defBody s_parts_of) (defScope s_parts_of) .none kV_parts_of dc_parts_of pm_parts_of an_parts_of cd_parts_of ct_parts_of), sl_parts_of⟩)
    (c_parts_of_ : PySem.W.codeIn K cd_parts_of "parts_of" = true)
    (k_parts_of : PySem.W.keepIn K (.ref f_parts_of) = true)
    (a_is_name : PySem.W.nsIn K mainGlobals "is_name" = some (some (.ref f_is_name)))
    (l_is_name : K.lookup f_is_name = some ⟨oc_is_name, od_is_name, .func (PySem.W.fnOf "is_name" "is_name" (defArgs s_is_name) (defBody s_is_name) (defScope s_is_name) .none kV_is_name dc_is_name pm_is_name an_is_name cd_is_name ct_is_name), sl_is_name⟩)
    (c_is_name_ : PySem.W.codeIn K cd_is_name "is_name" = true)
    (k_is_name : PySem.W.keepIn K (.ref f_is_name) = true)
    (a_has_percent : PySem.W.nsIn K mainGlobals "has_percent" = some (some (.ref f_has_percent)))
    (l_has_percent : K.lookup f_has_percent = some ⟨oc_has_percent, od_has_percent, .func (PySem.W.fnOf "has_percent" "has_percent" (defArgs s_has_percent) (defBody s_has_percent) (defScope s_has_percent) .none kV_has_percent dc_has_percent pm_has_percent an_has_percent cd_has_percent ct_has_percent), sl_has_percent⟩)
    (c_has_percent_ : PySem.W.codeIn K cd_has_percent "has_percent" = true)
    (k_has_percent : PySem.W.keepIn K (.ref f_has_percent) = true)
    (a_is_text : PySem.W.nsIn K mainGlobals "is_text" = some (some (.ref f_is_text)))
    (l_is_text : K.lookup f_is_text = some ⟨oc_is_text, od_is_text, .func (PySem.W.fnOf "is_text" "is_text" (defArgs s_is_text) (defBody s_is_text) (defScope s_is_text) .none kV_is_text dc_is_text pm_is_text an_is_text cd_is_text ct_is_text), sl_is_text⟩)
    (c_is_text_ : PySem.W.codeIn K cd_is_text "is_text" = true)
    (k_is_text : PySem.W.keepIn K (.ref f_is_text) = true)
    (a_cue_of : PySem.W.nsIn K mainGlobals "cue_of" = some (some (.ref f_cue_of)))
    (l_cue_of : K.lookup f_cue_of = some ⟨oc_cue_of, od_cue_of, .func (PySem.W.fnOf "cue_of" "cue_of" (defArgs s_cue_of) (defBody s_cue_of) (defScope s_cue_of) .none kV_cue_of dc_cue_of pm_cue_of an_cue_of cd_cue_of ct_cue_of), sl_cue_of⟩)
    (c_cue_of_ : PySem.W.codeIn K cd_cue_of "cue_of" = true)
    (k_cue_of : PySem.W.keepIn K (.ref f_cue_of) = true)
    (a_judged_cues : PySem.W.nsIn K mainGlobals "judged_cues" = some (some (.ref f_judged_cues)))
    (l_judged_cues : K.lookup f_judged_cues = some ⟨oc_judged_cues, od_judged_cues, .func (PySem.W.fnOf "judged_cues" "judged_cues" (defArgs s_judged_cues) (defBody s_judged_cues) (defScope s_judged_cues) .none kV_judged_cues dc_judged_cues pm_judged_cues an_judged_cues cd_judged_cues ct_judged_cues), sl_judged_cues⟩)
    (c_judged_cues_ : PySem.W.codeIn K cd_judged_cues "judged_cues" = true)
    (k_judged_cues : PySem.W.keepIn K (.ref f_judged_cues) = true)
    (a_first_word : PySem.W.nsIn K mainGlobals "first_word" = some (some (.ref f_first_word)))
    (l_first_word : K.lookup f_first_word = some ⟨oc_first_word, od_first_word, .func (PySem.W.fnOf "first_word" "first_word" (defArgs s_first_word) (defBody s_first_word) (defScope s_first_word) .none kV_first_word dc_first_word pm_first_word an_first_word cd_first_word ct_first_word), sl_first_word⟩)
    (c_first_word_ : PySem.W.codeIn K cd_first_word "first_word" = true)
    (k_first_word : PySem.W.keepIn K (.ref f_first_word) = true)
    (a_is_number : PySem.W.nsIn K mainGlobals "is_number" = some (some (.ref f_is_number)))
    (l_is_number : K.lookup f_is_number = some ⟨oc_is_number, od_is_number, .func (PySem.W.fnOf "is_number" "is_number" (defArgs s_is_number) (defBody s_is_number) (defScope s_is_number) .none kV_is_number dc_is_number pm_is_number an_is_number cd_is_number ct_is_number), sl_is_number⟩)
    (c_is_number_ : PySem.W.codeIn K cd_is_number "is_number" = true)
    (k_is_number : PySem.W.keepIn K (.ref f_is_number) = true)
    (a_write_reel : PySem.W.nsIn K mainGlobals "write_reel" = some (some (.ref f_write_reel)))
    (l_write_reel : K.lookup f_write_reel = some ⟨oc_write_reel, od_write_reel, .func (PySem.W.fnOf "write_reel" "write_reel" (defArgs s_write_reel) (defBody s_write_reel) (defScope s_write_reel) .none kV_write_reel dc_write_reel pm_write_reel an_write_reel cd_write_reel ct_write_reel), sl_write_reel⟩)
    (c_write_reel_ : PySem.W.codeIn K cd_write_reel "write_reel" = true)
    (k_write_reel : PySem.W.keepIn K (.ref f_write_reel) = true)
    (a_take_text : PySem.W.nsIn K mainGlobals "take_text" = some (some (.ref f_take_text)))
    (l_take_text : K.lookup f_take_text = some ⟨oc_take_text, od_take_text, .func (PySem.W.fnOf "take_text" "take_text" (defArgs s_take_text) (defBody s_take_text) (defScope s_take_text) .none kV_take_text dc_take_text pm_take_text an_take_text cd_take_text ct_take_text), sl_take_text⟩)
    (c_take_text_ : PySem.W.codeIn K cd_take_text "take_text" = true)
    (k_take_text : PySem.W.keepIn K (.ref f_take_text) = true)
    (a_scan_cue : PySem.W.nsIn K mainGlobals "scan_cue" = some (some (.ref f_scan_cue)))
    (l_scan_cue : K.lookup f_scan_cue = some ⟨oc_scan_cue, od_scan_cue, .func (PySem.W.fnOf "scan_cue" "scan_cue" (defArgs s_scan_cue) (defBody s_scan_cue) (defScope s_scan_cue) .none kV_scan_cue dc_scan_cue pm_scan_cue an_scan_cue cd_scan_cue ct_scan_cue), sl_scan_cue⟩)
    (c_scan_cue_ : PySem.W.codeIn K cd_scan_cue "scan_cue" = true)
    (k_scan_cue : PySem.W.keepIn K (.ref f_scan_cue) = true)
    (a_scan_reel : PySem.W.nsIn K mainGlobals "scan_reel" = some (some (.ref f_scan_reel)))
    (l_scan_reel : K.lookup f_scan_reel = some ⟨oc_scan_reel, od_scan_reel, .func (PySem.W.fnOf "scan_reel" "scan_reel" (defArgs s_scan_reel) (defBody s_scan_reel) (defScope s_scan_reel) .none kV_scan_reel dc_scan_reel pm_scan_reel an_scan_reel cd_scan_reel ct_scan_reel), sl_scan_reel⟩)
    (c_scan_reel_ : PySem.W.codeIn K cd_scan_reel "scan_reel" = true)
    (k_scan_reel : PySem.W.keepIn K (.ref f_scan_reel) = true)
    (a_read_reel : PySem.W.nsIn K mainGlobals "read_reel" = some (some (.ref f_read_reel)))
    (l_read_reel : K.lookup f_read_reel = some ⟨oc_read_reel, od_read_reel, .func (PySem.W.fnOf "read_reel" "read_reel" (defArgs s_read_reel) (defBody s_read_reel) (defScope s_read_reel) .none kV_read_reel dc_read_reel pm_read_reel an_read_reel cd_read_reel ct_read_reel), sl_read_reel⟩)
    (c_read_reel_ : PySem.W.codeIn K cd_read_reel "read_reel" = true)
    (k_read_reel : PySem.W.keepIn K (.ref f_read_reel) = true)
    (a__law_tape : PySem.W.nsIn K mainGlobals "_law_tape" = some (some (.ref f__law_tape)))
    (l__law_tape : K.lookup f__law_tape = some ⟨oc__law_tape, od__law_tape, .func (PySem.W.fnOf "_law_tape" "_law_tape" (defArgs s__law_tape) (defBody s__law_tape) (defScope s__law_tape) .none kV__law_tape dc__law_tape pm__law_tape an__law_tape cd__law_tape ct__law_tape), sl__law_tape⟩)
    (c__law_tape_ : PySem.W.codeIn K cd__law_tape "_law_tape" = true)
    (k__law_tape : PySem.W.keepIn K (.ref f__law_tape) = true)
    (a__law_pick : PySem.W.nsIn K mainGlobals "_law_pick" = some (some (.ref f__law_pick)))
    (l__law_pick : K.lookup f__law_pick = some ⟨oc__law_pick, od__law_pick, .func (PySem.W.fnOf "_law_pick" "_law_pick" (defArgs s__law_pick) (defBody s__law_pick) (defScope s__law_pick) .none kV__law_pick dc__law_pick pm__law_pick an__law_pick cd__law_pick ct__law_pick), sl__law_pick⟩)
    (c__law_pick_ : PySem.W.codeIn K cd__law_pick "_law_pick" = true)
    (k__law_pick : PySem.W.keepIn K (.ref f__law_pick) = true)
    (a__law_some : PySem.W.nsIn K mainGlobals "_law_some" = some (some (.ref f__law_some)))
    (l__law_some : K.lookup f__law_some = some ⟨oc__law_some, od__law_some, .func (PySem.W.fnOf "_law_some" "_law_some" (defArgs s__law_some) (defBody s__law_some) (defScope s__law_some) .none kV__law_some dc__law_some pm__law_some an__law_some cd__law_some ct__law_some), sl__law_some⟩)
    (c__law_some_ : PySem.W.codeIn K cd__law_some "_law_some" = true)
    (k__law_some : PySem.W.keepIn K (.ref f__law_some) = true)
    (a__law_rarely : PySem.W.nsIn K mainGlobals "_law_rarely" = some (some (.ref f__law_rarely)))
    (l__law_rarely : K.lookup f__law_rarely = some ⟨oc__law_rarely, od__law_rarely, .func (PySem.W.fnOf "_law_rarely" "_law_rarely" (defArgs s__law_rarely) (defBody s__law_rarely) (defScope s__law_rarely) .none kV__law_rarely dc__law_rarely pm__law_rarely an__law_rarely cd__law_rarely ct__law_rarely), sl__law_rarely⟩)
    (c__law_rarely_ : PySem.W.codeIn K cd__law_rarely "_law_rarely" = true)
    (k__law_rarely : PySem.W.keepIn K (.ref f__law_rarely) = true)
    (a__law_names : PySem.W.nsIn K mainGlobals "_law_names" = some (some (.ref f__law_names)))
    (l__law_names : K.lookup f__law_names = some ⟨oc__law_names, od__law_names, .func (PySem.W.fnOf "_law_names" "_law_names" (defArgs s__law_names) (defBody s__law_names) (defScope s__law_names) .none kV__law_names dc__law_names pm__law_names an__law_names cd__law_names ct__law_names), sl__law_names⟩)
    (c__law_names_ : PySem.W.codeIn K cd__law_names "_law_names" = true)
    (k__law_names : PySem.W.keepIn K (.ref f__law_names) = true)
    (a__law_text : PySem.W.nsIn K mainGlobals "_law_text" = some (some (.ref f__law_text)))
    (l__law_text : K.lookup f__law_text = some ⟨oc__law_text, od__law_text, .func (PySem.W.fnOf "_law_text" "_law_text" (defArgs s__law_text) (defBody s__law_text) (defScope s__law_text) .none kV__law_text dc__law_text pm__law_text an__law_text cd__law_text ct__law_text), sl__law_text⟩)
    (c__law_text_ : PySem.W.codeIn K cd__law_text "_law_text" = true)
    (k__law_text : PySem.W.keepIn K (.ref f__law_text) = true)
    (a__law_same : PySem.W.nsIn K mainGlobals "_law_same" = some (some (.ref f__law_same)))
    (l__law_same : K.lookup f__law_same = some ⟨oc__law_same, od__law_same, .func (PySem.W.fnOf "_law_same" "_law_same" (defArgs s__law_same) (defBody s__law_same) (defScope s__law_same) .none kV__law_same dc__law_same pm__law_same an__law_same cd__law_same ct__law_same), sl__law_same⟩)
    (c__law_same_ : PySem.W.codeIn K cd__law_same "_law_same" = true)
    (k__law_same : PySem.W.keepIn K (.ref f__law_same) = true)
    (a__law_some_names : PySem.W.nsIn K mainGlobals "_law_some_names" = some (some (.ref f__law_some_names)))
    (l__law_some_names : K.lookup f__law_some_names = some ⟨oc__law_some_names, od__law_some_names, .func (PySem.W.fnOf "_law_some_names" "_law_some_names" (defArgs s__law_some_names) (defBody s__law_some_names) (defScope s__law_some_names) .none kV__law_some_names dc__law_some_names pm__law_some_names an__law_some_names cd__law_some_names ct__law_some_names), sl__law_some_names⟩)
    (c__law_some_names_ : PySem.W.codeIn K cd__law_some_names "_law_some_names" = true)
    (k__law_some_names : PySem.W.keepIn K (.ref f__law_some_names) = true)
    (a__law_cue_text : PySem.W.nsIn K mainGlobals "_law_cue_text" = some (some (.ref f__law_cue_text)))
    (l__law_cue_text : K.lookup f__law_cue_text = some ⟨oc__law_cue_text, od__law_cue_text, .func (PySem.W.fnOf "_law_cue_text" "_law_cue_text" (defArgs s__law_cue_text) (defBody s__law_cue_text) (defScope s__law_cue_text) .none kV__law_cue_text dc__law_cue_text pm__law_cue_text an__law_cue_text cd__law_cue_text ct__law_cue_text), sl__law_cue_text⟩)
    (c__law_cue_text_ : PySem.W.codeIn K cd__law_cue_text "_law_cue_text" = true)
    (k__law_cue_text : PySem.W.keepIn K (.ref f__law_cue_text) = true)
    (a__law_reel : PySem.W.nsIn K mainGlobals "_law_reel" = some (some (.ref f__law_reel)))
    (l__law_reel : K.lookup f__law_reel = some ⟨oc__law_reel, od__law_reel, .func (PySem.W.fnOf "_law_reel" "_law_reel" (defArgs s__law_reel) (defBody s__law_reel) (defScope s__law_reel) .none kV__law_reel dc__law_reel pm__law_reel an__law_reel cd__law_reel ct__law_reel), sl__law_reel⟩)
    (c__law_reel_ : PySem.W.codeIn K cd__law_reel "_law_reel" = true)
    (k__law_reel : PySem.W.keepIn K (.ref f__law_reel) = true)
    (a__law_changed : PySem.W.nsIn K mainGlobals "_law_changed" = some (some (.ref f__law_changed)))
    (l__law_changed : K.lookup f__law_changed = some ⟨oc__law_changed, od__law_changed, .func (PySem.W.fnOf "_law_changed" "_law_changed" (defArgs s__law_changed) (defBody s__law_changed) (defScope s__law_changed) .none kV__law_changed dc__law_changed pm__law_changed an__law_changed cd__law_changed ct__law_changed), sl__law_changed⟩)
    (c__law_changed_ : PySem.W.codeIn K cd__law_changed "_law_changed" = true)
    (k__law_changed : PySem.W.keepIn K (.ref f__law_changed) = true)
    (a__law_lines : PySem.W.nsIn K mainGlobals "_law_lines" = some (some (.ref f__law_lines)))
    (l__law_lines : K.lookup f__law_lines = some ⟨oc__law_lines, od__law_lines, .func (PySem.W.fnOf "_law_lines" "_law_lines" (defArgs s__law_lines) (defBody s__law_lines) (defScope s__law_lines) .none kV__law_lines dc__law_lines pm__law_lines an__law_lines cd__law_lines ct__law_lines), sl__law_lines⟩)
    (c__law_lines_ : PySem.W.codeIn K cd__law_lines "_law_lines" = true)
    (k__law_lines : PySem.W.keepIn K (.ref f__law_lines) = true)
    (a__law_due : PySem.W.nsIn K mainGlobals "_law_due" = some (some (.ref f__law_due)))
    (l__law_due : K.lookup f__law_due = some ⟨oc__law_due, od__law_due, .func (PySem.W.fnOf "_law_due" "_law_due" (defArgs s__law_due) (defBody s__law_due) (defScope s__law_due) .none kV__law_due dc__law_due pm__law_due an__law_due cd__law_due ct__law_due), sl__law_due⟩)
    (c__law_due_ : PySem.W.codeIn K cd__law_due "_law_due" = true)
    (k__law_due : PySem.W.keepIn K (.ref f__law_due) = true)
    (a__law_told : PySem.W.nsIn K mainGlobals "_law_told" = some (some (.ref f__law_told)))
    (l__law_told : K.lookup f__law_told = some ⟨oc__law_told, od__law_told, .func (PySem.W.fnOf "_law_told" "_law_told" (defArgs s__law_told) (defBody s__law_told) (defScope s__law_told) .none kV__law_told dc__law_told pm__law_told an__law_told cd__law_told ct__law_told), sl__law_told⟩)
    (c__law_told_ : PySem.W.codeIn K cd__law_told "_law_told" = true)
    (k__law_told : PySem.W.keepIn K (.ref f__law_told) = true)
    (a__law_right : PySem.W.nsIn K mainGlobals "_law_right" = some (some (.ref f__law_right)))
    (l__law_right : K.lookup f__law_right = some ⟨oc__law_right, od__law_right, .func (PySem.W.fnOf "_law_right" "_law_right" (defArgs s__law_right) (defBody s__law_right) (defScope s__law_right) .none kV__law_right dc__law_right pm__law_right an__law_right cd__law_right ct__law_right), sl__law_right⟩)
    (c__law_right_ : PySem.W.codeIn K cd__law_right "_law_right" = true)
    (k__law_right : PySem.W.keepIn K (.ref f__law_right) = true)
    (a_law : PySem.W.nsIn K mainGlobals "law" = some (some (.ref f_law)))
    (l_law : K.lookup f_law = some ⟨oc_law, od_law, .func (PySem.W.fnOf "law" "law" (defArgs s_law) (defBody s_law) (defScope s_law) .none kV_law dc_law pm_law an_law cd_law ct_law), sl_law⟩)
    (c_law_ : PySem.W.codeIn K cd_law "law" = true)
    (k_law : PySem.W.keepIn K (.ref f_law) = true)
    (aCE : PySem.W.nsIn K mainGlobals "CaptionError" = some (some (.ref CE)))
    (aCLn : PySem.W.nsIn K mainGlobals "BadLength" = some (some (.ref CLn)))
    (aCLi : PySem.W.nsIn K mainGlobals "BadLine" = some (some (.ref CLi)))
    (iCLn : PySem.W.isClsIn K CLn = true)
    (tCLn : PySem.W.typeIn K (.ref CLn) = some (.type "type"))
    (iCLi : PySem.W.isClsIn K CLi = true)
    (tCLi : PySem.W.typeIn K (.ref CLi) = some (.type "type"))
    (aB : PySem.W.nsIn K mainGlobals "BadCue" = some (some (.ref CB)))
    (xB_ : K.lookup CB = some (excClassObj nmB qB CB NB bsB [.ref CE, .type "ValueError", .type "Exception", .type "BaseException", .type "object"] true snB subB abB colB ddB m0B m1B m2B m3B m5B "ValueError.__new__"))
    (saB : PySem.W.findIn K (.ref CB) "__setattr__" = some (some (.builtin "object.__setattr__")))
    (eB : PySem.W.subIn K (.ref CB) (.type "BaseException") = some true)
    (tB : PySem.W.typeIn K (.ref CB) = some (.type "type"))
    (kpB : PySem.W.keepIn K (.ref CB) = true)
    (inB : PySem.W.findIn K (.ref CB) "__init__" = some (some (.ref f_iB)))
    (tIB : PySem.W.typeIn K (.ref f_iB) = some (.type "function"))
    (noB : PySem.W.findIn K (.ref CB) "number" = some none)
    (iB : PySem.W.isClsIn K CB = true)
    (gaB : PySem.W.findIn K (.ref CB) "__getattribute__" = some (some (.builtin "BaseException.__getattribute__")))
    (ggB : PySem.W.findIn K (.ref CB) "__getattr__" = some none)
    (klB : PySem.W.findIn K (.ref CB) "__class__" = some (some (.builtin "object.__class__")))
    (mrB : PySem.W.mroIn K CB (.type "object") = some true)
    (hdB : PySem.W.hasDictIn K CB = true)
    (l_iB : K.lookup f_iB = some ⟨oc_iB, od_iB, .func (PySem.W.fnOf "__init__" "BadCue.__init__" (defArgs s_BadCue___init__) (defBody s_BadCue___init__) (defScope s_BadCue___init__) .none kV_iB dc_iB pm_iB an_iB cd_iB ct_iB), sl_iB⟩)
    (c_iB_ : PySem.W.codeIn K cd_iB "BadCue.__init__" = true)
    (k_iB : PySem.W.keepIn K (.ref f_iB) = true)
    (aM : PySem.W.nsIn K mainGlobals "TooMany" = some (some (.ref CM)))
    (xM_ : K.lookup CM = some (excClassObj nmM qM CM NM bsM [.ref CE, .type "ValueError", .type "Exception", .type "BaseException", .type "object"] true snM subM abM colM ddM m0M m1M m2M m3M m5M "ValueError.__new__"))
    (saM : PySem.W.findIn K (.ref CM) "__setattr__" = some (some (.builtin "object.__setattr__")))
    (eM : PySem.W.subIn K (.ref CM) (.type "BaseException") = some true)
    (tM : PySem.W.typeIn K (.ref CM) = some (.type "type"))
    (kpM : PySem.W.keepIn K (.ref CM) = true)
    (inM : PySem.W.findIn K (.ref CM) "__init__" = some (some (.ref f_iM)))
    (tIM : PySem.W.typeIn K (.ref f_iM) = some (.type "function"))
    (noM : PySem.W.findIn K (.ref CM) "word" = some none)
    (iM : PySem.W.isClsIn K CM = true)
    (gaM : PySem.W.findIn K (.ref CM) "__getattribute__" = some (some (.builtin "BaseException.__getattribute__")))
    (ggM : PySem.W.findIn K (.ref CM) "__getattr__" = some none)
    (klM : PySem.W.findIn K (.ref CM) "__class__" = some (some (.builtin "object.__class__")))
    (mrM : PySem.W.mroIn K CM (.type "object") = some true)
    (hdM : PySem.W.hasDictIn K CM = true)
    (l_iM : K.lookup f_iM = some ⟨oc_iM, od_iM, .func (PySem.W.fnOf "__init__" "TooMany.__init__" (defArgs s_TooMany___init__) (defBody s_TooMany___init__) (defScope s_TooMany___init__) .none kV_iM dc_iM pm_iM an_iM cd_iM ct_iM), sl_iM⟩)
    (c_iM_ : PySem.W.codeIn K cd_iM "TooMany.__init__" = true)
    (k_iM : PySem.W.keepIn K (.ref f_iM) = true)
    (gt : PySem.W.specialIn K (.builtin "object.__class__") "__get__" = some (some (.builtin "getset_descriptor.__get__")))
    (tk : PySem.W.takesIn K (.builtin "object.__class__") = some true)
    (sBB : PySem.W.subIn K (.ref CB) (.ref CB) = some true)
    (sBM : PySem.W.subIn K (.ref CB) (.ref CM) = some false)
    (sBLn : PySem.W.subIn K (.ref CB) (.ref CLn) = some false)
    (sBLi : PySem.W.subIn K (.ref CB) (.ref CLi) = some false)
    (sMB : PySem.W.subIn K (.ref CM) (.ref CB) = some false)
    (sMM : PySem.W.subIn K (.ref CM) (.ref CM) = some true)
    (sMLn : PySem.W.subIn K (.ref CM) (.ref CLn) = some false)
    (sMLi : PySem.W.subIn K (.ref CM) (.ref CLi) = some false)
    (aCR : PySem.W.nsIn K mainGlobals "Reel" = some (some (.ref CR)))
    (pgCR : PySem.W.plainGet K CR Str.empty = true)
    (hdCR : PySem.W.hasDictIn K CR = true)
    (poCR : PySem.W.plainOver K CR = true)
    (saCR : PySem.W.findIn K (.ref CR) "__setattr__" = some (some (.builtin "object.__setattr__")))
    (mkCR : PySem.W.makesIn K CR = true)
    (inCR : PySem.W.findIn K (.ref CR) "__init__" = some (some (.ref f_iR)))
    (fnCR : PySem.W.isFn K (.ref f_iR) = true)
    (kpCR : PySem.W.keepIn K (.ref CR) = true)
    (nCR_length : PySem.W.findIn K (.ref CR) "length" = some none)
    (nCR_cues : PySem.W.findIn K (.ref CR) "cues" = some none)
    (nCR__speakers : PySem.W.findIn K (.ref CR) "_speakers" = some none)
    (nCR__naming : PySem.W.findIn K (.ref CR) "_naming" = some none)
    (l_iR : K.lookup f_iR = some ⟨oc_iR, od_iR, .func (PySem.W.fnOf "__init__" "Reel.__init__" (defArgs s_Reel___init__) (defBody s_Reel___init__) (defScope s_Reel___init__) (.ref TD) kV_iR dc_iR pm_iR an_iR cd_iR ct_iR), sl_iR⟩)
    (c_iR_ : PySem.W.codeIn K cd_iR "Reel.__init__" = true)
    (aCL : PySem.W.nsIn K mainGlobals "LineWords" = some (some (.ref CL)))
    (pgCL : PySem.W.plainGet K CL Str.empty = true)
    (hdCL : PySem.W.hasDictIn K CL = true)
    (poCL : PySem.W.plainOver K CL = true)
    (saCL : PySem.W.findIn K (.ref CL) "__setattr__" = some (some (.builtin "object.__setattr__")))
    (mkCL : PySem.W.makesIn K CL = true)
    (inCL : PySem.W.findIn K (.ref CL) "__init__" = some (some (.ref f_iL)))
    (fnCL : PySem.W.isFn K (.ref f_iL) = true)
    (kpCL : PySem.W.keepIn K (.ref CL) = true)
    (nCL_number : PySem.W.findIn K (.ref CL) "number" = some none)
    (nCL_words : PySem.W.findIn K (.ref CL) "words" = some none)
    (nCL_taken : PySem.W.findIn K (.ref CL) "taken" = some none)
    (l_iL : K.lookup f_iL = some ⟨oc_iL, od_iL, .func (PySem.W.fnOf "__init__" "LineWords.__init__" (defArgs s_LineWords___init__) (defBody s_LineWords___init__) (defScope s_LineWords___init__) .none kV_iL dc_iL pm_iL an_iL cd_iL ct_iL), sl_iL⟩)
    (c_iL_ : PySem.W.codeIn K cd_iL "LineWords.__init__" = true)
    (k_iL : PySem.W.keepIn K (.ref f_iL) = true)
    (klCR : PySem.W.findIn K (.ref CR) "__class__" = some (some (.builtin "object.__class__")))
    (mrCR : PySem.W.mroIn K CR (.type "object") = some true)
    (lTD : K.lookup TD = some oTD)
    (dTD : oTD.data = .seq #[d0TD] nTD)
    (a_eq : PySem.W.findIn K (.ref CR) "__eq__" = some (some (.ref f_eq)))
    (i_eq : PySem.W.isFn K (.ref f_eq) = true)
    (l_eq : K.lookup f_eq = some ⟨oc_eq, od_eq, .func (PySem.W.fnOf "__eq__" "Reel.__eq__" (defArgs s_Reel___eq__) (defBody s_Reel___eq__) (defScope s_Reel___eq__) .none kV_eq dc_eq pm_eq an_eq cd_eq ct_eq), sl_eq⟩)
    (c_eq_ : PySem.W.codeIn K cd_eq "Reel.__eq__" = true)
    (k_eq : PySem.W.keepIn K (.ref f_eq) = true)
    (a_take_any : PySem.W.findIn K (.ref CL) "take_any" = some (some (.ref f_take_any)))
    (i_take_any : PySem.W.isFn K (.ref f_take_any) = true)
    (l_take_any : K.lookup f_take_any = some ⟨oc_take_any, od_take_any, .func (PySem.W.fnOf "take_any" "LineWords.take_any" (defArgs s_LineWords_take_any) (defBody s_LineWords_take_any) (defScope s_LineWords_take_any) .none kV_take_any dc_take_any pm_take_any an_take_any cd_take_any ct_take_any), sl_take_any⟩)
    (c_take_any_ : PySem.W.codeIn K cd_take_any "LineWords.take_any" = true)
    (k_take_any : PySem.W.keepIn K (.ref f_take_any) = true)
    (a_has_more : PySem.W.findIn K (.ref CL) "has_more" = some (some (.ref f_has_more)))
    (i_has_more : PySem.W.isFn K (.ref f_has_more) = true)
    (l_has_more : K.lookup f_has_more = some ⟨oc_has_more, od_has_more, .func (PySem.W.fnOf "has_more" "LineWords.has_more" (defArgs s_LineWords_has_more) (defBody s_LineWords_has_more) (defScope s_LineWords_has_more) .none kV_has_more dc_has_more pm_has_more an_has_more cd_has_more ct_has_more), sl_has_more⟩)
    (c_has_more_ : PySem.W.codeIn K cd_has_more "LineWords.has_more" = true)
    (k_has_more : PySem.W.keepIn K (.ref f_has_more) = true)
    (a_take_name : PySem.W.findIn K (.ref CL) "take_name" = some (some (.ref f_take_name)))
    (i_take_name : PySem.W.isFn K (.ref f_take_name) = true)
    (l_take_name : K.lookup f_take_name = some ⟨oc_take_name, od_take_name, .func (PySem.W.fnOf "take_name" "LineWords.take_name" (defArgs s_LineWords_take_name) (defBody s_LineWords_take_name) (defScope s_LineWords_take_name) .none kV_take_name dc_take_name pm_take_name an_take_name cd_take_name ct_take_name), sl_take_name⟩)
    (c_take_name_ : PySem.W.codeIn K cd_take_name "LineWords.take_name" = true)
    (k_take_name : PySem.W.keepIn K (.ref f_take_name) = true)
    (a_take_number : PySem.W.findIn K (.ref CL) "take_number" = some (some (.ref f_take_number)))
    (i_take_number : PySem.W.isFn K (.ref f_take_number) = true)
    (l_take_number : K.lookup f_take_number = some ⟨oc_take_number, od_take_number, .func (PySem.W.fnOf "take_number" "LineWords.take_number" (defArgs s_LineWords_take_number) (defBody s_LineWords_take_number) (defScope s_LineWords_take_number) .none kV_take_number dc_take_number pm_take_number an_take_number cd_take_number ct_take_number), sl_take_number⟩)
    (c_take_number_ : PySem.W.codeIn K cd_take_number "LineWords.take_number" = true)
    (k_take_number : PySem.W.keepIn K (.ref f_take_number) = true)
    (a_take_one_of : PySem.W.findIn K (.ref CL) "take_one_of" = some (some (.ref f_take_one_of)))
    (i_take_one_of : PySem.W.isFn K (.ref f_take_one_of) = true)
    (l_take_one_of : K.lookup f_take_one_of = some ⟨oc_take_one_of, od_take_one_of, .func (PySem.W.fnOf "take_one_of" "LineWords.take_one_of" (defArgs s_LineWords_take_one_of) (defBody s_LineWords_take_one_of) (defScope s_LineWords_take_one_of) .none kV_take_one_of dc_take_one_of pm_take_one_of an_take_one_of cd_take_one_of ct_take_one_of), sl_take_one_of⟩)
    (c_take_one_of_ : PySem.W.codeIn K cd_take_one_of "LineWords.take_one_of" = true)
    (k_take_one_of : PySem.W.keepIn K (.ref f_take_one_of) = true)
    (a_finish : PySem.W.findIn K (.ref CL) "finish" = some (some (.ref f_finish)))
    (i_finish : PySem.W.isFn K (.ref f_finish) = true)
    (l_finish : K.lookup f_finish = some ⟨oc_finish, od_finish, .func (PySem.W.fnOf "finish" "LineWords.finish" (defArgs s_LineWords_finish) (defBody s_LineWords_finish) (defScope s_LineWords_finish) .none kV_finish dc_finish pm_finish an_finish cd_finish ct_finish), sl_finish⟩)
    (c_finish_ : PySem.W.codeIn K cd_finish "LineWords.finish" = true)
    (k_finish : PySem.W.keepIn K (.ref f_finish) = true)
    (gP : PySem.W.nsIn K mainGlobals "PERCENT" = some (some (.int 37 tP)))
    (gT : PySem.W.nsIn K mainGlobals "MOST_TICKS" = some (some (.int 2000 tT)))
    (gQ : PySem.W.nsIn K mainGlobals "MOST_CUES" = some (some (.int 40 tQ)))
    (gLE : PySem.W.nsIn K mainGlobals "LETTERS" = some (some (.str LET tL)))
    (gDI : PySem.W.nsIn K mainGlobals "DIGITS" = some (some (.str DIG tD)))
    (z_isinstance : PySem.W.nsIn K mainGlobals "isinstance" = some none)
    (z_int : PySem.W.nsIn K mainGlobals "int" = some none)
    (z_bool : PySem.W.nsIn K mainGlobals "bool" = some none)
    (z_str : PySem.W.nsIn K mainGlobals "str" = some none)
    (z_len : PySem.W.nsIn K mainGlobals "len" = some none)
    (z_ord : PySem.W.nsIn K mainGlobals "ord" = some none)
    (z_all : PySem.W.nsIn K mainGlobals "all" = some none)
    (z_enumerate : PySem.W.nsIn K mainGlobals "enumerate" = some none)
    (z_max : PySem.W.nsIn K mainGlobals "max" = some none)
    (z_min : PySem.W.nsIn K mainGlobals "min" = some none)
    (z_abs : PySem.W.nsIn K mainGlobals "abs" = some none)
    (z_range : PySem.W.nsIn K mainGlobals "range" = some none)
    (z_tuple : PySem.W.nsIn K mainGlobals "tuple" = some none)
    (z_list : PySem.W.nsIn K mainGlobals "list" = some none)
    (z_sorted : PySem.W.nsIn K mainGlobals "sorted" = some none)
    (z_set : PySem.W.nsIn K mainGlobals "set" = some none)
    : ∃ fd : FuncData, (∀ (s : Shared) (v : Value), BindsTo s fd ⟨[v], []⟩ [("_law_script", v)]) ∧ ∀ base : Heap, K.In base → base.Ns mainGlobals mg → FnOk l.prog w K mg base CX0 10 fa fd ["_law_script"] (spLaw K) := by
  have e := hfa.symm.trans (PySem.W.mg_of X G a_law)
  cases e
  have m_isinstance := PySem.W.mg_none_of X G z_isinstance
  have m_int := PySem.W.mg_none_of X G z_int
  have m_bool := PySem.W.mg_none_of X G z_bool
  have m_str := PySem.W.mg_none_of X G z_str
  have m_len := PySem.W.mg_none_of X G z_len
  have m_ord := PySem.W.mg_none_of X G z_ord
  have m_all := PySem.W.mg_none_of X G z_all
  have m_enumerate := PySem.W.mg_none_of X G z_enumerate
  have m_max := PySem.W.mg_none_of X G z_max
  have m_min := PySem.W.mg_none_of X G z_min
  have m_abs := PySem.W.mg_none_of X G z_abs
  have m_range := PySem.W.mg_none_of X G z_range
  have m_tuple := PySem.W.mg_none_of X G z_tuple
  have m_list := PySem.W.mg_none_of X G z_list
  have m_sorted := PySem.W.mg_none_of X G z_sorted
  have m_set := PySem.W.mg_none_of X G z_set
  have g_PERCENT := PySem.W.mg_of X G gP
  have g_MOST_TICKS := PySem.W.mg_of X G gT
  have g_MOST_CUES := PySem.W.mg_of X G gQ
  have g_LETTERS := PySem.W.mg_of X G gLE
  have g_DIGITS := PySem.W.mg_of X G gDI
  have g_CE := PySem.W.mg_of X G aCE
  have g_CLn := PySem.W.mg_of X G aCLn
  have g_CLi := PySem.W.mg_of X G aCLi
  have F_is_integer := fun_mk (st := s_is_integer) l_is_integer c_is_integer_ k_is_integer
  have b_is_integer := F_is_integer.binds (ps := ["thing"]) fun _ _ _ _ _ _ us hl => match us, hl with | [_], _ => rfl
  have F_is_within := fun_mk (st := s_is_within) l_is_within c_is_within_ k_is_within
  have b_is_within := F_is_within.binds (ps := ["thing", "low", "high"]) fun _ _ _ _ _ _ us hl => match us, hl with | [_, _, _], _ => rfl
  have F_items_of := fun_mk (st := s_items_of) l_items_of c_items_of_ k_items_of
  have b_items_of := F_items_of.binds (ps := ["thing"]) fun _ _ _ _ _ _ us hl => match us, hl with | [_], _ => rfl
  have F_parts_of := fun_mk (st := s_parts_of) l_parts_of c_parts_of_ k_parts_of
  have b_parts_of := F_parts_of.binds (ps := ["thing", "many"]) fun _ _ _ _ _ _ us hl => match us, hl with | [_, _], _ => rfl
  have F_is_name := fun_mk (st := s_is_name) l_is_name c_is_name_ k_is_name
  have b_is_name := F_is_name.binds (ps := ["thing"]) fun _ _ _ _ _ _ us hl => match us, hl with | [_], _ => rfl
  have F_has_percent := fun_mk (st := s_has_percent) l_has_percent c_has_percent_ k_has_percent
  have b_has_percent := F_has_percent.binds (ps := ["word"]) fun _ _ _ _ _ _ us hl => match us, hl with | [_], _ => rfl
  have F_is_text := fun_mk (st := s_is_text) l_is_text c_is_text_ k_is_text
  have b_is_text := F_is_text.binds (ps := ["thing"]) fun _ _ _ _ _ _ us hl => match us, hl with | [_], _ => rfl
  have F_cue_of := fun_mk (st := s_cue_of) l_cue_of c_cue_of_ k_cue_of
  have b_cue_of := F_cue_of.binds (ps := ["thing", "earliest", "length"]) fun _ _ _ _ _ _ us hl => match us, hl with | [_, _, _], _ => rfl
  have F_judged_cues := fun_mk (st := s_judged_cues) l_judged_cues c_judged_cues_ k_judged_cues
  have b_judged_cues := F_judged_cues.binds (ps := ["length", "cues"]) fun _ _ _ _ _ _ us hl => match us, hl with | [_, _], _ => rfl
  have F_first_word := fun_mk (st := s_first_word) l_first_word c_first_word_ k_first_word
  have b_first_word := F_first_word.binds (ps := ["lines", "number"]) fun _ _ _ _ _ _ us hl => match us, hl with | [_, _], _ => rfl
  have F_is_number := fun_mk (st := s_is_number) l_is_number c_is_number_ k_is_number
  have b_is_number := F_is_number.binds (ps := ["word", "low", "high"]) fun _ _ _ _ _ _ us hl => match us, hl with | [_, _, _], _ => rfl
  have F_write_reel := fun_mk (st := s_write_reel) l_write_reel c_write_reel_ k_write_reel
  have b_write_reel := F_write_reel.binds (ps := ["reel"]) fun _ _ _ _ _ _ us hl => match us, hl with | [_], _ => rfl
  have F_take_text := fun_mk (st := s_take_text) l_take_text c_take_text_ k_take_text
  have b_take_text := F_take_text.binds (ps := ["line"]) fun _ _ _ _ _ _ us hl => match us, hl with | [_], _ => rfl
  have F_scan_cue := fun_mk (st := s_scan_cue) l_scan_cue c_scan_cue_ k_scan_cue
  have b_scan_cue := F_scan_cue.binds (ps := ["lines", "number"]) fun _ _ _ _ _ _ us hl => match us, hl with | [_, _], _ => rfl
  have F_scan_reel := fun_mk (st := s_scan_reel) l_scan_reel c_scan_reel_ k_scan_reel
  have b_scan_reel := F_scan_reel.binds (ps := ["lines", "number"]) fun _ _ _ _ _ _ us hl => match us, hl with | [_, _], _ => rfl
  have F_read_reel := fun_mk (st := s_read_reel) l_read_reel c_read_reel_ k_read_reel
  have b_read_reel := F_read_reel.binds (ps := ["lines"]) fun _ _ _ _ _ _ us hl => match us, hl with | [_], _ => rfl
  have F__law_tape := fun_mk (st := s__law_tape) l__law_tape c__law_tape_ k__law_tape
  have b__law_tape := F__law_tape.binds (ps := ["_law_script"]) fun _ _ _ _ _ _ us hl => match us, hl with | [_], _ => rfl
  have F__law_pick := fun_mk (st := s__law_pick) l__law_pick c__law_pick_ k__law_pick
  have b__law_pick := F__law_pick.binds (ps := ["_law_tape_here", "_law_many"]) fun _ _ _ _ _ _ us hl => match us, hl with | [_, _], _ => rfl
  have F__law_some := fun_mk (st := s__law_some) l__law_some c__law_some_ k__law_some
  have b__law_some := F__law_some.binds (ps := ["_law_tape_here", "_law_low", "_law_high"]) fun _ _ _ _ _ _ us hl => match us, hl with | [_, _, _], _ => rfl
  have F__law_rarely := fun_mk (st := s__law_rarely) l__law_rarely c__law_rarely_ k__law_rarely
  have b__law_rarely := F__law_rarely.binds (ps := ["_law_tape_here", "_law_many"]) fun _ _ _ _ _ _ us hl => match us, hl with | [_, _], _ => rfl
  have F__law_names := fun_mk (st := s__law_names) l__law_names c__law_names_ k__law_names
  have b__law_names := F__law_names.binds (ps := ["_law_tape_here", "_law_many"]) fun _ _ _ _ _ _ us hl => match us, hl with | [_, _], _ => rfl
  have F__law_text := fun_mk (st := s__law_text) l__law_text c__law_text_ k__law_text
  have b__law_text := F__law_text.binds (ps := ["_law_tape_here", "_law_most"]) fun _ _ _ _ _ _ us hl => match us, hl with | [_, _], _ => rfl
  have F__law_same := fun_mk (st := s__law_same) l__law_same c__law_same_ k__law_same
  have b__law_same := F__law_same.binds (ps := ["_law_told_here", "_law_due_here"]) fun _ _ _ _ _ _ us hl => match us, hl with | [_, _], _ => rfl
  have F__law_some_names := fun_mk (st := s__law_some_names) l__law_some_names c__law_some_names_ k__law_some_names
  have b__law_some_names := F__law_some_names.binds (ps := ["_law_tape_here", "_law_many"]) fun _ _ _ _ _ _ us hl => match us, hl with | [_, _], _ => rfl
  have F__law_cue_text := fun_mk (st := s__law_cue_text) l__law_cue_text c__law_cue_text_ k__law_cue_text
  have b__law_cue_text := F__law_cue_text.binds (ps := ["_law_tape_here", "_law_wide"]) fun _ _ _ _ _ _ us hl => match us, hl with | [_, _], _ => rfl
  have F__law_reel := fun_mk (st := s__law_reel) l__law_reel c__law_reel_ k__law_reel
  have b__law_reel := F__law_reel.binds (ps := ["_law_tape_here"]) fun _ _ _ _ _ _ us hl => match us, hl with | [_], _ => rfl
  have F__law_changed := fun_mk (st := s__law_changed) l__law_changed c__law_changed_ k__law_changed
  have b__law_changed := F__law_changed.binds (ps := ["_law_tape_here", "_law_told_here"]) fun _ _ _ _ _ _ us hl => match us, hl with | [_, _], _ => rfl
  have F__law_lines := fun_mk (st := s__law_lines) l__law_lines c__law_lines_ k__law_lines
  have b__law_lines := F__law_lines.binds (ps := ["_law_length", "_law_cues"]) fun _ _ _ _ _ _ us hl => match us, hl with | [_, _], _ => rfl
  have F__law_due := fun_mk (st := s__law_due) l__law_due c__law_due_ k__law_due
  have b__law_due := F__law_due.binds (ps := ["_law_length", "_law_cues"]) fun _ _ _ _ _ _ us hl => match us, hl with | [_, _], _ => rfl
  have F__law_told := fun_mk (st := s__law_told) l__law_told c__law_told_ k__law_told
  have b__law_told := F__law_told.binds (ps := ["_law_lines_here"]) fun _ _ _ _ _ _ us hl => match us, hl with | [_], _ => rfl
  have F__law_right := fun_mk (st := s__law_right) l__law_right c__law_right_ k__law_right
  have b__law_right := F__law_right.binds (ps := ["_law_told_here"]) fun _ _ _ _ _ _ us hl => match us, hl with | [_], _ => rfl
  have F_law := fun_mk (st := s_law) l_law c_law_ k_law
  have F_iB := fun_mk (st := s_BadCue___init__) l_iB c_iB_ k_iB
  have b_iB := F_iB.binds (ps := ["self", "number"]) fun _ _ _ _ _ _ us hl => match us, hl with | [_, _], _ => rfl
  have XB : XC K mg "BadCue" "number" CB f_iB := ⟨PySem.W.mg_of X G aB, ⟨⟨_, _, _, _, _, _, _, _, _, _, _, _, _, _, _, xB_, rfl⟩, saB, eB, tB, kpB⟩, inB, tIB, noB, ⟨iB, gaB, ggB, eB, klB, gt, tk, mrB⟩, hdB⟩
  have F_iM := fun_mk (st := s_TooMany___init__) l_iM c_iM_ k_iM
  have b_iM := F_iM.binds (ps := ["self", "word"]) fun _ _ _ _ _ _ us hl => match us, hl with | [_, _], _ => rfl
  have XM : XC K mg "TooMany" "word" CM f_iM := ⟨PySem.W.mg_of X G aM, ⟨⟨_, _, _, _, _, _, _, _, _, _, _, _, _, _, _, xM_, rfl⟩, saM, eM, tM, kpM⟩, inM, tIM, noM, ⟨iM, gaM, ggM, eM, klM, gt, tk, mrM⟩, hdM⟩
  have x8 : EX8 K CB CM CLn CLi CE := ⟨exm_mk eB iB tB sBB, exm_mk eB iB tB sMB, exm_mk eM iM tM sMM, kit_three (kit_no sBB iCLn tCLn sBLn) (kit_no sBB iCLi tCLi sBLi) (kit_no sBB iM tM sBM), kit_three (kit_no sMM iB tB sMB) (kit_no sMM iCLn tCLn sMLn) (kit_no sMM iCLi tCLi sMLi)⟩
  have TR : RC K mg CR f_iR := ⟨⟨pgCR, hdCR, poCR, saCR⟩, ⟨mkCR, inCR, fnCR, kpCR⟩, PySem.W.mg_of X G aCR, nCR_length, nCR_cues, nCR__speakers, nCR__naming, klCR, gt, tk, mrCR⟩
  have TL : LC K mg CL f_iL := ⟨⟨pgCL, hdCL, poCL, saCL⟩, ⟨mkCL, inCL, fnCL, kpCL⟩, PySem.W.mg_of X G aCL, nCL_number, nCL_words, nCL_taken⟩
  have F_iL := fun_mk (st := s_LineWords___init__) l_iL c_iL_ k_iL
  have b_iL := F_iL.binds (ps := ["self", "lines", "number"]) fun _ _ _ _ _ _ us hl => match us, hl with | [_, _, _], _ => rfl
  have F_iR : FunV K "__init__" "Reel.__init__" s_Reel___init__ f_iR _ := ⟨⟨_, _, TD, _, _, _, _, _, _, _, oTD, d0TD, nTD, rfl, l_iR, c_iR_, lTD, dTD⟩⟩
  have b_iR := reel_binds F_iR
  have F_eq := fun_mk (st := s_Reel___eq__) l_eq c_eq_ k_eq
  have b_eq := F_eq.binds (ps := ["self", "other"]) fun _ _ _ _ _ _ us hl => match us, hl with | [_, _], _ => rfl
  have F_take_any := fun_mk (st := s_LineWords_take_any) l_take_any c_take_any_ k_take_any
  have b_take_any := F_take_any.binds (ps := ["self"]) fun _ _ _ _ _ _ us hl => match us, hl with | [_], _ => rfl
  have F_has_more := fun_mk (st := s_LineWords_has_more) l_has_more c_has_more_ k_has_more
  have b_has_more := F_has_more.binds (ps := ["self"]) fun _ _ _ _ _ _ us hl => match us, hl with | [_], _ => rfl
  have F_take_name := fun_mk (st := s_LineWords_take_name) l_take_name c_take_name_ k_take_name
  have b_take_name := F_take_name.binds (ps := ["self"]) fun _ _ _ _ _ _ us hl => match us, hl with | [_], _ => rfl
  have F_take_number := fun_mk (st := s_LineWords_take_number) l_take_number c_take_number_ k_take_number
  have b_take_number := F_take_number.binds (ps := ["self", "low", "high"]) fun _ _ _ _ _ _ us hl => match us, hl with | [_, _, _], _ => rfl
  have F_take_one_of := fun_mk (st := s_LineWords_take_one_of) l_take_one_of c_take_one_of_ k_take_one_of
  have b_take_one_of := F_take_one_of.binds (ps := ["self", "words"]) fun _ _ _ _ _ _ us hl => match us, hl with | [_, _], _ => rfl
  have F_finish := fun_mk (st := s_LineWords_finish) l_finish c_finish_ k_finish
  have b_finish := F_finish.binds (ps := ["self"]) fun _ _ _ _ _ _ us hl => match us, hl with | [_], _ => rfl
  refine ⟨PySem.W.fnOf "law" "law" (defArgs s_law) (defBody s_law) (defScope s_law) .none kV_law dc_law pm_law an_law cd_law ct_law, fun s v => .of_eq rfl, fun base _ _ => ?_⟩
  have xB : XI l.prog w K mg base "BadCue" "number" CB := ⟨f_iB, _, XB, ok_iB F_iB, b_iB⟩
  have xM : XI l.prog w K mg base "TooMany" "word" CM := ⟨f_iM, _, XM, ok_iM F_iM, b_iM⟩
  have c_is_integer : Cal l.prog w K mg base 1 "is_integer" spIsInt := ⟨f_is_integer, _, _, ok_is_integer F_is_integer m_isinstance m_int m_bool, PySem.W.mg_of X G a_is_integer, k_is_integer, b_is_integer⟩
  have c_is_within : Cal l.prog w K mg base 2 "is_within" spWithin := ⟨f_is_within, _, _, ok_is_within F_is_within c_is_integer, PySem.W.mg_of X G a_is_within, k_is_within, b_is_within⟩
  have c_items_of : Cal l.prog w K mg base 1 "items_of" spItems := ⟨f_items_of, _, _, ok_items_of F_items_of m_isinstance m_tuple m_list, PySem.W.mg_of X G a_items_of, k_items_of, b_items_of⟩
  have c_parts_of : Cal l.prog w K mg base 2 "parts_of" spParts := ⟨f_parts_of, _, _, ok_parts_of F_parts_of m_len c_items_of, PySem.W.mg_of X G a_parts_of, k_parts_of, b_parts_of⟩
  have c_is_name : Cal l.prog w K mg base 1 "is_name" spName := ⟨f_is_name, _, _, ok_is_name F_is_name m_isinstance m_str m_len m_all g_LETTERS, PySem.W.mg_of X G a_is_name, k_is_name, b_is_name⟩
  have c_has_percent : Cal l.prog w K mg base 1 "has_percent" spPercent := ⟨f_has_percent, _, _, ok_has_percent F_has_percent g_PERCENT m_ord, PySem.W.mg_of X G a_has_percent, k_has_percent, b_has_percent⟩
  have c_is_text : Cal l.prog w K mg base 2 "is_text" spIsText := ⟨f_is_text, _, _, ok_is_text F_is_text m_isinstance m_str m_len m_all c_has_percent, PySem.W.mg_of X G a_is_text, k_is_text, b_is_text⟩
  have c_cue_of : Cal l.prog w K mg base 3 "cue_of" spCue := ⟨f_cue_of, _, _, ok_cue_of F_cue_of c_parts_of c_is_integer c_is_name c_is_text, PySem.W.mg_of X G a_cue_of, k_cue_of, b_cue_of⟩
  have c_judged_cues : CalX l.prog w K mg base 4 "judged_cues" (spJudged CB CM) := ⟨f_judged_cues, _, _, ok_judged_cues F_judged_cues m_enumerate m_len m_tuple g_MOST_CUES xB xM c_items_of c_cue_of, PySem.W.mg_of X G a_judged_cues, k_judged_cues, b_judged_cues⟩
  have c_first_word : Cal l.prog w K mg base 1 "first_word" spFirst := ⟨f_first_word, _, _, ok_first_word F_first_word m_len m_isinstance m_str, PySem.W.mg_of X G a_first_word, k_first_word, b_first_word⟩
  have c_is_number : Cal l.prog w K mg base 1 "is_number" spNum := ⟨f_is_number, _, _, ok_is_number F_is_number m_len m_str m_all m_int g_DIGITS, PySem.W.mg_of X G a_is_number, k_is_number, b_is_number⟩
  have D_iR := ok_reel (P := l.prog) (w := w) (base := base) F_iR m_enumerate m_tuple m_sorted m_set g_MOST_TICKS TR c_is_within c_judged_cues
  have D_iL := ok_line (P := l.prog) (w := w) (base := base) F_iL TL m_len m_isinstance m_str
  have D_eq := ok_reel_eq (P := l.prog) (w := w) (base := base) F_eq TR m_isinstance
  have M_take_any : MCal l.prog w K mg base 1 CL "take_any" (spTakeAny CL) := ⟨f_take_any, _, _, ok_take_any F_take_any TL m_len, ⟨a_take_any, i_take_any, k_take_any⟩, b_take_any⟩
  have M_has_more : MCal l.prog w K mg base 1 CL "has_more" (spMore CL) := ⟨f_has_more, _, _, ok_has_more F_has_more TL m_len, ⟨a_has_more, i_has_more, k_has_more⟩, b_has_more⟩
  have M_take_name : MCal l.prog w K mg base 2 CL "take_name" (spTakeName CL) := ⟨f_take_name, _, _, ok_take_name F_take_name TL M_take_any c_is_name, ⟨a_take_name, i_take_name, k_take_name⟩, b_take_name⟩
  have M_take_number : MCal l.prog w K mg base 2 CL "take_number" (spTakeNum CL) := ⟨f_take_number, _, _, ok_take_number F_take_number TL m_int M_take_any c_is_number, ⟨a_take_number, i_take_number, k_take_number⟩, b_take_number⟩
  have M_take_one_of : MCal l.prog w K mg base 2 CL "take_one_of" (spTakeOne CL) := ⟨f_take_one_of, _, _, ok_take_one_of F_take_one_of TL M_take_any, ⟨a_take_one_of, i_take_one_of, k_take_one_of⟩, b_take_one_of⟩
  have M_finish : MCal l.prog w K mg base 2 CL "finish" (spFinish CL) := ⟨f_finish, _, _, ok_finish F_finish TL M_has_more, ⟨a_finish, i_finish, k_finish⟩, b_finish⟩
  have c_write_reel : Cal l.prog w K mg base 1 "write_reel" (spWrite CR) := ⟨f_write_reel, _, _, ok_write F_write_reel TR m_tuple, PySem.W.mg_of X G a_write_reel, k_write_reel, b_write_reel⟩
  have c_take_text : Cal l.prog w K mg base 2 "take_text" (spTakeText CL) := ⟨f_take_text, _, _, ok_take_text F_take_text TL m_len M_take_any M_has_more c_has_percent, PySem.W.mg_of X G a_take_text, k_take_text, b_take_text⟩
  have c_scan_cue : Cal l.prog w K mg base 3 "scan_cue" spScanCue := ⟨f_scan_cue, _, _, ok_scan_cue F_scan_cue TL D_iL b_iL g_MOST_TICKS M_take_one_of M_take_number M_take_name c_take_text, PySem.W.mg_of X G a_scan_cue, k_scan_cue, b_scan_cue⟩
  have c_scan_reel : Cal l.prog w K mg base 4 "scan_reel" spScan := ⟨f_scan_reel, _, _, ok_scan_reel F_scan_reel TL D_iL b_iL m_tuple g_MOST_TICKS M_take_one_of M_take_number M_finish c_first_word c_scan_cue, PySem.W.mg_of X G a_scan_reel, k_scan_reel, b_scan_reel⟩
  have c_read_reel : CalX l.prog w K mg base 7 "read_reel" (spRead CR CB CM) := ⟨f_read_reel, _, _, ok_read_reel F_read_reel m_len TR D_iR b_iR c_scan_reel, PySem.W.mg_of X G a_read_reel, k_read_reel, b_read_reel⟩
  have c__law_tape : Cal l.prog w K mg base 1 "_law_tape" (spTape K) := ⟨f__law_tape, _, _, ok_tape F__law_tape m_abs m_int, PySem.W.mg_of X G a__law_tape, k__law_tape, b__law_tape⟩
  have c__law_pick : Cal l.prog w K mg base 1 "_law_pick" spPick := ⟨f__law_pick, _, _, ok_pick F__law_pick m_len m_int, PySem.W.mg_of X G a__law_pick, k__law_pick, b__law_pick⟩
  have c__law_some : Cal l.prog w K mg base 2 "_law_some" spSome := ⟨f__law_some, _, _, ok_some F__law_some c__law_pick, PySem.W.mg_of X G a__law_some, k__law_some, b__law_some⟩
  have c__law_rarely : Cal l.prog w K mg base 2 "_law_rarely" spRarely := ⟨f__law_rarely, _, _, ok_rarely F__law_rarely c__law_pick, PySem.W.mg_of X G a__law_rarely, k__law_rarely, b__law_rarely⟩
  have c__law_names : Cal l.prog w K mg base 2 "_law_names" spNames := ⟨f__law_names, _, _, ok_names F__law_names m_range m_len c__law_pick, PySem.W.mg_of X G a__law_names, k__law_names, b__law_names⟩
  have c__law_text : Cal l.prog w K mg base 3 "_law_text" spText := ⟨f__law_text, _, _, ok_text F__law_text m_range m_len c__law_pick c__law_some, PySem.W.mg_of X G a__law_text, k__law_text, b__law_text⟩
  have c__law_same : Cal l.prog w K mg base 4 "_law_same" (spSame 3) := ⟨f__law_same, _, _, ok_same3 F__law_same m_isinstance m_tuple m_bool m_str m_int m_len m_all m_range (PySem.W.mg_of X G a__law_same) k__law_same b__law_same, PySem.W.mg_of X G a__law_same, k__law_same, b__law_same⟩
  have c__law_some_names : Cal l.prog w K mg base 3 "_law_some_names" spSomeNames := ⟨f__law_some_names, _, _, ok_some_names F__law_some_names m_range c__law_pick c__law_some c__law_names, PySem.W.mg_of X G a__law_some_names, k__law_some_names, b__law_some_names⟩
  have c__law_cue_text : Cal l.prog w K mg base 4 "_law_cue_text" spCueText := ⟨f__law_cue_text, _, _, ok_cue_text F__law_cue_text c__law_some c__law_rarely c__law_text, PySem.W.mg_of X G a__law_cue_text, k__law_cue_text, b__law_cue_text⟩
  have c__law_reel : Cal l.prog w K mg base 5 "_law_reel" spLawReel := ⟨f__law_reel, _, _, ok_law_reel F__law_reel m_range m_len m_min m_max c__law_pick c__law_some c__law_rarely c__law_some_names c__law_cue_text, PySem.W.mg_of X G a__law_reel, k__law_reel, b__law_reel⟩
  have c__law_changed : Cal l.prog w K mg base 3 "_law_changed" spChanged := ⟨f__law_changed, _, _, ok_changed F__law_changed m_list m_len m_min m_max c__law_pick c__law_some, PySem.W.mg_of X G a__law_changed, k__law_changed, b__law_changed⟩
  have c__law_lines : Cal l.prog w K mg base 1 "_law_lines" spLines := ⟨f__law_lines, _, _, ok_lines F__law_lines m_str, PySem.W.mg_of X G a__law_lines, k__law_lines, b__law_lines⟩
  have c__law_due : Cal l.prog w K mg base 1 "_law_due" spDue := ⟨f__law_due, _, _, ok_due F__law_due m_range m_len m_tuple, PySem.W.mg_of X G a__law_due, k__law_due, b__law_due⟩
  have c__law_told : Cal l.prog w K mg base 8 "_law_told" spTold := ⟨f__law_told, _, _, ok_told F__law_told m_isinstance TR xB xM g_CLn g_CLi g_CE x8 c_read_reel, PySem.W.mg_of X G a__law_told, k__law_told, b__law_told⟩
  have c__law_right : Cal l.prog w K mg base 9 "_law_right" spRight := ⟨f__law_right, _, _, ok_right F__law_right m_list m_tuple TR D_iR b_iR D_eq b_eq a_eq i_eq c__law_lines c__law_due c__law_same c__law_told c_write_reel c_read_reel, PySem.W.mg_of X G a__law_right, k__law_right, b__law_right⟩
  exact ok_law F_law m_range TR D_eq b_eq a_eq i_eq c__law_tape c__law_pick c__law_reel c__law_changed c__law_right c__law_lines c__law_due c__law_same c__law_told c_read_reel
end Sea
open PySem PySem.W PyProof.Rows
set_option maxRecDepth 100000 in
set_option maxHeartbeats 0 in
theorem PySem.Challenge.cw_seamfast_k08_reel_lines_holds : PySem.Challenge.rw_seamfast_k08_reel_lines.Holds := by
  w_on; o_law; k_head; (case hw => w_witness2)
  k_fill
  refine L2.walk_of (l := PySem.Challenge.rw_seamfast_k08_reel_lines) (n := 63) (k := 10) (x := "_law_script") (CX := fun _ => L2.CX0) (sp := fun w => Sea.spLaw _) rfl (by decide) rfl ⟨rfl, by decide, by decide⟩ (fun w h Y => PySem.W.kIn_of Y) ?F (fun _ _ a ns hl _ hS => ⟨a, ns, rfl, hS, hl, fun _ => rfl⟩) (fun _ _ _ _ _ h => h)
  case F =>
    intro w mg fa h KX G hmg
    refine' Sea.all_mk KX G hmg ?a_is_integer ?l_is_integer ?c_is_integer_ ?k_is_integer ?a_is_within ?l_is_within ?c_is_within_ ?k_is_within ?a_items_of ?l_items_of ?c_items_of_ ?k_items_of ?a_parts_of ?l_parts_of ?c_parts_of_ ?k_parts_of ?a_is_name ?l_is_name ?c_is_name_ ?k_is_name ?a_has_percent ?l_has_percent ?c_has_percent_ ?k_has_percent ?a_is_text ?l_is_text ?c_is_text_ ?k_is_text ?a_cue_of ?l_cue_of ?c_cue_of_ ?k_cue_of ?a_judged_cues ?l_judged_cues ?c_judged_cues_ ?k_judged_cues ?a_first_word ?l_first_word ?c_first_word_ ?k_first_word ?a_is_number ?l_is_number ?c_is_number_ ?k_is_number ?a_write_reel ?l_write_reel ?c_write_reel_ ?k_write_reel ?a_take_text ?l_take_text ?c_take_text_ ?k_take_text ?a_scan_cue ?l_scan_cue ?c_scan_cue_ ?k_scan_cue ?a_scan_reel ?l_scan_reel ?c_scan_reel_ ?k_scan_reel ?a_read_reel ?l_read_reel ?c_read_reel_ ?k_read_reel ?a__law_tape ?l__law_tape ?c__law_tape_ ?k__law_tape ?a__law_pick ?l__law_pick ?c__law_pick_ ?k__law_pick ?a__law_some ?l__law_some ?c__law_some_ ?k__law_some ?a__law_rarely ?l__law_rarely ?c__law_rarely_ ?k__law_rarely ?a__law_names ?l__law_names ?c__law_names_ ?k__law_names ?a__law_text ?l__law_text ?c__law_text_ ?k__law_text ?a__law_same ?l__law_same ?c__law_same_ ?k__law_same ?a__law_some_names ?l__law_some_names ?c__law_some_names_ ?k__law_some_names ?a__law_cue_text ?l__law_cue_text ?c__law_cue_text_ ?k__law_cue_text ?a__law_reel ?l__law_reel ?c__law_reel_ ?k__law_reel ?a__law_changed ?l__law_changed ?c__law_changed_ ?k__law_changed ?a__law_lines ?l__law_lines ?c__law_lines_ ?k__law_lines ?a__law_due ?l__law_due ?c__law_due_ ?k__law_due ?a__law_told ?l__law_told ?c__law_told_ ?k__law_told ?a__law_right ?l__law_right ?c__law_right_ ?k__law_right ?a_law ?l_law ?c_law_ ?k_law ?aCE ?aCLn ?aCLi ?iCLn ?tCLn ?iCLi ?tCLi ?aB ?xB_ ?saB ?eB ?tB ?kpB ?inB ?tIB ?noB ?iB ?gaB ?ggB ?klB ?mrB ?hdB ?l_iB ?c_iB_ ?k_iB ?aM ?xM_ ?saM ?eM ?tM ?kpM ?inM ?tIM ?noM ?iM ?gaM ?ggM ?klM ?mrM ?hdM ?l_iM ?c_iM_ ?k_iM ?gt ?tk ?sBB ?sBM ?sBLn ?sBLi ?sMB ?sMM ?sMLn ?sMLi ?aCR ?pgCR ?hdCR ?poCR ?saCR ?mkCR ?inCR ?fnCR ?kpCR ?nCR_length ?nCR_cues ?nCR__speakers ?nCR__naming ?l_iR ?c_iR_ ?aCL ?pgCL ?hdCL ?poCL ?saCL ?mkCL ?inCL ?fnCL ?kpCL ?nCL_number ?nCL_words ?nCL_taken ?l_iL ?c_iL_ ?k_iL ?klCR ?mrCR ?lTD ?dTD ?a_eq ?i_eq ?l_eq ?c_eq_ ?k_eq ?a_take_any ?i_take_any ?l_take_any ?c_take_any_ ?k_take_any ?a_has_more ?i_has_more ?l_has_more ?c_has_more_ ?k_has_more ?a_take_name ?i_take_name ?l_take_name ?c_take_name_ ?k_take_name ?a_take_number ?i_take_number ?l_take_number ?c_take_number_ ?k_take_number ?a_take_one_of ?i_take_one_of ?l_take_one_of ?c_take_one_of_ ?k_take_one_of ?a_finish ?i_finish ?l_finish ?c_finish_ ?k_finish ?gP ?gT ?gQ ?gLE ?gDI ?z_isinstance ?z_int ?z_bool ?z_str ?z_len ?z_ord ?z_all ?z_enumerate ?z_max ?z_min ?z_abs ?z_range ?z_tuple ?z_list ?z_sorted ?z_set
    (case a_is_integer => k_is)
    (case l_is_integer => k_is)
    (case c_is_integer_ => k_is)
    (case k_is_integer => k_is)
    (case a_is_within => k_is)
    (case l_is_within => k_is)
    (case c_is_within_ => k_is)
    (case k_is_within => k_is)
    (case a_items_of => k_is)
    (case l_items_of => k_is)
    (case c_items_of_ => k_is)
    (case k_items_of => k_is)
    (case a_parts_of => k_is)
    (case l_parts_of => k_is)
    (case c_parts_of_ => k_is)
    (case k_parts_of => k_is)
    (case a_is_name => k_is)
    (case l_is_name => k_is)
    (case c_is_name_ => k_is)
    (case k_is_name => k_is)
    (case a_has_percent => k_is)
    (case l_has_percent => k_is)
    (case c_has_percent_ => k_is)
    (case k_has_percent => k_is)
    (case a_is_text => k_is)
    (case l_is_text => k_is)
    (case c_is_text_ => k_is)
    (case k_is_text => k_is)
    (case a_cue_of => k_is)
    (case l_cue_of => k_is)
    (case c_cue_of_ => k_is)
    (case k_cue_of => k_is)
    (case a_judged_cues => k_is)
    (case l_judged_cues => k_is)
    (case c_judged_cues_ => k_is)
    (case k_judged_cues => k_is)
    (case a_first_word => k_is)
    (case l_first_word => k_is)
    (case c_first_word_ => k_is)
    (case k_first_word => k_is)
    (case a_is_number => k_is)
    (case l_is_number => k_is)
    (case c_is_number_ => k_is)
    (case k_is_number => k_is)
    (case a_write_reel => k_is)
    (case l_write_reel => k_is)
    (case c_write_reel_ => k_is)
    (case k_write_reel => k_is)
    (case a_take_text => k_is)
    (case l_take_text => k_is)
    (case c_take_text_ => k_is)
    (case k_take_text => k_is)
    (case a_scan_cue => k_is)
    (case l_scan_cue => k_is)
    (case c_scan_cue_ => k_is)
    (case k_scan_cue => k_is)
    (case a_scan_reel => k_is)
    (case l_scan_reel => k_is)
    (case c_scan_reel_ => k_is)
    (case k_scan_reel => k_is)
    (case a_read_reel => k_is)
    (case l_read_reel => k_is)
    (case c_read_reel_ => k_is)
    (case k_read_reel => k_is)
    (case a__law_tape => k_is)
    (case l__law_tape => k_is)
    (case c__law_tape_ => k_is)
    (case k__law_tape => k_is)
    (case a__law_pick => k_is)
    (case l__law_pick => k_is)
    (case c__law_pick_ => k_is)
    (case k__law_pick => k_is)
    (case a__law_some => k_is)
    (case l__law_some => k_is)
    (case c__law_some_ => k_is)
    (case k__law_some => k_is)
    (case a__law_rarely => k_is)
    (case l__law_rarely => k_is)
    (case c__law_rarely_ => k_is)
    (case k__law_rarely => k_is)
    (case a__law_names => k_is)
    (case l__law_names => k_is)
    (case c__law_names_ => k_is)
    (case k__law_names => k_is)
    (case a__law_text => k_is)
    (case l__law_text => k_is)
    (case c__law_text_ => k_is)
    (case k__law_text => k_is)
    (case a__law_same => k_is)
    (case l__law_same => k_is)
    (case c__law_same_ => k_is)
    (case k__law_same => k_is)
    (case a__law_some_names => k_is)
    (case l__law_some_names => k_is)
    (case c__law_some_names_ => k_is)
    (case k__law_some_names => k_is)
    (case a__law_cue_text => k_is)
    (case l__law_cue_text => k_is)
    (case c__law_cue_text_ => k_is)
    (case k__law_cue_text => k_is)
    (case a__law_reel => k_is)
    (case l__law_reel => k_is)
    (case c__law_reel_ => k_is)
    (case k__law_reel => k_is)
    (case a__law_changed => k_is)
    (case l__law_changed => k_is)
    (case c__law_changed_ => k_is)
    (case k__law_changed => k_is)
    (case a__law_lines => k_is)
    (case l__law_lines => k_is)
    (case c__law_lines_ => k_is)
    (case k__law_lines => k_is)
    (case a__law_due => k_is)
    (case l__law_due => k_is)
    (case c__law_due_ => k_is)
    (case k__law_due => k_is)
    (case a__law_told => k_is)
    (case l__law_told => k_is)
    (case c__law_told_ => k_is)
    (case k__law_told => k_is)
    (case a__law_right => k_is)
    (case l__law_right => k_is)
    (case c__law_right_ => k_is)
    (case k__law_right => k_is)
    (case a_law => k_is)
    (case l_law => k_is)
    (case c_law_ => k_is)
    (case k_law => k_is)
    (case aCE => k_is)
    (case aCLn => k_is)
    (case aCLi => k_is)
    (case iCLn => k_is)
    (case tCLn => k_is)
    (case iCLi => k_is)
    (case tCLi => k_is)
    (case aB => k_is)
    (case xB_ => k_is)
    (case saB => k_is)
    (case eB => k_is)
    (case tB => k_is)
    (case kpB => k_is)
    (case inB => k_is)
    (case tIB => k_is)
    (case noB => k_is)
    (case iB => k_is)
    (case gaB => k_is)
    (case ggB => k_is)
    (case klB => k_is)
    (case mrB => k_is)
    (case hdB => k_is)
    (case l_iB => k_is)
    (case c_iB_ => k_is)
    (case k_iB => k_is)
    (case aM => k_is)
    (case xM_ => k_is)
    (case saM => k_is)
    (case eM => k_is)
    (case tM => k_is)
    (case kpM => k_is)
    (case inM => k_is)
    (case tIM => k_is)
    (case noM => k_is)
    (case iM => k_is)
    (case gaM => k_is)
    (case ggM => k_is)
    (case klM => k_is)
    (case mrM => k_is)
    (case hdM => k_is)
    (case l_iM => k_is)
    (case c_iM_ => k_is)
    (case k_iM => k_is)
    (case gt => k_is)
    (case tk => k_is)
    (case sBB => k_is)
    (case sBM => k_is)
    (case sBLn => k_is)
    (case sBLi => k_is)
    (case sMB => k_is)
    (case sMM => k_is)
    (case sMLn => k_is)
    (case sMLi => k_is)
    (case aCR => k_is)
    (case pgCR => k_is)
    (case hdCR => k_is)
    (case poCR => k_is)
    (case saCR => k_is)
    (case mkCR => k_is)
    (case inCR => k_is)
    (case fnCR => k_is)
    (case kpCR => k_is)
    (case nCR_length => k_is)
    (case nCR_cues => k_is)
    (case nCR__speakers => k_is)
    (case nCR__naming => k_is)
    (case l_iR => k_is)
    (case c_iR_ => k_is)
    (case aCL => k_is)
    (case pgCL => k_is)
    (case hdCL => k_is)
    (case poCL => k_is)
    (case saCL => k_is)
    (case mkCL => k_is)
    (case inCL => k_is)
    (case fnCL => k_is)
    (case kpCL => k_is)
    (case nCL_number => k_is)
    (case nCL_words => k_is)
    (case nCL_taken => k_is)
    (case l_iL => k_is)
    (case c_iL_ => k_is)
    (case k_iL => k_is)
    (case klCR => k_is)
    (case mrCR => k_is)
    (case lTD => k_is)
    (case dTD => rfl)
    (case a_eq => k_is)
    (case i_eq => k_is)
    (case l_eq => k_is)
    (case c_eq_ => k_is)
    (case k_eq => k_is)
    (case a_take_any => k_is)
    (case i_take_any => k_is)
    (case l_take_any => k_is)
    (case c_take_any_ => k_is)
    (case k_take_any => k_is)
    (case a_has_more => k_is)
    (case i_has_more => k_is)
    (case l_has_more => k_is)
    (case c_has_more_ => k_is)
    (case k_has_more => k_is)
    (case a_take_name => k_is)
    (case i_take_name => k_is)
    (case l_take_name => k_is)
    (case c_take_name_ => k_is)
    (case k_take_name => k_is)
    (case a_take_number => k_is)
    (case i_take_number => k_is)
    (case l_take_number => k_is)
    (case c_take_number_ => k_is)
    (case k_take_number => k_is)
    (case a_take_one_of => k_is)
    (case i_take_one_of => k_is)
    (case l_take_one_of => k_is)
    (case c_take_one_of_ => k_is)
    (case k_take_one_of => k_is)
    (case a_finish => k_is)
    (case i_finish => k_is)
    (case l_finish => k_is)
    (case c_finish_ => k_is)
    (case k_finish => k_is)
    (case gP => k_is)
    (case gT => k_is)
    (case gQ => k_is)
    (case gLE => k_is)
    (case gDI => k_is)
    (case z_isinstance => k_is)
    (case z_int => k_is)
    (case z_bool => k_is)
    (case z_str => k_is)
    (case z_len => k_is)
    (case z_ord => k_is)
    (case z_all => k_is)
    (case z_enumerate => k_is)
    (case z_max => k_is)
    (case z_min => k_is)
    (case z_abs => k_is)
    (case z_range => k_is)
    (case z_tuple => k_is)
    (case z_list => k_is)
    (case z_sorted => k_is)
    (case z_set => k_is)
