import PyProof.Rows.All
import Wide.All
import OpenK.AllK
import Wide.FinOn
import KE.KMinKey
import KE.KExcIs
import HandS.ForMost
import HandS.Walk
import HandS.SortKw
import HandS.Exc
import HandS.ExcInit
import HandS.ExcField
import HandS.TryMany
import HandS.IsInst
import HandS.WordsExc
import HandS.StrMore
import HandS.CallSlots
import HandS.Codes
import PySem.Challenge.RW_seamfast_k04_two_lines
set_option Elab.async false
set_option linter.all false
set_option maxRecDepth 100000
set_option maxHeartbeats 4000000
/-! enumerate over a text, as something that a for or a comprehension walks. -/
namespace Sea
open PySem PySem.Spec PyProof.Rows L2
/-- the signs of x, each with its number, in a new pair -/
def Iens (x : Str) : It where
  go := fun i _ => i < x.cps.size
  yld := fun i H v H' => ∃ T c, v = .ref T ∧ H T = none ∧ x.cps[i]? = some c ∧ H' = upd H T (.tup [.int (i : Nat), .str ⟨#[c]⟩])
  stop := fun i _ => x.cps.size ≤ i
theorem drawsOf {prog : Program} {w : World} {A : Around} (hh : A.handled = none) (it : Addr) (x : Str) (t : Tok) :
    Draws prog w A it [it] x.cps.size (fun i v => ∃ c u, x.cps[i]? = some c ∧ v = .str ⟨#[c]⟩ u)
      (fun i h => h.IsStrIter it (strIterType x) x t i) := by
  unfold strIterType
  cases x.cps.all (· < 128)
  · exact Draws.strWide hh it x t
  · exact Draws.strAscii hh it x t
theorem turn_ens {P : Program} {w : World} {K : PySem.W.Frag} {elts : List Expr} {kk : Nat} {tpos : Pos}
    (x : Str) (t : Tok) (e it : Addr) (hne : e ≠ it) :
    Turn P w K (.Tuple elts kk tpos) (Iens x) [e, it] e
      (fun i h => (∃ old, IsEnum h e it ((i : Nat) : Int) old) ∧ h.IsStrIter it (strIterType x) x t i) where
  mem := List.mem_cons_self
  obj := fun i h st b hb => by
    obtain ⟨⟨old, he⟩, o, ho, hc, hd⟩ := st
    rcases List.mem_cons.mp hb with z | z
    · subst z
      exact ⟨_, he, fun v q => nomatch q⟩
    · rw [List.mem_singleton.mp z]
      exact ⟨o, ho, fun v q => by rw [hd] at q; cases q⟩
  keep := fun i h h' st k => by
    obtain ⟨⟨old, he⟩, o, ho, r⟩ := st
    exact ⟨⟨old, k e List.mem_cons_self _ he⟩, o, k it (List.mem_cons_of_mem _ List.mem_cons_self) o ho, r⟩
  item := by
    intro X hP hw hK hc i pins s σ H E I hf st hg
    subst hP
    subst hw
    subst hK
    obtain ⟨⟨old, he⟩, hit⟩ := st
    have hel : e < s.heap.objs.size := Heap.lt_size he
    have hil : it < s.heap.objs.size := by
      obtain ⟨_, q, _⟩ := hit
      exact Heap.lt_size q
    have D := drawsOf (prog := X.prog) (w := X.w) (A := X.A.in1) (I.ok.hd hc) it x t
    refine wpAny_pyNext_enum_itemD D he hit hg hne (fun q => hne (List.mem_singleton.mp q)) fun y h' tk hP ho hit' hT hsz hk => ?_
    obtain ⟨c, u, hcx, rfl⟩ := hP
    refine ⟨_, rfl, wpAny_letOwnedTupleGo_enum (s := ⟨h', s.gens, s.drawn, tk + 1, s.os⟩) ho fun h2 he2 sb => ?_⟩
    have hT2 : h2.get? s.heap.objs.size = some { cls := .type "tuple", data := .seq #[.int i tk, .str ⟨#[c]⟩ u] } :=
      (sb.2 _ (Nat.ne_of_gt hel)).trans hT
    have nw : ObjOk X.prog X.w (upd H s.heap.objs.size (.tup [.int (i : Nat), .str ⟨#[c]⟩])) h2 s.heap.objs.size (.tup [.int (i : Nat), .str ⟨#[c]⟩]) :=
      ⟨by show 2 ≤ sizeLine; decide, [.int i tk, .str ⟨#[c]⟩ u], .cons ⟨_, rfl⟩ (.cons ⟨_, rfl⟩ .nil), ⟨_, hT2, rfl, _, rfl⟩⟩
    have kk2 : ∀ b ob, b ∉ [e, it] → s.heap.get? b = some ob → h2.get? b = some ob := fun b ob hb q => by
      have b1 : b ≠ e := fun z => hb (z ▸ List.mem_cons_self)
      have b2 : b ≠ it := fun z => hb (z ▸ List.mem_cons_of_mem _ List.mem_cons_self)
      exact (sb.2 b b1).trans (hk b ob b1 b2 q)
    have J : Inv X pins σ (upd H s.heap.objs.size (.tup [.int (i : Nat), .str ⟨#[c]⟩])) ⟨h2, s.gens, s.drawn, tk + 1, s.os⟩ :=
      I.turnedNew (t' := tk + 1) kk2 hf (Nat.le_refl _) nw
    refine ⟨.ref s.heap.objs.size, _, J, rfl, ⟨_, c, rfl, I.hok.fresh (Nat.le_refl _), hcx, rfl⟩, ⟨⟨.str ⟨#[c]⟩ u, ?_⟩, ?_⟩, fun b hb => ?_⟩
    · have e1 : ((i + 1 : Nat) : Int) = (i : Int) + 1 := Int.natCast_succ i
      rw [e1]
      exact he2
    · obtain ⟨o, ho2, r⟩ := hit'
      exact ⟨o, (sb.2 it hne.symm).trans ho2, r⟩
    · have hlt : b < s.heap.objs.size := by
        rcases List.mem_cons.mp hb with z | z
        · exact z ▸ hel
        · exact (List.mem_singleton.mp z) ▸ hil
      rw [upd_ne (Nat.ne_of_lt hlt)]
      exact (hf b hb).1
  done := by
    intro X hP hw hK hc i pins s σ H E I hf st hg
    subst hP
    subst hw
    subst hK
    obtain ⟨⟨old, he⟩, hit⟩ := st
    obtain ⟨f0, f1, f2, f3, f4, f5⟩ := hf it (List.mem_cons_of_mem _ List.mem_cons_self)
    have hx : x.cps[i]? = none := Array.getElem?_eq_none hg
    have hT : s.TypeIs (.ref e) "enumerate" := ⟨_, he, rfl⟩
    unfold pyNext
    refine wpAny_bind (wpAny_attempt (wpAny_callSpecial?_slot (name := Str.ofString "__next__") hT F.slot_enumerate_next
      (wpAny_call_entry F.slot_enumerate_next hT F.entry_enumerate_next ?_ (F.args_enumerate_next_1 _))))
    show wpAny _ _ (field (.ref e) 2 >>= _) _ _ _
    refine wpAny_bind (wpAny_field he rfl (x := .ref it) rfl ?_)
    have fin : ∀ h' z, Heap.ExtBut it s.heap h' → (∃ o, h'.get? z = some o ∧ o.cls = .type "StopIteration") →
        Inv X pins σ H { s with heap := h' } := fun h' z eb _ => I.turned (t' := s.toks) (fun b o hb q => eb b o hb q) f0 f1 f3 f4 f5
    unfold strIterType at hit
    cases ha : x.cps.all (· < 128)
    · rw [ha] at hit
      refine wpAny_bind (wpAny_nextOf_wide_end (I.ok.hd hc) hit hx fun h' z eb hs => ?_)
      obtain ⟨o, ho, hcl⟩ := id hs
      refine wpAny_bind (wpAny_isInstance (T := "StopIteration") (b := true) ⟨o, ho, hcl⟩ isSubtype_stop ?_)
      exact wpAny_pure ⟨rfl, fin h' z eb hs⟩
    · rw [ha] at hit
      refine wpAny_bind (wpAny_nextOf_ascii_end (I.ok.hd hc) hit hx fun h' z eb hs => ?_)
      obtain ⟨o, ho, hcl⟩ := id hs
      refine wpAny_bind (wpAny_isInstance (T := "StopIteration") (b := true) ⟨o, ho, hcl⟩ isSubtype_stop ?_)
      exact wpAny_pure ⟨rfl, fin h' z eb hs⟩
  self := fun A i s Q E st h => by
    obtain ⟨⟨_, he⟩, _⟩ := st
    exact wpAny_pyIter_enum he h
def iEnS (ta : TA) : TI := fun σ H R => ta σ H fun vs H1 => ∃ x, vs = [.str x] ∧ R (Iens x) H1
theorem pi_ens {X : Cx} {e : Expr} {ta : TA} {p pos tpos : Pos} {elts : List Expr} {kk : Nat} (hg : Gl X "enumerate") (hm : X.mg "enumerate" = none)
    (ha : PA X [e] ta) (hs : starEach [e] X.env = [(false, eval e X.env)] := by rfl) :
    PI X (.Tuple elts kk tpos) (.Call (.Name "enumerate" p) [e] [] pos) (iEnS ta) := by
  refine ⟨fun pins s σ H R I h => ?_⟩
  refine Call_ (ld_blt I hg hm boot_enumerate (PyProof.Rows.callWith_type1 (thn (ha.run pos pins s σ H _ I h)
    fun us s1 ⟨vs, H1, I1, r1, x, ex, q⟩ => ?_) hs rfl))
  subst ex
  cases r1 with
  | cons r rr =>
    cases rr
    obtain ⟨t, rfl⟩ := r
    refine call_enumerate_str fun h' he hit hsz hk => wpAny_pyIter_enum he ?_
    have I2 : Inv X pins σ H1 { s1 with heap := h' } := I1.kept (t' := s1.toks) hk
    have ne : s1.heap.objs.size + 1 ≠ s1.heap.objs.size := Nat.succ_ne_self _
    refine ⟨s1.heap.objs.size + 1, [s1.heap.objs.size + 1, s1.heap.objs.size], _, _, H1, rfl, I2, turn_ens x t _ _ ne, ⟨⟨.none, he⟩, hit⟩, fun b hb => ?_, q⟩
    have hle : s1.heap.objs.size ≤ b := by
      rcases List.mem_cons.mp hb with z | z
      · exact z ▸ Nat.le_succ _
      · exact (List.mem_singleton.mp z) ▸ Nat.le_refl _
    exact I1.fpOk hle (I1.hok.fresh hle)
/-- the turns of it, for for_it and lc_it -/
theorem walk_ens {x : Str} : Walk (Iens x) x.cps.size (fun _ => True)
    (fun i H v H' => ∃ T c, v = .ref T ∧ H T = none ∧ x.cps[i]? = some c ∧ H' = upd H T (.tup [.int (i : Nat), .str ⟨#[c]⟩])) :=
  ⟨fun _ _ hi _ => hi, fun _ _ => Nat.le_refl _, fun _ _ _ _ _ _ y => y⟩
end Sea
/-! min(list, key = an own def of one parameter that changes nothing and gives an int): the first item of the least key. -/
namespace Sea
open PySem PySem.Spec PyProof.Rows L2
/-- kf at i is the least, and stands first -/
def LeastAt (kf : Nat → Int) (n i : Nat) : Prop := i < n ∧ ∀ j, j < n → kf i ≤ kf j ∧ (j < i → kf i < kf j)
section
variable {X : Cx} {pins : List (Addr × Obj)} {σ : L2.St} {H : Hp} {Q : VK} {k : Nat} {f a : Addr} {fd : FuncData} {p : Str} {sp : Sp} {ys : List V} {kf : Nat → Int}
theorem FpOk.nostk {s : Shared} {b : Addr} (I : Inv X pins σ H s) (h : FpOk X pins H b) : b ∉ frs X.stack := fun z => by
  rcases List.mem_cons.mp (I.stkSub b z) with e | e
  · exact h.2.1 e
  · exact h.2.2.1 e
/-- the key of one item is asked -/
theorem key_turn (F : FnOk X.prog X.w X.K X.mg X.base CX0 k f fd [p] sp) (hr : Room (k + 1) X.A) (hb : Binds X.K fd [p] [])
    {s : Shared} {y : V} {v : Value} {n : Int} (I : Inv X pins σ H s) (ry : RelV y v) (hsp : sp [y] H (fun u H' => u = .int n ∧ H' = H) E0) {E : Value → Shared → Prop} :
    wpAny (model X.prog X.w) X.A.in1 (call (.ref f) [v]) (fun u s' => (∃ t, u = .int n t) ∧ Inv X pins σ H s' ∧
      ∀ b o, FpOk X pins H b → s.heap.get? b = some o → s'.heap.get? b = some o) E s := by
  refine wpAny_call (codeAny_mono (F.run X.A.in1 X.stack s H ⟨[v], []⟩ ([v] ++ []) [y] _ E0 hr.in1 I.env0.in1 (hb s [v] I.kIn rfl) (.cons ry .nil) hsp) fun r s' hq => ?_)
  cases r with
  | error e => exact False.elim hq
  | ok fl =>
    cases fl with
    | ret u =>
      obtain ⟨y', H', os, bare, un, hok, r', q1, q2⟩ := hq
      subst q1
      subst q2
      refine ⟨r', I.call' (ch := []) os un hok bare (fun b z => nomatch z), fun b o fp e => ?_⟩
      exact un.keep b o e fp.1 (FpOk.nostk (s := s) I fp) (fun z => nomatch z)
    | next => exact False.elim hq
    | brk => exact False.elim hq
    | cont => exact False.elim hq
theorem under_min (A : Around) (z : Args) : A.under (.builtin "min.loop" z) = A.in1 := Around.under_plainId PySem.F.plain_min_loop _
theorem minkey_loop (hc : X.calm = true) (F : FnOk X.prog X.w X.K X.mg X.base CX0 k f fd [p] sp) (hr : Room (k + 1) X.A) (hb : Binds X.K fd [p] [])
    (hq : SqL X.K H a ys) (hk : ∀ i y, ys[i]? = some y → sp [y] H (fun u H' => u = .int (kf i) ∧ H' = H) E0)
    (hQ : ∀ i y, ys[i]? = some y → LeastAt kf ys.length i → Q y H) {I S : Addr} (fI : FpOk X pins H I) (fS : FpOk X pins H S) (hIS : I ≠ S) :
    ∀ (r j i : Nat) (s : Shared) (y : V) (vb : Value) (tb : Tok) (c : Nat), ys.length - (j + 1) = r → j + 1 ≤ ys.length → Inv X pins σ H s →
      s.heap.IsListIter I a (j + 1) → s.heap.get? S = some (seqObj "list" #[vb, .int (kf i) tb] c) → ys[i]? = some y → RelV y vb → i ≤ j →
      (∀ j', j' ≤ j → kf i ≤ kf j' ∧ (j' < i → kf i < kf j')) →
      codeAny (model X.prog X.w) X.A (.builtin "min.loop" ⟨[.ref I, .ref f, .ref S], []⟩)
        (fun r s' => match r with | .ok (.ret v) => EP X pins σ Q v s' | .ok _ => False | .error e => X.xe e s') s := by
  have hname : (toString "min" ++ toString ".loop" : String) = "min.loop" := by decide
  intro r
  induction r with
  | zero =>
    intro j i s y vb tb c er hj J hit hS hy ry hij hbest
    have ej : j + 1 = ys.length := by omega
    obtain ⟨its, rv, pl, hz⟩ := J.list hq
    have hlen := rv.length
    refine codeAny_builtin PySem.F.entry_min_loop ?_
    rw [under_min]
    show wpAny _ X.A.in1 (seqItems? (.ref S) >>= _) _ _ _
    refine wpAny_bind (wpAny_seqItems hS rfl ?_)
    show wpAny _ X.A.in1 (tryCatch (pyNext (.ref I)) _ >>= _) _ _ _
    refine wpAny_bind (wpAny_tryCatch (wpAny_pyNext_list_end (J.ok.hd hc) hit pl.isList (by simp; omega) fun h' eb => ?_))
    have J1 : Inv X pins σ H { s with heap := h' } := J.turned (t' := s.toks) (fun b o hb e => eb b o hb e) fI.1 fI.2.1 fI.2.2.2.1 fI.2.2.2.2.1 fI.2.2.2.2.2
    have hS1 : h'.get? S = some (seqObj "list" #[vb, .int (kf i) tb] c) := eb S _ hIS.symm hS
    show wpAny _ X.A.in1 (updateSeq S (fun _ => #[]) >>= _) _ _ _
    refine wpAny_bind (wpAny_updateSeq hS1 rfl (wpAny_bind (wpAny_letGo (wpAny_pure ?_))))
    have sb := Heap.SameBut.update h' S (Obj.mapSeq fun _ => (#[] : Array Value))
    refine ⟨y, H, J1.turned (t' := s.toks) (fun b o hb e => (sb.2 b hb).trans e) fS.1 fS.2.1 fS.2.2.2.1 fS.2.2.2.2.1 fS.2.2.2.2.2, ry, hQ i y hy ⟨by omega, fun j' hj' => hbest j' (by omega)⟩⟩
  | succ r ih =>
    intro j i s y vb tb c er hj J hit hS hy ry hij hbest
    have hlt : j + 1 < ys.length := by omega
    obtain ⟨its, rv, pl, hz⟩ := J.list hq
    obtain ⟨u, hu, ru⟩ := rv.get (show ys[j + 1]? = some ys[j + 1] from List.getElem?_eq_getElem hlt)
    refine codeAny_builtin PySem.F.entry_min_loop ?_
    rw [under_min]
    show wpAny _ X.A.in1 (seqItems? (.ref S) >>= _) _ _ _
    refine wpAny_bind (wpAny_seqItems hS rfl ?_)
    show wpAny _ X.A.in1 (tryCatch (pyNext (.ref I)) _ >>= _) _ _ _
    refine wpAny_bind (wpAny_tryCatch (wpAny_pyNext_list_item hit pl.isList (x := u) (by simpa using hu) fun h' hit' sb => ?_))
    have J1 : Inv X pins σ H { s with heap := h' } := J.turned (t' := s.toks) (fun b o hb e => (sb.2 b hb).trans e) fI.1 fI.2.1 fI.2.2.2.1 fI.2.2.2.2.1 fI.2.2.2.2.2
    have hS1 : h'.get? S = some (seqObj "list" #[vb, .int (kf i) tb] c) := (sb.2 S hIS.symm).trans hS
    show wpAny _ X.A.in1 (tryCatch (holding [u] (call (.ref f) [u])) _ >>= _) _ _ _
    refine wpAny_bind (wpAny_tryCatch (wpAny_holding (wpAny_mono (key_turn F hr hb J1 ru (hk (j + 1) _ (List.getElem?_eq_getElem hlt)) (E := fun _ _ => False)) (fun w2 s2 he => ?_) fun _ _ hF => hF.elim)))
    obtain ⟨⟨t2, rfl⟩, J2, kp⟩ := he
    obtain ⟨oI, hoI, hcI, hdI⟩ := hit'
    have hI2 : s2.heap.IsListIter I a (j + 1 + 1) := ⟨oI, kp I oI fI hoI, hcI, hdI⟩
    have hS2 := kp S _ fS hS1
    show wpAny _ X.A.in1 (tryCatch (holding [u, .int (kf (j + 1)) t2] (richCompare .Lt (.int (kf (j + 1)) t2) (.int (kf i) tb) >>= _)) _ >>= _) _ _ _
    refine wpAny_bind (wpAny_tryCatch (wpAny_holding (wpAny_bind (CmpOf.ints_lt (prog := X.prog) (w := X.w) (A := X.A.in1) (P := fun i v => ∃ t, v = .int (kf i) t) kf (fun i v h => h) (j + 1) i _ _ _ _ _ ⟨t2, rfl⟩ ⟨tb, rfl⟩ ?_))))
    refine wpAny_bind (wpAny_holding (wpAny_truthy_bool ?_))
    refine wpAny_bind (wpAny_letGo (wpAny_pure ?_))
    by_cases less : kf (j + 1) < kf i
    · simp only [less, decide_true, if_true]
      have s1 := Heap.SameBut.update s2.heap S (Obj.mapSeq fun _ => #[u, .int (kf (j + 1)) t2])
      obtain ⟨c2, hc2⟩ : ∃ c2, (s2.heap.update S (Obj.mapSeq fun _ => #[u, .int (kf (j + 1)) t2])).get? S = some (seqObj "list" #[u, .int (kf (j + 1)) t2] c2) := ⟨_, get?_update_seq hS2 fun _ => #[u, .int (kf (j + 1)) t2]⟩
      refine wpAny_bind ?_
      refine wpAny_updateSeq hS2 rfl (wpAny_bind (wpAny_letGo ?_))
      rw [hname]
      refine wpAny_pure ⟨plainId_quiet PySem.F.plain_min_loop _, ih (j + 1) (j + 1) _ _ u t2 c2 (by omega) hlt
        (J2.turned (t' := s2.toks) (fun b o hb e => (s1.2 b hb).trans e) fS.1 fS.2.1 fS.2.2.2.1 fS.2.2.2.2.1 fS.2.2.2.2.2) ?_ hc2 (List.getElem?_eq_getElem hlt) ru (Nat.le_refl _) fun j' hj' => ?_⟩
      · obtain ⟨o, h1, h2, h3⟩ := hI2
        exact ⟨o, (s1.2 I hIS).trans h1, h2, h3⟩
      · by_cases e : j' = j + 1
        · subst e
          exact ⟨Int.le_refl _, fun z => absurd z (Nat.lt_irrefl _)⟩
        · have b1 := (hbest j' (by omega)).1
          exact ⟨by omega, fun _ => by omega⟩
    · simp only [less, decide_false, Bool.false_eq_true, if_false]
      refine wpAny_bind (wpAny_letGo ?_)
      rw [hname]
      refine wpAny_pure ⟨plainId_quiet PySem.F.plain_min_loop _, ih (j + 1) i _ y vb tb c (by omega) hlt J2 hI2 hS2 hy ry (by omega) fun j' hj' => ?_⟩
      by_cases e : j' = j + 1
      · subst e
        exact ⟨by omega, fun z => absurd z (by omega)⟩
      · exact hbest j' (by omega)
/-- what is asked of min(xs, key = f) -/
def rMinKey (K : PySem.W.Frag) (f : Addr) (sp : Sp) : List V → List V → Hp → VK → Prop := fun xs zs H Q => ∃ (a : Addr) (ys : List V) (kf : Nat → Int),
  xs = [.ref a] ∧ zs = [.ref f] ∧ SqL K H a ys ∧ 0 < ys.length ∧ (∀ i y, ys[i]? = some y → sp [y] H (fun u H' => u = .int (kf i) ∧ H' = H) E0) ∧
  ∀ i y, ys[i]? = some y → LeastAt kf ys.length i → Q y H
theorem minkey_tree {pr : Program} {w : World} {A : Around} {E : Value → Shared → Prop} {s : Shared} {args : List Value} {kw : List (Str × Value)} {Q : Value → Shared → Prop}
    (ha : argsOk "min" ⟨args, kw⟩)
    (h : wpAny (model pr w) A.in1 (Builtin.«min» ⟨args, kw⟩) (fun fin s' => match fin with
      | .done g => (match (Except.ok g : Result) with | .ok (.ret v) => Q v s' | .ok _ => False | .error e => E e s')
      | .again c' => c'.quiet = true ∧ codeAny (model pr w) A c' (fun r s' => match r with | .ok (.ret v) => Q v s' | .ok _ => False | .error e => E e s') s') E s) :
    wpAny (model pr w) A (call (.builtin "min") args kw) Q E s :=
  kmk_tree PySem.F.kind_min PySem.F.plain_min PySem.F.entry_min ha h
theorem cr_minKey (hc : X.calm = true) (F : FnOk X.prog X.w X.K X.mg X.base CX0 k f fd [p] sp) (hr : Room (k + 1) X.A) (hb : Binds X.K fd [p] []) :
    CallRK X (.builtin "min") [Str.ofString "key"] (rMinKey X.K f sp) := by
  intro pins s σ H xs zs us ws Q J r1 r2 h
  obtain ⟨a, ys, kf, rfl, rfl, hq, hne, hk, hQ⟩ := h
  cases r1 with
  | cons ra rr =>
  cases rr
  cases r2 with
  | cons rf rr =>
  cases rr
  cases ra
  cases rf
  have hname : (toString "min" ++ toString ".loop" : String) = "min.loop" := by decide
  obtain ⟨its, rv, pl, hz⟩ := J.list hq
  refine minkey_tree (kmk_min_key _ _) ?_
  show wpAny _ X.A.in1 (Builtin.Builtins.bindParams "min" ["key", "default"] 0 ⟨[], [(Str.ofString "key", .ref f)]⟩ >>= _) _ _ s
  refine wpAny_bind (wpAny_of_eq (show Builtin.Builtins.bindParams "min" ["key", "default"] 0 ⟨[], [(Str.ofString "key", .ref f)]⟩ = pure [some (.ref f), none] from rfl) ?_)
  refine wpAny_bind (wpAny_pure ?_)
  refine wpAny_bind (wpAny_pyIter_list pl.isList ?_)
  refine wpAny_bind (wpAny_newList ?_ (Nat.zero_le _))
  rw [hname]
  refine wpAny_pure ⟨plainId_quiet PySem.F.plain_min_loop _, ?_⟩
  generalize eO : ({ cls := .type "list_iterator", data := .fields #[.ref a, .int 0 0] } : Obj) = oIt
  have hz1 : (s.heap.push oIt).objs.size = s.heap.objs.size + 1 := Heap.size_push ..
  have gI : ((s.heap.push oIt).push (seqObj "list" #[] 0)).get? s.heap.objs.size = some oIt := Heap.get?_push_of_some _ (Heap.get?_push_size _ (by rw [← eO]; rfl))
  have gS : ((s.heap.push oIt).push (seqObj "list" #[] 0)).get? (s.heap.push oIt).objs.size = some (seqObj "list" #[] 0) := Heap.get?_push_size _ rfl
  have kp : ∀ b o, s.heap.get? b = some o → ((s.heap.push oIt).push (seqObj "list" #[] 0)).get? b = some o := fun b o e => Heap.get?_push_of_some _ (Heap.get?_push_of_some _ e)
  have J0 : Inv X pins σ H { s with heap := (s.heap.push oIt).push (seqObj "list" #[] 0) } := J.kept (t' := s.toks) kp
  rw [hz1] at gS
  show codeAny _ _ (.builtin "min.loop" ⟨[.ref s.heap.objs.size, .ref f, .ref (s.heap.push oIt).objs.size], []⟩) _ _
  rw [hz1]
  have fI : FpOk X pins H s.heap.objs.size := J.fpOk (Nat.le_refl _) (J.hok.fresh (Nat.le_refl _))
  have fS : FpOk X pins H (s.heap.objs.size + 1) := J.fpOk (Nat.le_succ _) (J.hok.fresh (Nat.le_succ _))
  have hIS : s.heap.objs.size ≠ s.heap.objs.size + 1 := Nat.ne_of_lt (Nat.lt_succ_self _)
  have hit0 : ((s.heap.push oIt).push (seqObj "list" #[] 0)).IsListIter s.heap.objs.size a 0 := ⟨oIt, gI, by rw [← eO], by rw [← eO]; rfl⟩
  generalize ((s.heap.push oIt).push (seqObj "list" #[] 0)) = h0 at J0 gS hit0
  obtain ⟨its, rv, pl, hz⟩ := J0.list hq
  obtain ⟨u, hu, ru⟩ := rv.get (show ys[0]? = some ys[0] from List.getElem?_eq_getElem hne)
  refine codeAny_builtin PySem.F.entry_min_loop ?_
  rw [under_min]
  show wpAny _ X.A.in1 (seqItems? (.ref _) >>= _) _ _ _
  refine wpAny_bind (wpAny_seqItems gS rfl ?_)
  show wpAny _ X.A.in1 (tryCatch (pyNext (.ref s.heap.objs.size)) _ >>= _) _ _ _
  refine wpAny_bind (wpAny_tryCatch (wpAny_pyNext_list_item hit0 pl.isList (x := u) (by simpa using hu) fun h' hit' sb => ?_))
  have J1 : Inv X pins σ H { s with heap := h' } := J0.turned (t' := s.toks) (fun b o hb e => (sb.2 b hb).trans e) fI.1 fI.2.1 fI.2.2.2.1 fI.2.2.2.2.1 fI.2.2.2.2.2
  have hS1 : h'.get? (s.heap.objs.size + 1) = some (seqObj "list" #[] 0) := (sb.2 _ hIS.symm).trans gS
  show wpAny _ X.A.in1 (tryCatch (holding [u] (call (.ref f) [u])) _ >>= _) _ _ _
  refine wpAny_bind (wpAny_tryCatch (wpAny_holding (wpAny_mono (key_turn F hr hb J1 ru (hk 0 _ (List.getElem?_eq_getElem hne)) (E := fun _ _ => False)) (fun w2 s2 he => ?_) fun _ _ hF => hF.elim)))
  obtain ⟨⟨t2, rfl⟩, J2, kp2⟩ := he
  obtain ⟨oI, hoI, hcI, hdI⟩ := hit'
  have hI2 : s2.heap.IsListIter s.heap.objs.size a (0 + 1) := ⟨oI, kp2 _ oI fI hoI, hcI, hdI⟩
  have hS2 := kp2 _ _ fS hS1
  have s1 := Heap.SameBut.update s2.heap (s.heap.objs.size + 1) (Obj.mapSeq fun _ => #[u, .int (kf 0) t2])
  obtain ⟨c2, hc2⟩ : ∃ c2, (s2.heap.update (s.heap.objs.size + 1) (Obj.mapSeq fun _ => #[u, .int (kf 0) t2])).get? (s.heap.objs.size + 1) = some (seqObj "list" #[u, .int (kf 0) t2] c2) := ⟨_, get?_update_seq hS2 fun _ => #[u, .int (kf 0) t2]⟩
  show wpAny _ X.A.in1 (updateSeq (s.heap.objs.size + 1) (fun _ => #[u, .int (kf 0) t2]) >>= _) _ _ _
  refine wpAny_bind ?_
  refine wpAny_updateSeq hS2 rfl ?_
  rw [hname]
  refine wpAny_pure ⟨plainId_quiet PySem.F.plain_min_loop _, minkey_loop hc F hr hb hq hk hQ fI fS hIS _ 0 0 _ _ u t2 c2 rfl hne
    (J2.turned (t' := s2.toks) (fun b o hb e => (s1.2 b hb).trans e) fS.1 fS.2.1 fS.2.2.2.1 fS.2.2.2.2.1 fS.2.2.2.2.2) ?_ hc2 (List.getElem?_eq_getElem hne) ru (Nat.le_refl _) fun j' hj' => ?_⟩
  · obtain ⟨o, h1, h2, h3⟩ := hI2
    exact ⟨o, (s1.2 _ hIS).trans h1, h2, h3⟩
  · have e : j' = 0 := Nat.le_zero.mp hj'
    subst e
    exact ⟨Int.le_refl _, fun z => absurd z (Nat.lt_irrefl _)⟩
end
end Sea
/-! isinstance of the error that a suite holds, of an own class with fields, against a class or a written tuple of classes; powers of great numbers. -/
namespace Sea
open PySem PySem.Spec PyProof.Rows L2
/-- the class at D may be asked about -/
structure AskC (K : PySem.W.Frag) (D : Addr) : Prop where
  cl : (PySem.W.clsIn K D).isSome = true
  ga : PySem.W.findIn K (.ref D) "__getattribute__" = some (some (.builtin "BaseException.__getattribute__"))
  gg : PySem.W.findIn K (.ref D) "__getattr__" = some none
  sb : PySem.W.subIn K (.ref D) (.type "BaseException") = some true
  kl : PySem.W.findIn K (.ref D) "__class__" = some (some (.builtin "object.__class__"))
  gt : PySem.W.specialIn K (.builtin "object.__class__") "__get__" = some (some (.builtin "getset_descriptor.__get__"))
  tk : PySem.W.takesIn K (.builtin "object.__class__") = some true
  mr : PySem.W.mroIn K D (.type "object") = some true
/-- isinstance(e, c) and isinstance(e, (c1, ..)), e the error at a -/
def rAsk (K : PySem.W.Frag) (a : Addr) (cls : Value) (d : Option Addr) : List V → Hp → VK → Prop := fun xs H Q => ∃ (D dd : Addr) (fs : List (Str × V)) (c : V) (b : Bool),
  cls = .ref D ∧ d = some dd ∧ AskC K D ∧ H dd = some (.xd fs) ∧ xs = [.ref a, c] ∧
  ((∃ cv, ClsV c cv ∧ PySem.W.kitOne K (.ref D) cv = some b) ∨ ∃ (tp : Addr) (cs : List V) (us : List Value), c = .ref tp ∧ H tp = some (.tup cs) ∧ Paired ClsV cs us ∧ PySem.W.kitAny K (.ref D) us = some b) ∧ Q (.bl b) H
theorem call_ask {X : Cx} {a : Addr} {cls : Value} {d : Option Addr} {oe : Obj} {pn : List (Addr × Obj)} (hz : Zc cls d oe) (hf : ∃ vs, oe.data = .fields vs) :
    CallR (X.suite a ((a, oe) :: pn)) (.builtin "isinstance") (rAsk X.K a cls d) := by
  intro pins s σ H xs us Q I r h
  obtain ⟨D, dd, fs, c, b, rfl, rfl, C, hd, rfl, ways, q⟩ := h
  obtain ⟨u1, u2, rfl, r1, r2⟩ := vals2 r
  cases (show u1 = Value.ref a from r1)
  obtain ⟨hget, _⟩ := I.pin (a, oe) (List.mem_append.mpr (.inl List.mem_cons_self))
  obtain ⟨vs, hv⟩ := hf
  have hx : ObjOk X.prog X.w H s.heap dd (.xd fs) := I.hok dd _ hd
  obtain ⟨mA, hns, hr⟩ := hx
  obtain ⟨od, ho, hl⟩ := lookIn_ns hns
  have J : PySem.W.InstAt s.heap a oe D (some od) := ⟨hget, hz.1, by unfold PySem.W.notCls; rw [hv] <;> rfl, by rw [hz.2]; exact ho⟩
  have Z := PySem.W.kitx_exc (K := X.K) (x := a) (ox := oe) (od := some od) C.cl C.ga C.gg C.sb C.kl C.gt C.tk C.mr
  rcases ways with ⟨cv, k, e⟩ | ⟨tp, cs, ws, rfl, ht, k, e⟩
  · have e2 := k.eq r2
    subst e2
    exact PySem.W.kia_one Z I.kIn J e (fun z => nomatch z) fun tk => ⟨.bl b, H, I.tok tk, rfl, q⟩
  · cases (show u2 = Value.ref tp from r2)
    obtain ⟨_, its, rv, o, h1, h2, n, h3⟩ := (show ObjOk X.prog X.w H s.heap tp (.tup cs) from I.hok tp _ ht)
    have e3 := ClsV.all k rv
    subst e3
    obtain ⟨oc, odd, dt, sl⟩ := o
    simp only at h2 h3
    subst h2 h3
    exact PySem.W.kia_tup Z I.kIn J h1 e (fun z => nomatch z) fun tk => ⟨.bl b, H, I.tok tk, rfl, q⟩
/-- a ** b, by the bits of a -/
def CPowB (i j : Int) : Prop := 0 ≤ j ∧ (Builtin.Int.intBits i : Int) * j ≤ 2 ^ 27
theorem op_powB {X : Cx} : OpR X (binaryOp .Pow) (rI CPowB fun i j => .int (i ^ j.toNat)) := opI fun _ _ _ _ _ _ _ hc q => pow_int hc.1 hc.2 q
end Sea
/-! try with several clauses, each with a name for the error or without one. -/
namespace Sea
open PySem PySem.Spec PyProof.Rows L2
abbrev Su := Addr → Value → Option Addr → TS
/-- behind a suite the error's name is gone -/
def gone (i : Nat) (D : Ends) : Ends :=
  { nx := fun σ H => D.nx (σ.set i none) H, rt := D.rt, bk := fun σ H => D.bk (σ.set i none) H, ct := fun σ H => D.ct (σ.set i none) H }
/-- what the clauses, from the first on, wish of the error -/
def wCl (K : PySem.W.Frag) (Wo : WX) (D : Ends) : List (Value × Option Nat × Su) → WX
  | [] => Wo
  | (c, none, ts) :: r => fun cls d σ H => ∃ b, PySem.W.exmOne K cls c = some b ∧ (b = true → ∀ a, H a = none → ts a cls d D σ H) ∧ (b = false → wCl K Wo D r cls d σ H)
  | (c, some i, ts) :: r => fun cls d σ H => ∃ b, PySem.W.exmOne K cls c = some b ∧
      (b = true → ∀ a, H a = none → ts a cls d (gone i D) (σ.set i (some (.ref a))) H) ∧ (b = false → wCl K Wo D r cls d σ H)
def SuOk (X : Cx) (st : List Stmt) (ts : Su) : Prop := ∀ (a : Addr) (oe : Obj) (cls : Value) (d : Option Addr) (pn : List (Addr × Obj)),
  Zc cls d oe → (∃ vs, oe.data = .fields vs) → PSs (X.suite a ((a, oe) :: pn)) st (ts a cls d)
inductive Clauses (X : Cx) : List ExceptHandler → List (Value × Option Nat × Su) → Prop
  | nil : Clauses X [] []
  | bare {x : Str} {c : Value} {ts : Su} {b₀ : Stmt} {su : List Stmt} {np ps : Pos} {hds : List ExceptHandler} {l : List (Value × Option Nat × Su)}
      (hc : Names X x c) (hs : SuOk X (b₀ :: su) ts) (r : Clauses X hds l) : Clauses X (.ExceptHandler (some (.Name x np)) none (b₀ :: su) ps :: hds) ((c, none, ts) :: l)
  | named {x n : Str} {c : Value} {i : Nat} {ts : Su} {b₀ : Stmt} {su : List Stmt} {np ps : Pos} {hds : List ExceptHandler} {l : List (Value × Option Nat × Su)}
      (hc : Names X x c) (hi : X.N[i]? = some n) (hl : X.env.kindOf n = some .local) (hs : SuOk X (b₀ :: su) ts) (r : Clauses X hds l) :
      Clauses X (.ExceptHandler (some (.Name x np)) (some n) (b₀ :: su) ps :: hds) ((c, some i, ts) :: l)
section
variable {X : Cx} {body : List Stmt} {h₀ : ExceptHandler} {hds : List ExceptHandler} {l : List (Value × Option Nat × Su)} {pos : Pos} {tb : WX → TS} {Wo : WX}
theorem names_ld {a : Addr} {oe : Obj} {pn : List (Addr × Obj)} {x : Str} {c : Value} {np : Pos} {σ : L2.St} {H : Hp} {s : Shared} {Q E : Value → Shared → Prop}
    (hc : Names X x c) (S : Inv (X.suite a ((a, oe) :: pn)) [] σ H s) (q : Q c s) :
    wpAny (model X.prog X.w) (X.A.mark (some (.ref a))) (eval (.Name x np) X.env) Q E s := by
  obtain ⟨hg, hdbg, hm | ⟨hm, hv, hnn⟩⟩ := hc
  · exact ld_glob (X := X.suite a ((a, oe) :: pn)) S hg hm q hdbg
  · exact ld_blt (X := X.suite a ((a, oe) :: pn)) S hg hm hv q hnn hdbg
theorem ps_try_cl (hs : X.stack = X.env :: X.outer) (hf : X.env.frame = some X.env.locals) (hN : X.N.Nodup) (tk : Takes X Wo)
    (hb : ∀ (W : WX) (pn : List (Addr × Obj)) (xe : Value → Shared → Prop), Takes (X.tr pn xe) W → PassesOwn (model X.prog X.w) X.A X.env xe → PSs (X.tr pn xe) body (tb W))
    (hh : Clauses X (h₀ :: hds) l) : PS X (.Try body (h₀ :: hds) [] [] pos) (fun D σ H => tb (wCl X.K Wo D l) D σ H) := by
  refine ⟨fun pins s σ H D I h => ?_⟩
  have ok := I.ok
  have hfr : X.A.frames = some (X.env :: X.outer) := ok.frames.trans (congrArg some hs)
  refine wpAny_Try_except ?_
  refine wpAny_mono ((hb (wCl X.K Wo D l) (X.pn ++ pins) (fun e s1 => wpAny (model X.prog X.w) X.A (noteFrame e X.env)
    (fun _ s2 => wpAny (model X.prog X.w) X.A (setFlight e none)
      (fun _ s3 => wpAny (model X.prog X.w) X.A (handleBy e X.env (h₀ :: hds)) (SP X pins D) X.xe s3) X.xe s2) X.xe s1)
    (fun u s' xx => ?cat) PassesOwn.looking).run [] s σ H D (I.toTry _) h) (fun f s1 hsp => ?thru) (fun e s1 he => he)
  case thru =>
    cases f with
    | next => obtain ⟨σ', H', J', q⟩ := hsp; exact wpAny_execs_nil ⟨σ', H', J'.ofTry ok, q⟩
    | brk => obtain ⟨σ', H', J', q⟩ := hsp; exact ⟨σ', H', J'.ofTry ok, q⟩
    | cont => obtain ⟨σ', H', J', q⟩ := hsp; exact ⟨σ', H', J'.ofTry ok, q⟩
    | ret u => obtain ⟨v, σ', H', J', r, q⟩ := hsp; exact ⟨v, σ', H', J'.ofTry ok, r, q⟩
  case cat =>
    obtain ⟨a, B, sI, pins', σ', H', cls, d, rfl, J', nb, up, sky, na, os, ag, w⟩ := xx
    have J : Inv X pins σ' H' sI := J'.ofTry ok
    have sk : Sky B (X.env :: X.outer) a (Zc cls d) X.env.locals s'.heap := hs ▸ sky
    show wpAny (model X.prog X.w) X.A (noteFrame (.ref a) X.env) _ _ _
    refine Sky.land Zc.steady hfr hf sk fun h3 fl3 up3 => ?_
    have J3 : Inv X pins σ' H' { s' with heap := h3 } := J.landed nb fl3.1 (up.trans up3) os ag
    obtain ⟨oe3, vs3, he3, hz3, hd3⟩ := fl3.there
    have nfr : a ∉ frs (X.env :: X.outer) := fun hm => by
      obtain ⟨_, o', e', hnf⟩ := fl3.2.2.1.mem hm
      rw [he3] at e'
      cases e'
      exact hnf _ hd3
    have nL : a ≠ X.env.locals := fun z => nfr (List.mem_filterMap.mpr ⟨X.env, List.mem_cons_self, hf.trans (congrArg some z.symm)⟩)
    have nF : a ∉ X.fs := fun hm => by
      obtain ⟨e, he, q⟩ := List.mem_filterMap.mp hm
      exact nfr (List.mem_filterMap.mpr ⟨e, List.mem_cons_of_mem _ he, q⟩)
    have S3 := J3.suite he3 hd3 na nL nF
    have LT : PySem.W.Looks (model X.prog X.w) h3 (typeOf (.ref a)) cls :=
      fun A Q E s k q => wpAny_typeOf_ref (k _ _ he3) (by rw [hz3.1]; exact q)
    have go : ∀ {hs' : List ExceptHandler} {l' : List (Value × Option Nat × Su)}, Clauses X hs' l' → wCl X.K Wo D l' cls d σ' H' →
        wpAny (model X.prog X.w) X.A (handleBy (.ref a) X.env hs') (SP X pins D) X.xe { s' with heap := h3 } := by
      intro hs' l' hk
      induction hk with
      | nil =>
        intro w
        refine wpAny_handleBy_nil ?_
        obtain ⟨_, _, _, oe, vs, T, oT, ts', he, hz, hd, h1, hr⟩ := id fl3
        unfold PySem.passOn
        refine wpAny_bind (wpAny_field he hd h1 ?_)
        rw [if_neg (show ¬ ((Value.ref T == Value.none) = true) from by simp)]
        have out : wpAny (model X.prog X.w) X.A (setFlight (.ref a) X.env.frame)
            (fun _ s4 => wpAny (model X.prog X.w) X.A (throw (.ref a) : Sem Flow) (SP X pins D) X.xe s4) X.xe { s' with heap := h3 } := by
          rw [hf]
          refine HandSPX.setFlight_upZ fl3 fun h4 hh4 up4 => wpAny_throw (tk _ _ ?_)
          refine ⟨a, B, sI, pins, σ', H', cls, d, rfl, J, nb, (up.trans up3).trans up4, .inr (.inr ?_), na, os, ag, w⟩
          rw [hs]
          exact hh4
        first
          | exact wpAny_bind (wpAny_pure (wpAny_bind out))
          | exact wpAny_bind out
      | @bare x c ts b₀ su np ps hds2 l2 hc hsu r ih =>
        intro w
        obtain ⟨b, hb1, hyes, hno⟩ := w
        refine wpAny_handleBy_cons (codeAny_handlers_test ?_) (by intro q; cases q)
        have LM := PySem.W.exm_one (M := model X.prog X.w) J3.kIn LT hb1
        refine names_ld hc S3 (LM.here ?_)
        cases b with
        | false => exact ih (hno rfl)
        | true =>
          refine codeAny_handlers_suite ?_
          refine HandSPX.lands_againZ fl3 fun h4 fl4 up4 => ?_
          have J4 : Inv X pins σ' H' { s' with heap := h4 } := J.landed nb fl4.1 ((up.trans up3).trans up4) os ag
          obtain ⟨oe4, vs4, he4, hz4, hd4⟩ := fl4.there
          have S4 := J4.suite he4 hd4 na nL nF
          refine wpAny_mono ((hsu a oe4 cls d (X.pn ++ pins) hz4 ⟨_, hd4⟩).run [] _ _ H' _ S4 (hyes rfl a na)) (fun f s6 hsp => ?_) (fun _ _ z => False.elim z)
          cases f with
          | next => obtain ⟨σ6, H6, S6, q6⟩ := hsp; exact ⟨_, _, S6.unsuite ok, q6⟩
          | brk => obtain ⟨σ6, H6, S6, q6⟩ := hsp; exact ⟨_, _, S6.unsuite ok, q6⟩
          | cont => obtain ⟨σ6, H6, S6, q6⟩ := hsp; exact ⟨_, _, S6.unsuite ok, q6⟩
          | ret u => obtain ⟨v6, σ6, H6, S6, r6, q6⟩ := hsp; exact ⟨_, _, _, S6.unsuite ok, r6, q6⟩
      | @named x n c i ts b₀ su np ps hds2 l2 hc hi hln hsu r ih =>
        intro w
        obtain ⟨b, hb1, hyes, hno⟩ := w
        refine wpAny_handleBy_cons (codeAny_handlers_test ?_) (by intro q; cases q)
        have LM := PySem.W.exm_one (M := model X.prog X.w) J3.kIn LT hb1
        refine names_ld hc S3 (LM.here ?_)
        cases b with
        | false => exact ih (hno rfl)
        | true =>
          refine codeAny_handlers_suite_as ?_
          refine HandSPX.lands_againZ fl3 fun h4 fl4 up4 => ?_
          have J4 : Inv X pins σ' H' { s' with heap := h4 } := J.landed nb fl4.1 ((up.trans up3).trans up4) os ag
          obtain ⟨oe4, vs4, he4, hz4, hd4⟩ := fl4.there
          have S4 := J4.suite he4 hd4 na nL nF
          refine store_ok (X := X.suite a ((a, oe4) :: (X.pn ++ pins))) (v := .ref a) S4 hN hi (.inl hln) rfl (fun s5 S5 => ?_) (.inr hln)
          refine wpAny_mono ((hsu a oe4 cls d (X.pn ++ pins) hz4 ⟨_, hd4⟩).run [] s5 _ H' _ S5 (hyes rfl a na)) (fun f s6 hsp => ?_) (fun _ _ z => False.elim z)
          have fin : ∀ {σ6 : L2.St} {H6 : Hp} {Q : Shared → Prop}, Inv (X.suite a ((a, oe4) :: (X.pn ++ pins))) [] σ6 H6 s6 → (∀ s7, Inv X pins (σ6.set i none) H6 s7 → Q s7) →
              wpAny (model X.prog X.w) X.A (do bindName X.env n .none; unbindBehindTheSuite X.env n ps) (fun _ s7 => Q s7) X.xe s6 :=
            fun {σ6 H6 Q} S6 hq => gone_ok (S6.unsuite ok) hN hi hln hq
          cases f with
          | next => obtain ⟨σ6, H6, S6, q6⟩ := hsp; exact fin S6 fun s7 J7 => ⟨_, _, J7, q6⟩
          | brk => obtain ⟨σ6, H6, S6, q6⟩ := hsp; exact fin S6 fun s7 J7 => ⟨_, _, J7, q6⟩
          | cont => obtain ⟨σ6, H6, S6, q6⟩ := hsp; exact fin S6 fun s7 J7 => ⟨_, _, J7, q6⟩
          | ret u => obtain ⟨v6, σ6, H6, S6, r6, q6⟩ := hsp; exact fin S6 fun s7 J7 => ⟨_, _, _, J7, r6, q6⟩
    exact go hh w
end
end Sea
/-! defs by their names; an own error of one field: made, raised, read. -/
namespace Sea
open PySem PySem.Spec PyProof.Rows L2
/-- the def that the module calls x keeps sp, and raises nothing -/
def Cal (P : Program) (w : World) (K : PySem.W.Frag) (mg : Str → Option Value) (base : Heap) (k : Nat) (x : Str) (sp : Sp) : Prop :=
  ∃ (f : Addr) (fd : FuncData) (ps : List Str), FnOk P w K mg base CX0 k f fd ps sp ∧ mg x = some (.ref f) ∧ PySem.W.keepIn K (.ref f) = true ∧ Binds K fd ps []
/-- .. and it may raise -/
def CalX (P : Program) (w : World) (K : PySem.W.Frag) (mg : Str → Option Value) (base : Heap) (k : Nat) (x : Str) (sp : Sp) : Prop :=
  ∃ (f : Addr) (fd : FuncData) (ps : List Str), FnOk P w K mg base (L2.CX P w) k f fd ps sp ∧ mg x = some (.ref f) ∧ PySem.W.keepIn K (.ref f) = true ∧ Binds K fd ps []
section
variable {X : Cx} {x : Str} {sp : Sp} {k j : Nat} {e : Expr} {es : List Expr} {t : TA} {p pos : Pos}
theorem pe_c (c : Cal X.prog X.w X.K X.mg X.base k x sp) (hr : Room j X.A) (hk : k ≤ j) (hg : Gl X x) (ha : PA X (e :: es) t)
    (hdb : (x == ("__debug__" : Str)) = false := by decide) (he : starEach (e :: es) X.env = (false, eval e X.env) :: starEach es X.env := by rfl)
    (hpl : (backTo pos (starEach es X.env)).any (·.1) = false := by rfl) : PE X (.Call (.Name x p) (e :: es) [] pos) (tCall sp [] E0 t) := by
  obtain ⟨f, fd, ps, F, hm, kp, b⟩ := c
  exact pe_call F (hr.mono hk) hg hm kp b .nil pass0 ha hdb he hpl
theorem pe_cX (c : CalX X.prog X.w X.K X.mg X.base k x sp) (hr : Room j X.A) (hk : k ≤ j) (hg : Gl X x) {E : L2.St → XK} (hx : ∀ σ, PassesAt (L2.CX X.prog X.w) X σ (E σ)) (ha : PA X (e :: es) t)
    (hdb : (x == ("__debug__" : Str)) = false := by decide) (he : starEach (e :: es) X.env = (false, eval e X.env) :: starEach es X.env := by rfl)
    (hpl : (backTo pos (starEach es X.env)).any (·.1) = false := by rfl) : PE X (.Call (.Name x p) (e :: es) [] pos) (tCallSD sp [] E t) := by
  obtain ⟨f, fd, ps, F, hm, kp, b⟩ := c
  exact pe_callSD F (hr.mono hk) hg hm kp b .nil hx ha hdb he hpl
end
/-- what the written part says of the error class nm at C, of one field fld, with its __init__ at fI -/
structure XC (K : PySem.W.Frag) (mg : Str → Option Value) (nm fld : Str) (C fI : Addr) : Prop where
  gC : mg nm = some (.ref C)
  ox : OexC K C
  iC : PySem.W.findIn K (.ref C) "__init__" = some (some (.ref fI))
  tI : PySem.W.typeIn K (.ref fI) = some (.type "function")
  no : PySem.W.findIn K (.ref C) fld = some none
  ask : AskC K C
  hd : PySem.W.hasDictIn K C = true
theorem XC.xf {K : PySem.W.Frag} {mg : Str → Option Value} {nm fld : Str} {C fI : Addr} (x : XC K mg nm fld C fI) : XfC K C := ⟨x.ask.ga, x.ask.gg, x.ask.sb, x.hd⟩
/-- its __init__ -/
def spIni (K : PySem.W.Frag) (C : Addr) (fld : Str) : Sp := fun vs H Q _ => ∃ (a : Addr) (v : V), vs = [.ref a, v] ∧ OexC K C ∧ PySem.W.findIn K (.ref C) fld = some none ∧ H a = some (exo a C none) ∧
  ∀ dx, H dx = none → dx ≠ a → Q .non (upd (upd H dx (exd dx [(fld, v)])) a (exo a C (some dx)))
theorem made_heap {H : Hp} {a d C : Addr} {o1 o2 o3 o4 : HO} (ha : H a = none) (hd : H d = none) (hne : d ≠ a) :
    upd (del (upd (upd (upd H a o1) d o2) a o3) a) d o4 = upd H d o4 := by
  funext b
  by_cases h1 : b = d
  · subst h1
    rw [upd_same, upd_same]
  · rw [upd_ne h1, upd_ne h1]
    by_cases h2 : b = a
    · subst h2
      rw [del_same, ha]
    · rw [del_ne h2, upd_ne h2, upd_ne h1, upd_ne h2]
/-- C(e) with such an __init__, its argument v told: an error with the field, all else as it was -/
theorem mk_fin {K : PySem.W.Frag} {C : Addr} {fld : Str} {v : V} {H1 : Hp} {Q : XK} (ox : OexC K C) (no : PySem.W.findIn K (.ref C) fld = some none)
    (q : ∀ d, H1 d = none → Q (.ref C) (some d) (upd H1 d (.xd [(fld, v)]))) :
    ([v] : List V).length ≤ 1000 ∧ ∀ a, H1 a = none → spIni K C fld (.ref a :: ([v] ++ [])) (upd H1 a (exo a C none))
      (fun u H2 => u = .non ∧ ∃ (d : Addr) (fs : List (Str × V)), H2 a = some (exo a C (some d)) ∧ H2 d = some (exd d fs) ∧ H1 d = none ∧ Q (.ref C) (some d) (upd (del H2 a) d (.xd fs))) (fun _ _ _ => False) := by
  refine ⟨by simp, fun a ha => ⟨a, v, rfl, ox, no, upd_same, fun dx hdx hne => ?_⟩⟩
  have hd : H1 dx = none := by
    rw [upd_ne hne] at hdx
    exact hdx
  refine ⟨rfl, dx, [(fld, v)], upd_same, ?_, hd, ?_⟩
  · rw [upd_ne hne, upd_same]
  · rw [made_heap (C := C) ha hd hne]
    exact q dx hd
/-! heaps that only grow -/
theorem same_new {H : Hp} {p : Addr} {o : HO} (h : H p = none) : Same H (upd H p o) := fun b x e => by
  rw [upd_ne (ne_of_none e h)]
  exact e
theorem same_over {H H' : Hp} {D : Addr} {o : HO} (s : Same H H') (h : H D = none) : Same H (upd H' D o) := fun b x e => by
  rw [upd_ne (ne_of_none e h)]
  exact s b x e
theorem sub_take {α : Type} {l : List α} {i : Nat} {x : α} (h : l[i]? = some x) : l.take (i + 1) = l.take i ++ [x] := by
  rw [List.take_add_one, h]
  rfl
theorem small_line {n : Nat} (h : n ≤ 100000) : n < sizeLine := by
  rw [sizeLine_eq]
  omega
end Sea
/-! a text repeated -/
namespace Sea
open PySem PySem.Spec PyProof.Rows L2
def repS (z : Str) (k : Nat) : Str := ⟨(List.replicate k z.cps).foldl (· ++ ·) #[]⟩
theorem repS_fold (a : Array Nat) : ∀ (k : Nat) (acc : Array Nat), ((List.replicate k a).foldl (· ++ ·) acc).size = acc.size + k * a.size
  | 0, acc => by simp
  | k + 1, acc => by
    rw [List.replicate_succ, List.foldl_cons, repS_fold a k, Array.size_append, Nat.succ_mul]
    omega
theorem repS_len (z : Str) (k : Nat) : (repS z k).length = k * z.length := by
  show ((List.replicate k z.cps).foldl (· ++ ·) #[]).size = k * z.cps.size
  rw [repS_fold]
  simp
def rMulS : R2 := fun x y H Q => ∃ (z : Str) (n : Int), x = .str z ∧ y = .int n ∧ (2 ≤ n ∧ n ≤ 1000) ∧ (1 ≤ z.length ∧ z.length ≤ 1000) ∧ Q (.str (repS z n.toNat)) H
theorem op_mulS {X : Cx} : OpR X (binaryOp .Mult) rMulS := by
  intro pins s σ H x y v u Q I rx ry h
  obtain ⟨z, n, rfl, rfl, ⟨n1, n2⟩, ⟨z1, z2⟩, q⟩ := h
  obtain ⟨t, rfl⟩ := rx
  obtain ⟨t', rfl⟩ := ry
  have hlen : z.length * n.toNat ≤ 1000000 := by
    have h1 : n.toNat ≤ 1000 := by omega
    have := Nat.mul_le_mul z2 h1
    omega
  have hl : sizeLine = 16777216 := sizeLine_eq
  refine PySem.P.mul_str ?_ (fun _ _ => ?_) (fun _ _ => ?_) ?_
  · rw [decide_eq_false (show ¬ n < -(2 ^ 63 : Int) by omega), decide_eq_false (show ¬ n ≥ 2 ^ 63 by omega)]
    rfl
  · have : (1000 : Int) ≤ (2 ^ 63 - 1) / n := (Int.le_ediv_iff_mul_le (by omega)).mpr (by omega)
    omega
  · unfold Builtin.Str.tooLong
    exact decide_eq_false (by omega)
  · rw [if_neg (show ¬ n < 1 by omega)]
    have e : (n == 1 || z.length == 0) = false := by
      have e1 : (n == 1) = false := beq_eq_false_iff_ne.mpr (by omega)
      have e2 : (z.length == 0) = false := beq_eq_false_iff_ne.mpr (by omega)
      rw [e1, e2]
      rfl
    rw [if_neg (by rw [e]; exact Bool.false_ne_true)]
    refine ⟨?_, .str (repS z n.toNat), H, I.tok _, ⟨_, rfl⟩, q⟩
    show (repS z n.toNat).length ≤ sizeLine
    rw [repS_len, Nat.mul_comm]
    omega
end Sea
namespace Sea
open PySem PySem.Spec PyProof.Rows L2
def top (i : Nat) : Stmt := PySem.Challenge.pw_seamfast_k04_two_lines.main.body.getD i (.Pass ⟨0, 0, 0, 0⟩)
abbrev s_is_integer : Stmt := top 6
abbrev N_is_integer : List Str := ["thing"]
theorem sc_is_integer : FnScope N_is_integer ["thing"] (defScope s_is_integer) := ⟨rfl, rfl, rfl, by decide +kernel, rfl, by decide +kernel, by decide +kernel⟩
abbrev s_is_within : Stmt := top 7
abbrev N_is_within : List Str := ["thing", "low", "high"]
theorem sc_is_within : FnScope N_is_within ["thing", "low", "high"] (defScope s_is_within) := ⟨rfl, rfl, rfl, by decide +kernel, rfl, by decide +kernel, by decide +kernel⟩
abbrev s_has_percent : Stmt := top 10
abbrev N_has_percent : List Str := ["word", "sign"]
theorem sc_has_percent : FnScope N_has_percent ["word"] (defScope s_has_percent) := ⟨rfl, rfl, rfl, by decide +kernel, rfl, by decide +kernel, by decide +kernel⟩
abbrev s_is_text : Stmt := top 11
abbrev N_is_text : List Str := ["thing", "sign"]
theorem sc_is_text : FnScope N_is_text ["thing"] (defScope s_is_text) := ⟨rfl, rfl, rfl, by decide +kernel, rfl, by decide +kernel, by decide +kernel⟩
abbrev s_breaks_of : Stmt := top 14
abbrev N_breaks_of : List Str := ["text", "at", "sign"]
theorem sc_breaks_of : FnScope N_breaks_of ["text"] (defScope s_breaks_of) := ⟨rfl, rfl, rfl, by decide +kernel, rfl, by decide +kernel, by decide +kernel⟩
abbrev s_wider : Stmt := top 15
abbrev N_wider : List Str := ["lines"]
theorem sc_wider : FnScope N_wider ["lines"] (defScope s_wider) := ⟨rfl, rfl, rfl, by decide +kernel, rfl, by decide +kernel, by decide +kernel⟩
abbrev s_difference : Stmt := top 16
abbrev N_difference : List Str := ["lines"]
theorem sc_difference : FnScope N_difference ["lines"] (defScope s_difference) := ⟨rfl, rfl, rfl, by decide +kernel, rfl, by decide +kernel, by decide +kernel⟩
abbrev s_two_lines : Stmt := top 17
abbrev N_two_lines : List Str := ["text", "width", "breaks", "fitting", "lines"]
theorem sc_two_lines : FnScope N_two_lines ["text", "width"] (defScope s_two_lines) := ⟨rfl, rfl, rfl, by decide +kernel, rfl, by decide +kernel, by decide +kernel⟩
abbrev s__law_tape : Stmt := top 19
abbrev N__law_tape : List Str := ["_law_script", "_law_cells", "_law_cell"]
theorem sc__law_tape : FnScope N__law_tape ["_law_script"] (defScope s__law_tape) := ⟨rfl, rfl, rfl, by decide +kernel, rfl, by decide +kernel, by decide +kernel⟩
abbrev s__law_pick : Stmt := top 20
abbrev N__law_pick : List Str := ["_law_tape_here", "_law_many", "_law_digit", "_law_mixed"]
theorem sc__law_pick : FnScope N__law_pick ["_law_tape_here", "_law_many"] (defScope s__law_pick) := ⟨rfl, rfl, rfl, by decide +kernel, rfl, by decide +kernel, by decide +kernel⟩
abbrev s__law_some : Stmt := top 21
abbrev N__law_some : List Str := ["_law_tape_here", "_law_low", "_law_high"]
theorem sc__law_some : FnScope N__law_some ["_law_tape_here", "_law_low", "_law_high"] (defScope s__law_some) := ⟨rfl, rfl, rfl, by decide +kernel, rfl, by decide +kernel, by decide +kernel⟩
abbrev s__law_text : Stmt := top 22
abbrev N__law_text : List Str := ["_law_tape_here", "_law_most", "_law_signs", "_law_words", "_law_k", "_law_at"]
theorem sc__law_text : FnScope N__law_text ["_law_tape_here", "_law_most"] (defScope s__law_text) := ⟨rfl, rfl, rfl, by decide +kernel, rfl, by decide +kernel, by decide +kernel⟩
abbrev s__law_same : Stmt := top 23
abbrev N__law_same : List Str := ["_law_told_here", "_law_due_here", "_law_k"]
theorem sc__law_same : FnScope N__law_same ["_law_told_here", "_law_due_here"] (defScope s__law_same) := ⟨rfl, rfl, rfl, by decide +kernel, rfl, by decide +kernel, by decide +kernel⟩
abbrev s__law_wide_text : Stmt := top 24
abbrev N__law_wide_text : List Str := ["_law_tape_here", "_law_signs", "_law_kind", "_law_text_here", "_law_k", "_law_many", "_law_word", "_law_at"]
theorem sc__law_wide_text : FnScope N__law_wide_text ["_law_tape_here"] (defScope s__law_wide_text) := ⟨rfl, rfl, rfl, by decide +kernel, rfl, by decide +kernel, by decide +kernel⟩
abbrev s__law_least : Stmt := top 25
abbrev N__law_least : List Str := ["_law_text_here", "_law_wide", "_law_k"]
theorem sc__law_least : FnScope N__law_least ["_law_text_here"] (defScope s__law_least) := ⟨rfl, rfl, rfl, by decide +kernel, rfl, by decide +kernel, by decide +kernel⟩
abbrev s__law_width : Stmt := top 26
abbrev N__law_width : List Str := ["_law_tape_here", "_law_text_here", "_law_wide", "_law_edge", "_law_any_width", "_law_near"]
theorem sc__law_width : FnScope N__law_width ["_law_tape_here", "_law_text_here"] (defScope s__law_width) := ⟨rfl, rfl, rfl, by decide +kernel, rfl, by decide +kernel, by decide +kernel⟩
abbrev s__law_due : Stmt := top 27
abbrev N__law_due : List Str := ["_law_text_here", "_law_width_here", "_law_best", "_law_k", "_law_behind"]
theorem sc__law_due : FnScope N__law_due ["_law_text_here", "_law_width_here"] (defScope s__law_due) := ⟨rfl, rfl, rfl, by decide +kernel, rfl, by decide +kernel, by decide +kernel⟩
abbrev s__law_told : Stmt := top 28
abbrev N__law_told : List Str := ["_law_text_here", "_law_width_here", "_law_lines", "raised"]
theorem sc__law_told : FnScope N__law_told ["_law_text_here", "_law_width_here"] (defScope s__law_told) := ⟨rfl, rfl, rfl, by decide +kernel, rfl, by decide +kernel, by decide +kernel⟩
abbrev s__law_base : Stmt := top 29
abbrev N__law_base : List Str := ["_law_text_here", "_law_width_here", "raised"]
theorem sc__law_base : FnScope N__law_base ["_law_text_here", "_law_width_here"] (defScope s__law_base) := ⟨rfl, rfl, rfl, by decide +kernel, rfl, by decide +kernel, by decide +kernel⟩
abbrev s__law_no_text : Stmt := top 30
abbrev N__law_no_text : List Str := ["_law_tape_here", "_law_text_here", "_law_at", "_law_menu"]
theorem sc__law_no_text : FnScope N__law_no_text ["_law_tape_here", "_law_text_here"] (defScope s__law_no_text) := ⟨rfl, rfl, rfl, by decide +kernel, rfl, by decide +kernel, by decide +kernel⟩
abbrev s_law : Stmt := top 31
abbrev N_law : List Str := ["_law_script", "_law_tape_here", "_law_text_here", "_law_width_here", "_law_other", "_law_other_width", "_law_due_here", "_law_wide", "_law_bad", "_law_bad_width"]
theorem sc_law : FnScope N_law ["_law_script"] (defScope s_law) := ⟨rfl, rfl, rfl, by decide +kernel, rfl, by decide +kernel, by decide +kernel⟩
end Sea
namespace Sea
open PySem PySem.Spec PyProof.Rows L2
/-! the small defs of the program -/
/-- None, an int, a truth value or a text -/
def Plain : V → Prop
  | .non => True
  | .bl _ => True
  | .int _ => True
  | .str _ => True
  | _ => False
def isInt : V → Bool
  | .int _ => true
  | _ => false
def inside (x : V) (lo hi : Int) : Bool :=
  match x with
  | .int i => decide (lo ≤ i) && decide (i ≤ hi)
  | _ => false
def spIsInt : Sp := fun vs H Q _ => ∃ x, vs = [x] ∧ Plain x ∧ Q (.bl (isInt x)) H
def spWithin : Sp := fun vs H Q _ => ∃ x lo hi, vs = [x, .int lo, .int hi] ∧ Plain x ∧ Q (.bl (inside x lo hi)) H
section
variable {P : Program} {w : World} {K : PySem.W.Frag} {mg : Str → Option Value} {base : Heap}
theorem ok_is_integer {f : Addr} {fd : FuncData} (F : Fun K "is_integer" "is_integer" s_is_integer f fd)
    (m_isinstance : mg "isinstance" = none) (m_int : mg "int" = none) (m_bool : mg "bool" = none) :
    FnOk P w K mg base CX0 1 f fd ["thing"] spIsInt := by
  refine F.ok sc_is_integer (fun vs H Q E h => ?_) (fun cdv A outer s H vs Q E hr h => ?_)
  · obtain ⟨x, rfl, _⟩ := h
    rfl
  · obtain ⟨x, rfl, hp, q⟩ := h
    refine ⟨_, (pss_one (ps_ret (pe_and (pe_callB call_isi (by rfl) m_isinstance (by decide +kernel) (pa_cons (pv 0) (pa_cons (pe_bltn (v := .ty "int") (by rfl) m_int (by decide +kernel) rfl) pa_nil))) (pe_one (pe_not (pe_callB call_isi (by rfl) m_isinstance (by decide +kernel) (pa_cons (pv 0) (pa_cons (pe_bltn (v := .ty "bool") (by rfl) m_bool (by decide +kernel) rfl) pa_nil)))))))), ?_⟩
    cases x with
    | int i => exact ⟨_, rfl, _, _, _, _, true, rfl, .ty _, .base (.int i), kit_ty (by decide +kernel), true, rfl, iteT ⟨_, rfl, _, _, _, _, false, rfl, .ty _, .base (.int i), kit_ty (by decide +kernel), false, rfl, q⟩⟩
    | bl b => exact ⟨_, rfl, _, _, _, _, true, rfl, .ty _, .base (.bl b), kit_ty (by decide +kernel), true, rfl, iteT ⟨_, rfl, _, _, _, _, true, rfl, .ty _, .base (.bl b), kit_ty (by decide +kernel), true, rfl, q⟩⟩
    | non => exact ⟨_, rfl, _, _, _, _, false, rfl, .ty _, .base .non, kit_ty (by decide +kernel), false, rfl, iteF q⟩
    | str z => exact ⟨_, rfl, _, _, _, _, false, rfl, .ty _, .base (.str z), kit_ty (by decide +kernel), false, rfl, iteF q⟩
    | ref a => exact hp.elim
    | byt z => exact hp.elim
    | flt z => exact hp.elim
    | ty z => exact hp.elim
theorem ok_is_within {f : Addr} {fd : FuncData} (F : Fun K "is_within" "is_within" s_is_within f fd)
    (c_is_integer : Cal P w K mg base 1 "is_integer" spIsInt) : FnOk P w K mg base CX0 2 f fd ["thing", "low", "high"] spWithin := by
  refine F.ok sc_is_within (fun vs H Q E h => ?_) (fun cdv A outer s H vs Q E hr h => ?_)
  · obtain ⟨x, lo, hi, rfl, _⟩ := h
    rfl
  · obtain ⟨x, lo, hi, rfl, hp, q⟩ := h
    refine ⟨_, (pss_one (ps_ret (pe_and (pe_c c_is_integer hr (by decide) rfl (pa_cons (pv 0) pa_nil)) (pe_one (pe_chain op_le op_le (pv 1) (pv 0) (pv 2)))))), ?_⟩
    refine ⟨_, rfl, x, rfl, hp, ?_⟩
    cases x with
    | int i =>
      refine ⟨true, rfl, iteT ⟨_, rfl, _, rfl, _, _, rfl, rfl, _, rfl, ?_⟩⟩
      refine ite2 (fun e => ?_) (fun e => ?_)
      · refine ⟨_, rfl, _, _, rfl, rfl, ?_⟩
        have q' : Q (.bl (decide (lo ≤ i) && decide (i ≤ hi))) H := q
        rw [e, Bool.true_and] at q'
        exact q'
      · have q' : Q (.bl (decide (lo ≤ i) && decide (i ≤ hi))) H := q
        rw [Bool.eq_false_iff.mpr e, Bool.false_and] at q'
        exact q'
    | bl b => exact ⟨false, rfl, iteF q⟩
    | non => exact ⟨false, rfl, iteF q⟩
    | str z => exact ⟨false, rfl, iteF q⟩
    | ref a => exact hp.elim
    | byt z => exact hp.elim
    | flt z => exact hp.elim
    | ty z => exact hp.elim
end
end Sea
namespace Sea
open PySem PySem.Spec PyProof.Rows L2
/-! texts as lists of codes -/
abbrev cp (z : Str) : List Nat := z.cps.toList
theorem cp_len (z : Str) : (cp z).length = z.length := Array.length_toList
theorem cp_mk (l : List Nat) : cp ⟨l.toArray⟩ = l := rfl
theorem cp_inj {a b : Str} (h : cp a = cp b) : a = b := by
  obtain ⟨⟨a⟩⟩ := a
  obtain ⟨⟨b⟩⟩ := b
  have e : a = b := h
  rw [e]
/-- two blanks together -/
def twin : List Nat → Bool
  | a :: b :: r => (a == 32 && b == 32) || twin (b :: r)
  | _ => false
/-- the codes of a text -/
structure Good (l : List Nat) : Prop where
  some : 1 ≤ l.length
  most : l.length ≤ 60
  sign : ∀ c ∈ l, 32 ≤ c ∧ c ≤ 126 ∧ c ≠ 37
  head : l[0]? ≠ Option.some 32
  last : l[l.length - 1]? ≠ Option.some 32
  twin : twin l = false
theorem lt_one (a b : Nat) : decide (([a] : List Nat) < [b]) = decide (a < b) := by
  by_cases h : a < b
  · rw [decide_eq_true h]
    exact decide_eq_true (List.Lex.rel h)
  · rw [decide_eq_false h]
    refine decide_eq_false fun q => ?_
    cases q with
    | rel q => exact h q
    | cons q => cases q
theorem blank_cp : cp (Str.ofString " ") = [32] := by decide +kernel
theorem tilde_cp : cp (Str.ofString "~") = [126] := by decide +kernel
theorem two_cp : cp (Str.ofString "  ") = [32, 32] := by decide +kernel
theorem blank_is (c : Nat) : decide (V.str ⟨#[c]⟩ = V.str (Str.ofString " ")) = decide (c = 32) := by
  by_cases h : c = 32
  · subst h
    rw [decide_eq_true rfl]
    refine decide_eq_true (congrArg V.str (cp_inj ?_))
    rw [blank_cp]
  · rw [decide_eq_false h]
    refine decide_eq_false fun q => h ?_
    have e := congrArg cp (V.str.inj q)
    rw [blank_cp] at e
    exact (List.cons.inj e).1
theorem twin_iff : ∀ l : List Nat, twin l = true ↔ ∃ i, l[i]? = Option.some 32 ∧ l[i + 1]? = Option.some 32
  | [] => by simp [twin]
  | [a] => by simp [twin]
  | a :: b :: r => by
    have ih := twin_iff (b :: r)
    constructor
    · intro h
      have h' : ((a == 32 && b == 32) || twin (b :: r)) = true := h
      rcases Bool.or_eq_true_iff.mp h' with q | q
      · obtain ⟨q1, q2⟩ := Bool.and_eq_true_iff.mp q
        exact ⟨0, congrArg Option.some (beq_iff_eq.mp q1), congrArg Option.some (beq_iff_eq.mp q2)⟩
      · obtain ⟨i, h1, h2⟩ := ih.mp q
        exact ⟨i + 1, h1, h2⟩
    · rintro ⟨i, h1, h2⟩
      show ((a == 32 && b == 32) || twin (b :: r)) = true
      cases i with
      | zero =>
        have e1 : a = 32 := Option.some.inj h1
        have e2 : b = 32 := Option.some.inj h2
        rw [e1, e2]
        rfl
      | succ i =>
        rw [ih.mpr ⟨i, h1, h2⟩, Bool.or_true]
theorem two_in (z : Str) : (!(Builtin.Str.occurrences z (Str.ofString "  ") 0 z.length 1).isEmpty) = twin (cp z) := by
  have h := PySem.StrLaws.found_iff z (Str.ofString "  ")
  have hl : (Str.ofString "  ").length = 2 := by decide +kernel
  have key : (!(Builtin.Str.occurrences z (Str.ofString "  ") 0 z.length 1).isEmpty) = true ↔ twin (cp z) = true := by
    rw [h, twin_iff]
    constructor
    · rintro ⟨i, h1, h2⟩
      rw [PySem.StrLaws.subAt_eq, hl] at h2
      have e := eq_of_beq h2
      have e' : ((cp z).drop i).take 2 = [32, 32] := e.trans two_cp
      have g0 := congrArg (fun l => l[0]?) e'
      have g1 := congrArg (fun l => l[1]?) e'
      simp only [List.getElem?_take, List.getElem?_drop] at g0 g1
      exact ⟨i, by simpa using g0, by simpa using g1⟩
    · rintro ⟨i, h1, h2⟩
      have hi : i + 1 < (cp z).length := (List.getElem?_eq_some_iff.mp h2).1
      refine ⟨i, by rw [hl, ← cp_len]; omega, ?_⟩
      rw [PySem.StrLaws.subAt_eq, hl]
      refine beq_iff_eq.mpr (Eq.trans ?_ two_cp.symm)
      refine List.ext_getElem? fun k => ?_
      rw [List.getElem?_take, List.getElem?_drop]
      match k with
      | 0 => simpa using h1
      | 1 => simpa using h2
      | k + 2 => simp; omega
  cases hb : twin (cp z) with
  | true => exact key.mpr hb
  | false =>
    rw [Bool.eq_false_iff]
    exact fun q => by rw [key.mp q] at hb; cases hb
/-- a value of the kinds that are handed to is_text -/
def AnyV (H : Hp) (x : V) : Prop := Plain x ∨ ∃ a xs, x = .ref a ∧ (H a = some (.lst xs) ∨ H a = some (.tup xs))
open Classical in
noncomputable def textV : V → Bool
  | .str z => decide (Good (cp z))
  | _ => false
def spPercent : Sp := fun vs H Q _ => ∃ z : Str, vs = [.str z] ∧ z.length ≤ 1000 ∧ ∀ H', Same H H' → Q (.bl (decide (37 ∈ cp z))) H'
noncomputable def spIsText : Sp := fun vs H Q _ => ∃ x, vs = [x] ∧ AnyV H x ∧ (∀ z, x = .str z → z.length ≤ 1000) ∧ ∀ H', Same H H' → Q (.bl (textV x)) H'
theorem inV_ints (k : Nat) : ∀ l : List Nat, inV (.int (k : Nat)) (l.map fun c => V.int (c : Nat)) = decide (k ∈ l)
  | [] => rfl
  | c :: r => by
    show (eqV (.int (c : Nat)) (.int (k : Nat)) || inV (.int (k : Nat)) (r.map fun c => V.int (c : Nat))) = _
    rw [inV_ints k r]
    show (((c : Nat) : Int) == ((k : Nat) : Int) || decide (k ∈ r)) = decide (k ∈ c :: r)
    by_cases h : k = c
    · subst h
      simp
    · have h' : ((c : Nat) : Int) ≠ ((k : Nat) : Int) := fun e => h (Int.ofNat.inj e).symm
      have h2 : (((c : Nat) : Int) == ((k : Nat) : Int)) = false := beq_eq_false_iff_ne.mpr h'
      rw [h2, Bool.false_or]
      simp [h]
theorem flat_ints : ∀ l : List Nat, (l.map fun c => V.int (c : Nat)).all flatV = true
  | [] => rfl
  | _ :: r => flat_ints r
section
variable {P : Program} {w : World} {K : PySem.W.Frag} {mg : Str → Option Value} {base : Heap}
theorem ok_has_percent {f : Addr} {fd : FuncData} (F : Fun K "has_percent" "has_percent" s_has_percent f fd) {t : Tok} (g_PERCENT : mg "PERCENT" = some (.int 37 t)) (m_ord : mg "ord" = none) :
    FnOk P w K mg base CX0 1 f fd ["word"] spPercent := by
  refine F.ok sc_has_percent (fun vs H Q E h => ?_) (fun cdv A outer s H vs Q E hr h => ?_)
  · obtain ⟨z, rfl, _⟩ := h
    rfl
  · obtain ⟨z, rfl, hz, q⟩ := h
    refine ⟨_, (pss_one (ps_ret (pe_cmpR op_in_seq (pe_glob (v := .int 37) rfl g_PERCENT ⟨_, rfl⟩) (pe_lc (own := [("sign", 1)]) rfl sc_has_percent.nd (pi_str (pv 0)) (blkOk_by (N := N_has_percent) (sc := defScope s_has_percent) (by decide +kernel)) (fun _ _ _ _ _ => (pg_name (i := 1) sc_has_percent.nd rfl (Or.inl rfl))) (fun _ _ _ _ _ => pts_nil) (fun _ _ _ _ _ => (pe_callB call_ord (by rfl) m_ord (by decide +kernel) (pa_cons (pv 1) pa_nil)))) rfl))), ?_⟩
    refine ⟨_, rfl, z, rfl, fun D hD => ?_⟩
    refine lc_it walk_str (fun i H' => Same H H' ∧ H' D = some (.lst (((cp z).take i).map fun c => V.int (c : Nat)))) ⟨same_new hD, upd_same⟩ (fun _ _ _ _ => trivial) ?_ ?_
    · rintro i x Ha Hb hi ⟨hs, hd⟩ ⟨rfl, c, hc, rfl⟩
      have hc' : (cp z)[i]? = some c := by rw [Array.getElem?_toList]; exact hc
      refine ⟨rfl, _, rfl, _, rfl, rfl, _, hd, ?_, same_over hs hD, ?_⟩
      · rw [List.length_map, List.length_take, cp_len]
        exact small_line (by omega)
      · rw [upd_same, sub_take hc', List.map_append]
        rfl
    · rintro H' ⟨hs, hd⟩
      have ht : (cp z).take z.cps.size = cp z := List.take_of_length_le (Nat.le_of_eq (cp_len z))
      rw [ht] at hd
      refine ⟨D, _, rfl, .inl (SqL.of hd), rfl, flat_ints _, ?_⟩
      have e := inV_ints 37 (cp z)
      have q' := q H' hs
      rw [← e] at q'
      exact q'
end
end Sea
namespace Sea
open PySem PySem.Spec PyProof.Rows L2
open Classical in
theorem textV_no {x : V} (h : ∀ z, x = .str z → ¬ Good (cp z)) : textV x = false := by
  cases x with
  | str z => exact decide_eq_false (h z rfl)
  | _ => rfl
open Classical in
theorem textV_yes {z : Str} (h : Good (cp z)) : textV (.str z) = true := decide_eq_true h
theorem ltL (a b : Nat) : decide ((cp ⟨#[a]⟩) < ([b] : List Nat)) = decide (a < b) := lt_one a b
theorem ltR (a b : Nat) : decide (([a] : List Nat) < cp ⟨#[b]⟩) = decide (a < b) := lt_one a b
theorem all_signs (l : List Nat) : ((l.map fun c => decide (32 ≤ c ∧ c ≤ 126)).all id) = decide (∀ c ∈ l, 32 ≤ c ∧ c ≤ 126) := by
  induction l with
  | nil => simp
  | cons a r ih =>
    rw [List.map_cons, List.all_cons, ih]
    by_cases h : 32 ≤ a ∧ a ≤ 126
    · simp [h]
    · have h2 : ¬ (∀ c ∈ a :: r, 32 ≤ c ∧ c ≤ 126) := fun q => h (q a List.mem_cons_self)
      rw [decide_eq_false h2]
      simp only [id]
      rw [decide_eq_false h, Bool.false_and]
section
variable {P : Program} {w : World} {K : PySem.W.Frag} {mg : Str → Option Value} {base : Heap}
theorem ok_is_text {f : Addr} {fd : FuncData} (F : Fun K "is_text" "is_text" s_is_text f fd)
    (m_isinstance : mg "isinstance" = none) (m_str : mg "str" = none) (m_len : mg "len" = none) (m_all : mg "all" = none)
    (c_has_percent : Cal P w K mg base 1 "has_percent" spPercent) : FnOk P w K mg base CX0 2 f fd ["thing"] spIsText := by
  refine F.ok sc_is_text (fun vs H Q E h => ?_) (fun cdv A outer s H vs Q E hr h => ?_)
  · obtain ⟨x, rfl, _⟩ := h
    rfl
  · obtain ⟨x, rfl, hany, hsz, q⟩ := h
    refine ⟨_, (pss_cons (ps_if (PW.pt (pw_or (pt_not (pt_val (pe_callB call_isi (by rfl) m_isinstance (by decide +kernel) (pa_cons (pv 0) (pa_cons (pe_bltn (v := .ty "str") (by rfl) m_str (by decide +kernel) rfl) pa_nil))))) (pw_or1 (pt_not (pt_chain op_le op_le (pe_int) (pe_callB call_len (by rfl) m_len (by decide +kernel) (pa_cons (pv 0) pa_nil)) (pe_int))))))
    (pss_one (ps_ret (pe_bl)))
    pss_nil)
    (pss_cons (ps_if (PW.pt (pw_or (pt_val (pe_c c_has_percent hr (by decide) rfl (pa_cons (pv 0) pa_nil))) (pw_or1 (pt_not (pt_val (pe_callB (cr_all rfl) (by rfl) m_all (by decide +kernel) (pa_cons (pe_lc (own := [("sign", 1)]) rfl sc_is_text.nd (pi_str (pv 0)) (blkOk_by (N := N_is_text) (sc := defScope s_is_text) (by decide +kernel)) (fun _ _ _ _ _ => (pg_name (i := 1) sc_is_text.nd rfl (Or.inl rfl))) (fun _ _ _ _ _ => pts_nil) (fun _ _ _ _ _ => (pe_chain op_le_str op_le_str (pe_str) (pv 1) (pe_str)))) pa_nil)))))))
    (pss_one (ps_ret (pe_bl)))
    pss_nil)
    (pss_one (ps_ret (pe_and (pe_cmpR op_ne (pe_ix ix_str (pv 0) (pe_int) (fun _ _ => rfl)) (pe_str) (nomark _)) (pe_and (pe_cmpR op_ne (pe_ix ix_str (pv 0) (pe_un un_neg (pe_int)) (fun _ _ => rfl)) (pe_str) (nomark _)) (pe_one (pe_cmpR op_notin_str (pe_str) (pv 0) rfl)))))))), ?_⟩
    -- what is no text
    have other : ∀ t, TyX K H x t → PySem.W.kitOne K t (.type "str") = some false → textV x = false →
        (∃ v, (start N_is_text [x])[0]? = some (some v) ∧ ∃ (x' c : V) (t u : Value) (b : Bool), [v, V.ty "str"] = [x', c] ∧ ClsV c u ∧ TyX K H x' t ∧ PySem.W.kitOne K t u = some b ∧ (∃ c, V.bl b = .bl c ∧ (if (!c) = true then (if true = true then Q (.bl false) H else False) else False))) :=
      fun t ty k e => ⟨x, rfl, x, _, t, _, false, rfl, .ty _, ty, k, false, rfl, by
        have q' := q H (Same.refl H)
        rw [e] at q'
        exact q'⟩
    cases x with
    | int i => obtain ⟨v, h1, x', c, t, u, b, h2, h3, h4, h5, c', h6, h7⟩ := other _ (.base (.int i)) (kit_ty (by decide +kernel)) rfl
               exact ⟨_, rfl, _, _, _, _, false, rfl, .ty _, .base (.int i), kit_ty (by decide +kernel), false, rfl, q H (Same.refl H)⟩
    | bl b => exact ⟨_, rfl, _, _, _, _, false, rfl, .ty _, .base (.bl b), kit_ty (by decide +kernel), false, rfl, q H (Same.refl H)⟩
    | non => exact ⟨_, rfl, _, _, _, _, false, rfl, .ty _, .base .non, kit_ty (by decide +kernel), false, rfl, q H (Same.refl H)⟩
    | ref a =>
      rcases hany with hp | ⟨a', xs, ea, hl | hl⟩
      · exact hp.elim
      · cases ea
        exact ⟨_, rfl, _, _, _, _, false, rfl, .ty _, .base (.lst hl), kit_ty (by decide +kernel), false, rfl, q H (Same.refl H)⟩
      · cases ea
        exact ⟨_, rfl, _, _, _, _, false, rfl, .ty _, .base (.tup hl), kit_ty (by decide +kernel), false, rfl, q H (Same.refl H)⟩
    | byt z => rcases hany with hp | ⟨a', xs, ea, _⟩ <;> first | exact hp.elim | cases ea
    | flt z => rcases hany with hp | ⟨a', xs, ea, _⟩ <;> first | exact hp.elim | cases ea
    | ty z => rcases hany with hp | ⟨a', xs, ea, _⟩ <;> first | exact hp.elim | cases ea
    | str z =>
      have hz : z.length ≤ 1000 := hsz z rfl
      have hzl : z.length ≤ sizeLine := Nat.le_of_lt (small1000 hz)
      have no : ∀ H', Same H H' → ¬ Good (cp z) → Q (.bl false) H' := fun H' hs hg => by
        have q' := q H' hs
        rw [textV_no (fun z' e => by cases e; exact hg)] at q'
        exact q'
      refine ⟨_, rfl, _, _, _, _, true, rfl, .ty _, .base (.str z), kit_ty (by decide +kernel), true, rfl, ?_⟩
      refine ⟨_, rfl, _, z.length, rfl, ⟨hzl, rfl⟩, _, _, rfl, rfl, _, rfl, ite2 (fun h1 => ⟨_, _, rfl, rfl, _, rfl, ?_⟩) (fun h1 => ⟨_, rfl, ?_⟩)⟩
      · have g1 : (1 : Int) ≤ (z.length : Nat) := of_decide_eq_true h1
        by_cases h2 : ((z.length : Nat) : Int) ≤ 60
        · rw [decide_eq_true h2]
          -- has_percent
          refine ⟨_, rfl, z, rfl, hz, fun H1 s1 => ⟨_, rfl, ?_⟩⟩
          refine ite2 (fun hp => ?_) (fun hp => ?_)
          · refine no H1 s1 fun g => ?_
            exact (g.sign 37 (of_decide_eq_true hp)).2.2 rfl
          · have hp' : 37 ∉ cp z := fun m => hp (decide_eq_true m)
            refine ⟨_, rfl, z, rfl, fun D hD => ?_⟩
            refine lc_it walk_str (fun i H' => Same H1 H' ∧ H' D = some (.lst ((((cp z).take i).map fun c => decide (32 ≤ c ∧ c ≤ 126)).map V.bl))) ⟨same_new hD, upd_same⟩ (fun _ _ _ _ => trivial) ?_ ?_
            · rintro i x Ha Hb hi ⟨hs, hd⟩ ⟨rfl, c, hc, rfl⟩
              have hc' : (cp z)[i]? = some c := by rw [Array.getElem?_toList]; exact hc
              have sz : ((((cp z).take i).map fun c => decide (32 ≤ c ∧ c ≤ 126)).map V.bl).length < sizeLine := by
                rw [List.length_map, List.length_map, List.length_take, cp_len]
                exact small_line (by omega)
              have fin : ∀ b, b = decide (32 ≤ c ∧ c ≤ 126) → Same H1 (upd Hb D (.lst (((((cp z).take i).map fun c => decide (32 ≤ c ∧ c ≤ 126)).map V.bl) ++ [V.bl b]))) ∧
                  (upd Hb D (.lst (((((cp z).take i).map fun c => decide (32 ≤ c ∧ c ≤ 126)).map V.bl) ++ [V.bl b]))) D = some (.lst ((((cp z).take (i + 1)).map fun c => decide (32 ≤ c ∧ c ≤ 126)).map V.bl)) := by
                intro b e
                subst e
                refine ⟨same_over hs hD, ?_⟩
                rw [upd_same, sub_take hc', List.map_append, List.map_append]
                rfl
              have e1 : (!decide ((cp ⟨#[c]⟩) < cp (Str.ofString " "))) = decide (32 ≤ c) := by
                rw [blank_cp, ltL]
                by_cases h : c < 32
                · rw [decide_eq_true h, decide_eq_false (by omega)]; rfl
                · rw [decide_eq_false h, decide_eq_true (by omega)]; rfl
              have e2 : (!decide (cp (Str.ofString "~") < (cp ⟨#[c]⟩))) = decide (c ≤ 126) := by
                rw [tilde_cp, ltR]
                by_cases h : 126 < c
                · rw [decide_eq_true h, decide_eq_false (by omega)]; rfl
                · rw [decide_eq_false h, decide_eq_true (by omega)]; rfl
              refine ⟨rfl, _, rfl, _, _, rfl, rfl, _, rfl, ite2 (fun h => ⟨_, _, rfl, rfl, _, hd, sz, ?_⟩) (fun h => ⟨_, hd, sz, ?_⟩)⟩
              · refine fin _ ?_
                have h' : 32 ≤ c := of_decide_eq_true (e1.symm.trans h)
                rw [e2]
                by_cases k : c ≤ 126
                · rw [decide_eq_true k, decide_eq_true ⟨h', k⟩]
                · rw [decide_eq_false k, decide_eq_false (fun q => k q.2)]
              · refine fin _ ?_
                have h' : ¬ 32 ≤ c := fun q => h (e1.trans (decide_eq_true q))
                rw [decide_eq_false (fun q => h' q.1)]
            · rintro H' ⟨hs, hd⟩
              have ht : (cp z).take z.cps.size = cp z := List.take_of_length_le (Nat.le_of_eq (cp_len z))
              rw [ht] at hd
              refine ⟨D, _, rfl, SqL.of hd, _, rfl, ?_⟩
              rw [all_signs]
              have s2 := s1.trans hs
              by_cases ha : ∀ c ∈ cp z, 32 ≤ c ∧ c ≤ 126
              · rw [decide_eq_true ha]
                have n0 : 0 < (cp z).length := by rw [cp_len]; omega
                have z0 : (cp z)[0]? = some (cp z)[0] := List.getElem?_eq_getElem n0
                have z1 : (cp z)[(cp z).length - 1]? = some ((cp z)[(cp z).length - 1]'(by omega)) := List.getElem?_eq_getElem (by omega)
                have zl : atI (cp z) (-1) = some ((cp z)[(cp z).length - 1]'(by omega)) := by
                  unfold atI ixN
                  rw [if_neg (by decide), if_pos (by omega)]
                  show (cp z)[((-1 : Int) + ((cp z).length : Nat)).toNat]? = _
                  rw [show ((-1 : Int) + ((cp z).length : Nat)).toNat = (cp z).length - 1 by omega]
                  exact z1
                refine ⟨_, rfl, z, 0, _, rfl, rfl, hzl, atI_nat (j := 0) z0, rfl, _, rfl, ?_⟩
                rw [blank_is]
                by_cases b0 : (cp z)[0] = 32
                · rw [decide_eq_true b0]
                  exact no H' s2 fun g => g.head (z0.trans (congrArg some b0))
                · rw [decide_eq_false b0]
                  refine ⟨_, rfl, 1, rfl, z, -1, _, rfl, rfl, hzl, zl, rfl, _, rfl, ?_⟩
                  rw [blank_is]
                  by_cases b1 : (cp z)[(cp z).length - 1]'(by omega) = 32
                  · rw [decide_eq_true b1]
                    exact no H' s2 fun g => g.last (z1.trans (congrArg some b1))
                  · rw [decide_eq_false b1]
                    refine ⟨_, rfl, _, _, rfl, rfl, ?_⟩
                    have q' := q H' s2
                    have e : textV (.str z) = !twin (cp z) := by
                      cases ht2 : twin (cp z) with
                      | true => exact textV_no fun z' e' g => by cases e'; rw [g.twin] at ht2; cases ht2
                      | false =>
                        refine textV_yes ⟨by omega, by rw [cp_len]; omega, fun c hc => ⟨(ha c hc).1, (ha c hc).2, fun e => hp' (e ▸ hc)⟩, fun e => b0 (Option.some.inj (z0.symm.trans e)), fun e => b1 (Option.some.inj (z1.symm.trans e)), ht2⟩
                    rw [e, ← two_in] at q'
                    exact q'
              · rw [decide_eq_false ha]
                exact no H' s2 fun g => ha fun c hc => ⟨(g.sign c hc).1, (g.sign c hc).2.1⟩
        · rw [decide_eq_false h2]
          exact no H (Same.refl H) fun g => h2 (by have := g.most; rw [cp_len] at this; omega)
      · refine no H (Same.refl H) fun g => h1 (decide_eq_true ?_)
        have := g.some
        rw [cp_len] at this
        omega
end
end Sea
namespace Sea
open PySem PySem.Spec PyProof.Rows L2
/-! the breaks of a text -/
def cutA (z : Str) (k : Nat) : Str := ⟨((cp z).take k).toArray⟩
def cutB (z : Str) (k : Nat) : Str := ⟨((cp z).drop (k + 1)).toArray⟩
/-- the places of the blanks among the first i signs -/
def blanks (z : Str) (i : Nat) : List Nat := (List.range i).filter fun k => (cp z)[k]? == some 32
theorem blanks_yes {z : Str} {i : Nat} (h : (cp z)[i]? = some 32) : blanks z (i + 1) = blanks z i ++ [i] := by
  unfold blanks
  rw [List.range_succ, List.filter_append]
  have h' : z.cps[i]? = some 32 := by rw [← Array.getElem?_toList]; exact h
  simp [h']
theorem blanks_no {z : Str} {i : Nat} (h : (cp z)[i]? ≠ some 32) : blanks z (i + 1) = blanks z i := by
  unfold blanks
  rw [List.range_succ, List.filter_append]
  have h' : ¬ z.cps[i]? = some 32 := by rw [← Array.getElem?_toList]; exact h
  simp [h']
theorem mem_blanks {z : Str} {i k : Nat} : k ∈ blanks z i ↔ k < i ∧ (cp z)[k]? = some 32 := by
  unfold blanks
  rw [List.mem_filter, List.mem_range]
  simp
theorem sIxN (n d k : Nat) (i : Int) (h : i = (k : Int)) : HT.sIx n d (some i) = min k n := by
  rw [h]
  exact HT.sIx_nat n d k
theorem cutS_to {z : Str} {k : Nat} {i : Int} (e : i = (k : Int)) (h : k ≤ z.length) : cutS z none (some i) = cutA z k := by
  unfold cutS cutA
  rw [HT.sIx_none, sIxN _ _ k i e]
  rw [show min k z.length - 0 = k by omega]
  rfl
theorem cutS_from {z : Str} {k : Nat} {i : Int} (e : i = ((k + 1 : Nat) : Int)) (h : k + 1 ≤ z.length) : cutS z (some i) none = cutB z k := by
  unfold cutS cutB
  rw [HT.sIx_none, sIxN _ _ (k + 1) i e]
  rw [show min (k + 1) z.length = k + 1 by omega]
  have e2 : ((cp z).drop (k + 1)).take (z.length - (k + 1)) = (cp z).drop (k + 1) := List.take_of_length_le (by rw [List.length_drop, cp_len]; exact Nat.le_refl _)
  exact congrArg (fun l : List Nat => (⟨l.toArray⟩ : Str)) e2
theorem len_cutA {z : Str} {k : Nat} (h : k ≤ z.length) : (cutA z k).length = k := by
  have e := cp_len (cutA z k)
  rw [← e]
  show ((cp z).take k).length = k
  rw [List.length_take, cp_len]
  omega
theorem len_cutB {z : Str} {k : Nat} : (cutB z k).length = z.length - (k + 1) := by
  have e := cp_len (cutB z k)
  rw [← e]
  show ((cp z).drop (k + 1)).length = _
  rw [List.length_drop, cp_len]
/-- at e's place the two lines that its break makes -/
def BrkAt (z : Str) (H : Hp) (e : Addr × Nat) : Prop := H e.1 = some (.tup [.str (cutA z e.2), .str (cutB z e.2)])
abbrev refsOf (L : List (Addr × Nat)) : List V := L.map fun e => V.ref e.1
def spBreaks : Sp := fun vs H Q _ => ∃ z : Str, vs = [.str z] ∧ z.length ≤ 1000 ∧ ∀ (H' : Hp) (l : Addr) (L : List (Addr × Nat)), Same H H' → H l = none →
  H' l = some (.lst (refsOf L)) → L.map (·.2) = blanks z z.length → (∀ e ∈ L, BrkAt z H' e) → Q (.ref l) H'
def spWider : Sp := fun vs H Q _ => ∃ (p : Addr) (a b : Str), vs = [.ref p] ∧ H p = some (.tup [.str a, .str b]) ∧ a.length ≤ 1000 ∧ b.length ≤ 1000 ∧ Q (.int (max (a.length : Int) b.length)) H
def spDiff : Sp := fun vs H Q _ => ∃ (p : Addr) (a b : Str), vs = [.ref p] ∧ H p = some (.tup [.str a, .str b]) ∧ a.length ≤ 1000 ∧ b.length ≤ 1000 ∧ Q (.int ((((a.length : Int) - b.length).natAbs : Nat) : Int)) H
section
variable {P : Program} {w : World} {K : PySem.W.Frag} {mg : Str → Option Value} {base : Heap}
theorem ok_wider {f : Addr} {fd : FuncData} (F : Fun K "wider" "wider" s_wider f fd) (m_max : mg "max" = none) (m_len : mg "len" = none) : FnOk P w K mg base CX0 1 f fd ["lines"] spWider := by
  refine F.ok sc_wider (fun vs H Q E h => ?_) (fun cdv A outer s H vs Q E hr h => ?_)
  · obtain ⟨p, a, b, rfl, _⟩ := h
    rfl
  · obtain ⟨p, a, b, rfl, hp, ha, hb, q⟩ := h
    refine ⟨_, (pss_one (ps_ret (pe_callB (call_max2 rfl) (by rfl) m_max (by decide +kernel) (pa_cons (pe_callB call_len (by rfl) m_len (by decide +kernel) (pa_cons (pe_ix ix_tup (pv 0) (pe_int) (fun _ _ => rfl)) pa_nil)) (pa_cons (pe_callB call_len (by rfl) m_len (by decide +kernel) (pa_cons (pe_ix ix_tup (pv 0) (pe_int) (fun _ _ => rfl)) pa_nil)) pa_nil))))), ?_⟩
    refine ⟨_, rfl, p, _, 0, _, rfl, rfl, SqT.of hp, atI_nat (j := 0) rfl, _, a.length, rfl, ⟨Nat.le_of_lt (small1000 ha), rfl⟩, _, rfl, p, _, 1, _, rfl, rfl, SqT.of hp, atI_nat (j := 1) rfl, _, b.length, rfl, ⟨Nat.le_of_lt (small1000 hb), rfl⟩, _, _, rfl, ?_⟩
    have e : (if ((b.length : Nat) : Int) > ((a.length : Nat) : Int) then ((b.length : Nat) : Int) else ((a.length : Nat) : Int)) = max (a.length : Int) b.length := by
      by_cases h : ((b.length : Nat) : Int) > ((a.length : Nat) : Int)
      · rw [if_pos h]; omega
      · rw [if_neg h]; omega
    rw [e]
    exact q
theorem ok_difference {f : Addr} {fd : FuncData} (F : Fun K "difference" "difference" s_difference f fd) (m_abs : mg "abs" = none) (m_len : mg "len" = none) : FnOk P w K mg base CX0 1 f fd ["lines"] spDiff := by
  refine F.ok sc_difference (fun vs H Q E h => ?_) (fun cdv A outer s H vs Q E hr h => ?_)
  · obtain ⟨p, a, b, rfl, _⟩ := h
    rfl
  · obtain ⟨p, a, b, rfl, hp, ha, hb, q⟩ := h
    refine ⟨_, (pss_one (ps_ret (pe_callB call_abs (by rfl) m_abs (by decide +kernel) (pa_cons (pe_op op_sub (pe_callB call_len (by rfl) m_len (by decide +kernel) (pa_cons (pe_ix ix_tup (pv 0) (pe_int) (fun _ _ => rfl)) pa_nil)) (pe_callB call_len (by rfl) m_len (by decide +kernel) (pa_cons (pe_ix ix_tup (pv 0) (pe_int) (fun _ _ => rfl)) pa_nil))) pa_nil)))), ?_⟩
    refine ⟨_, rfl, p, _, 0, _, rfl, rfl, SqT.of hp, atI_nat (j := 0) rfl, _, a.length, rfl, ⟨Nat.le_of_lt (small1000 ha), rfl⟩, _, rfl, p, _, 1, _, rfl, rfl, SqT.of hp, atI_nat (j := 1) rfl, _, b.length, rfl, ⟨Nat.le_of_lt (small1000 hb), rfl⟩, _, _, rfl, rfl, _, rfl, ?_⟩
    have e : (if ((a.length : Nat) : Int) - ((b.length : Nat) : Int) < 0 then -(((a.length : Nat) : Int) - ((b.length : Nat) : Int)) else ((a.length : Nat) : Int) - ((b.length : Nat) : Int)) = ((((a.length : Int) - b.length).natAbs : Nat) : Int) := by
      by_cases h : ((a.length : Nat) : Int) - ((b.length : Nat) : Int) < 0
      · rw [if_pos h]; omega
      · rw [if_neg h]; omega
    rw [e]
    exact q
theorem ok_breaks_of {f : Addr} {fd : FuncData} (F : Fun K "breaks_of" "breaks_of" s_breaks_of f fd) (m_enumerate : mg "enumerate" = none) : FnOk P w K mg base CX0 1 f fd ["text"] spBreaks := by
  refine F.ok sc_breaks_of (fun vs H Q E h => ?_) (fun cdv A outer s H vs Q E hr h => ?_)
  · obtain ⟨z, rfl, _⟩ := h
    rfl
  · obtain ⟨z, rfl, hz, q⟩ := h
    have hzl : z.length ≤ sizeLine := Nat.le_of_lt (small1000 hz)
    refine ⟨_, (pss_one (ps_ret (pe_lc (own := [("at", 1), ("sign", 2)]) (g := gTup K 2 (gCons (gName 1) (gCons (gName 2) gNil))) rfl sc_breaks_of.nd (pi_ens (by rfl) m_enumerate (pa_cons (pv 0) pa_nil)) (blkOk_by (N := N_breaks_of) (sc := defScope s_breaks_of) (by decide +kernel)) (fun _ _ _ _ _ => by exact (pg_tup rfl (pgs_cons (pg_name (i := 1) sc_breaks_of.nd rfl (Or.inl rfl)) (pgs_cons (pg_name (i := 2) sc_breaks_of.nd rfl (Or.inl rfl)) pgs_nil)))) (fun _ _ _ _ _ => pts_one (pt_cmpR op_eq (pv 2) (pe_str) (nomark _))) (fun _ _ _ _ _ => (pe_tup (pa_cons (pe_slice sl_str (pv 0) po_none (po_some (pv 1))) (pa_cons (pe_slice sl_str (pv 0) (po_some (pe_op op_add (pv 1) (pe_int))) po_none) pa_nil))))))), ?_⟩
    refine ⟨_, rfl, z, rfl, fun D hD => ?_⟩
    refine lc_it walk_ens (fun i H' => Same H H' ∧ ∃ L : List (Addr × Nat), H' D = some (.lst (refsOf L)) ∧ L.map (·.2) = blanks z i ∧ ∀ e ∈ L, BrkAt z H' e) ⟨same_new hD, [], upd_same, rfl, fun _ h => nomatch h⟩ (fun _ _ _ _ => trivial) ?_ ?_
    · rintro i x Ha Hb hi ⟨hs, L, hd, hL, hb⟩ ⟨T, c, rfl, hT, hc, rfl⟩
      have hc' : (cp z)[i]? = some c := by rw [Array.getElem?_toList]; exact hc
      have hi' : i + 1 ≤ z.length := hi
      have nDT : D ≠ T := ne_of_none hd hT
      have s1 : Same H (upd Ha T (.tup [.int (i : Nat), .str ⟨#[c]⟩])) := hs.trans (same_new hT)
      have hd1 : (upd Ha T (.tup [.int (i : Nat), .str ⟨#[c]⟩])) D = some (.lst (refsOf L)) := by rw [upd_ne nDT]; exact hd
      have hb1 : ∀ e ∈ L, BrkAt z (upd Ha T (.tup [.int (i : Nat), .str ⟨#[c]⟩])) e := fun e he => same_new hT _ _ (hb e he)
      refine ⟨T, _, rfl, SqT.of upd_same, rfl, _, _, rfl, _, _, rfl, rfl, rfl, _, rfl, rfl, _, rfl, ?_⟩
      rw [blank_is]
      by_cases h : c = 32
      · rw [decide_eq_true h]
        refine ⟨_, rfl, _, rfl, _, rfl, z, rfl, hzl, _, rfl, _, rfl, _, _, rfl, rfl, _, rfl, z, rfl, hzl, (by show 2 ≤ sizeLine; decide), fun p hp => ?_⟩
        have nDp : D ≠ p := ne_of_none hd1 hp
        have s2 := same_new (o := .tup [.str (cutS z none (some ((i : Nat) : Int))), .str (cutS z (some (((i : Nat) : Int) + 1)) none)]) hp
        refine ⟨refsOf L, ?_, ?_, same_over (s1.trans s2) hD, L ++ [(p, i)], ?_, ?_, ?_⟩
        · rw [upd_ne nDp]
          exact hd1
        · have e := congrArg List.length hL
          rw [List.length_map] at e
          have e2 : (blanks z i).length ≤ i := by
            unfold blanks
            have := List.length_filter_le (fun k => (cp z)[k]? == some 32) (List.range i)
            rw [List.length_range] at this
            exact this
          show (refsOf L).length < sizeLine
          rw [List.length_map]
          exact small_line (by omega)
        · rw [upd_same]
          show some (HO.lst _) = some (HO.lst ((L ++ [(p, i)]).map fun e => V.ref e.1))
          rw [List.map_append]
          rfl
        · rw [List.map_append, hL, blanks_yes (by rw [hc', h])]
          rfl
        · intro e he
          have far : ∀ a o, a ≠ D → (upd (upd Ha T (.tup [.int (i : Nat), .str ⟨#[c]⟩])) p (.tup [.str (cutS z none (some ((i : Nat) : Int))), .str (cutS z (some (((i : Nat) : Int) + 1)) none)])) a = some o →
              (upd (upd (upd Ha T (.tup [.int (i : Nat), .str ⟨#[c]⟩])) p (.tup [.str (cutS z none (some ((i : Nat) : Int))), .str (cutS z (some (((i : Nat) : Int) + 1)) none)])) D (.lst (refsOf L ++ [V.ref p]))) a = some o := fun a o hne e => by
            rw [upd_ne hne]
            exact e
          rcases List.mem_append.mp he with he | he
          · refine far _ _ (fun q => ?_) (s2 _ _ (hb1 e he))
            have := hb1 e he
            unfold BrkAt at this
            rw [q, hd1] at this
            cases this
          · rw [List.mem_singleton.mp he]
            refine far _ _ nDp.symm ?_
            rw [upd_same, cutS_to rfl (by omega), cutS_from (k := i) (by omega) hi']
      · rw [decide_eq_false h]
        exact ⟨s1, L, hd1, by rw [blanks_no (by rw [hc']; exact fun q => h (Option.some.inj q))]; exact hL, hb1⟩
    · rintro H' ⟨hs, L, hd, hL, hb⟩
      exact q H' D L hs hD hd hL hb
end
end Sea
namespace Sea
open PySem PySem.Spec PyProof.Rows L2
/-! two_lines -/
def wid (n k : Nat) : Nat := max k (n - (k + 1))
def dif (n k : Nat) : Nat := ((k : Int) - ((n - (k + 1) : Nat) : Int)).natAbs
def isBlank (z : Str) (k : Nat) : Prop := (cp z)[k]? = some 32
structure Best (z : Str) (w : Int) (k : Nat) : Prop where
  at_ : isBlank z k
  fits : (wid z.length k : Int) ≤ w
  least : ∀ j, isBlank z j → (wid z.length j : Int) ≤ w → dif z.length k ≤ dif z.length j ∧ (j < k → dif z.length k < dif z.length j)
structure LeastW (z : Str) (m : Int) : Prop where
  is : m = (z.length : Int) ∨ ∃ k, isBlank z k ∧ m = (wid z.length k : Int)
  top : m ≤ (z.length : Int)
  low : ∀ k, isBlank z k → m ≤ (wid z.length k : Int)
theorem Best.one {z : Str} {w : Int} {j k : Nat} (a : Best z w j) (b : Best z w k) : j = k := by
  have h1 := a.least k b.at_ b.fits
  have h2 := b.least j a.at_ a.fits
  by_cases e : j < k
  · have := h2.2 e
    omega
  · by_cases e2 : k < j
    · have := h1.2 e2
      omega
    · omega
theorem LeastW.one {z : Str} {m n : Int} (a : LeastW z m) (b : LeastW z n) : m = n := by
  have h1 : m ≤ n := by
    rcases b.is with e | ⟨k, hk, e⟩
    · rw [e]; exact a.top
    · rw [e]; exact a.low k hk
  have h2 : n ≤ m := by
    rcases a.is with e | ⟨k, hk, e⟩
    · rw [e]; exact b.top
    · rw [e]; exact b.low k hk
  omega
def ATM (v : V) : HO := .xd [(("at" : Str), v)]
def WDM (v : V) : HO := .xd [(("width" : Str), v)]
def LSM (v : V) : HO := .xd [(("least" : Str), v)]
noncomputable def spTwo (CT CW CO : Addr) : Sp := fun vs H Q E => ∃ x y, vs = [x, y] ∧ AnyV H x ∧ (∀ z, x = .str z → z.length ≤ 1000) ∧ Plain y ∧
  (textV x = false → ∀ H' d, Same H H' → H' d = none → E (.ref CT) (some d) (upd H' d (ATM (.int (-1))))) ∧
  (textV x = true → inside y 1 60 = false → ∀ H' d, Same H H' → H' d = none → E (.ref CW) (some d) (upd H' d (WDM y))) ∧
  (∀ z w, x = .str z → Good (cp z) → y = .int w → 1 ≤ w → w ≤ 60 →
    ((z.length : Int) ≤ w → ∀ H' p, Same H H' → H' p = none → Q (.ref p) (upd H' p (.tup [.str z]))) ∧
    (∀ m, w < (z.length : Int) → (∀ k, isBlank z k → ¬ (wid z.length k : Int) ≤ w) → LeastW z m → ∀ H' d, Same H H' → H' d = none → E (.ref CO) (some d) (upd H' d (LSM (.int m)))) ∧
    (∀ k, w < (z.length : Int) → Best z w k → ∀ H' p, Same H H' → H' p = some (.tup [.str (cutA z k), .str (cutB z k)]) → Q (.ref p) H'))
abbrev s_iT : Stmt := inClass (top 2) 0
abbrev s_iW : Stmt := inClass (top 3) 0
abbrev s_iO : Stmt := inClass (top 4) 0
theorem sc_iT : FnScope ["self", "at"] ["self", "at"] (defScope s_iT) := ⟨rfl, rfl, rfl, by decide +kernel, rfl, by decide +kernel, by decide +kernel⟩
theorem sc_iW : FnScope ["self", "width"] ["self", "width"] (defScope s_iW) := ⟨rfl, rfl, rfl, by decide +kernel, rfl, by decide +kernel, by decide +kernel⟩
theorem sc_iO : FnScope ["self", "least"] ["self", "least"] (defScope s_iO) := ⟨rfl, rfl, rfl, by decide +kernel, rfl, by decide +kernel, by decide +kernel⟩
/-- an error class with its __init__ -/
structure XI (P : Program) (w : World) (K : PySem.W.Frag) (mg : Str → Option Value) (base : Heap) (nm fld : Str) (C : Addr) : Prop where
  ex : ∃ (fI : Addr) (fd : FuncData), XC K mg nm fld C fI ∧ FnOk P w K mg base CX0 1 fI fd ["self", fld] (spIni K C fld) ∧ Binds K fd ["self", fld] []
section
variable {P : Program} {w : World} {K : PySem.W.Frag} {mg : Str → Option Value} {base : Heap} {C : Addr}
theorem ok_iT {f : Addr} {fd : FuncData} (F : Fun K "__init__" "BadText.__init__" s_iT f fd) : FnOk P w K mg base CX0 1 f fd ["self", "at"] (spIni K C "at") := by
  refine F.ok sc_iT (fun vs H Q E h => ?_) (fun cdv A outer s H vs Q E hr h => ?_)
  · obtain ⟨a, v, rfl, _⟩ := h
    rfl
  · obtain ⟨a, v, rfl, ox, no, ha, q⟩ := h
    exact ⟨_, pss_one (ps_ost (pv 0) (pv 1)), _, rfl, _, rfl, a, C, rfl, ox, no, .inl ⟨ha, q⟩⟩
theorem ok_iW {f : Addr} {fd : FuncData} (F : Fun K "__init__" "BadWidth.__init__" s_iW f fd) : FnOk P w K mg base CX0 1 f fd ["self", "width"] (spIni K C "width") := by
  refine F.ok sc_iW (fun vs H Q E h => ?_) (fun cdv A outer s H vs Q E hr h => ?_)
  · obtain ⟨a, v, rfl, _⟩ := h
    rfl
  · obtain ⟨a, v, rfl, ox, no, ha, q⟩ := h
    exact ⟨_, pss_one (ps_ost (pv 0) (pv 1)), _, rfl, _, rfl, a, C, rfl, ox, no, .inl ⟨ha, q⟩⟩
theorem ok_iO {f : Addr} {fd : FuncData} (F : Fun K "__init__" "TooWide.__init__" s_iO f fd) : FnOk P w K mg base CX0 1 f fd ["self", "least"] (spIni K C "least") := by
  refine F.ok sc_iO (fun vs H Q E h => ?_) (fun cdv A outer s H vs Q E hr h => ?_)
  · obtain ⟨a, v, rfl, _⟩ := h
    rfl
  · obtain ⟨a, v, rfl, ox, no, ha, q⟩ := h
    exact ⟨_, pss_one (ps_ost (pv 0) (pv 1)), _, rfl, _, rfl, a, C, rfl, ox, no, .inl ⟨ha, q⟩⟩
end
/-- the lengths that the two defs see -/
theorem wid_eq {z : Str} {k : Nat} (h : k < z.length) : max ((cutA z k).length : Int) ((cutB z k).length : Int) = (wid z.length k : Int) := by
  rw [len_cutA (Nat.le_of_lt h), len_cutB]
  unfold wid
  omega
theorem dif_eq {z : Str} {k : Nat} (h : k < z.length) : ((((cutA z k).length : Int) - (cutB z k).length).natAbs : Nat) = dif z.length k := by
  rw [len_cutA (Nat.le_of_lt h), len_cutB]
  rfl
theorem blank_lt {z : Str} {k : Nat} (h : isBlank z k) : k < z.length := by
  have := (List.getElem?_eq_some_iff.mp h).1
  rw [cp_len] at this
  exact this
theorem blanks_up (z : Str) (i : Nat) : (blanks z i).Pairwise (· < ·) := List.Pairwise.filter _ List.pairwise_lt_range
open Classical in
theorem text_is {x : V} (h : textV x = true) : ∃ z, x = .str z ∧ Good (cp z) := by
  cases x with
  | str z => exact ⟨z, rfl, by unfold textV at h; exact of_decide_eq_true h⟩
  | _ => cases h
theorem inside_is {y : V} {lo hi : Int} (h : inside y lo hi = true) : ∃ i, y = .int i ∧ lo ≤ i ∧ i ≤ hi := by
  cases y with
  | int i =>
    obtain ⟨a, b⟩ := Bool.and_eq_true_iff.mp (show (decide (lo ≤ i) && decide (i ≤ hi)) = true from h)
    exact ⟨i, rfl, of_decide_eq_true a, of_decide_eq_true b⟩
  | _ => cases h
/-- of the breaks those that fit -/
def fitp (z : Str) (w : Int) (e : Addr × Nat) : Bool := decide ((wid z.length e.2 : Int) ≤ w)
theorem brk_blank {z : Str} {L : List (Addr × Nat)} (h : L.map (·.2) = blanks z z.length) {e : Addr × Nat} (he : e ∈ L) : isBlank z e.2 := by
  have m : e.2 ∈ L.map (·.2) := List.mem_map_of_mem he
  rw [h] at m
  exact (mem_blanks.mp m).2
theorem brk_has {z : Str} {L : List (Addr × Nat)} (h : L.map (·.2) = blanks z z.length) {k : Nat} (hk : isBlank z k) : ∃ e ∈ L, e.2 = k := by
  have m : k ∈ blanks z z.length := mem_blanks.mpr ⟨blank_lt hk, hk⟩
  rw [← h] at m
  obtain ⟨e, he, q⟩ := List.mem_map.mp m
  exact ⟨e, he, q⟩
theorem fit_up {z : Str} {w : Int} {L : List (Addr × Nat)} (h : L.map (·.2) = blanks z z.length) : (L.filter (fitp z w)).Pairwise fun a b => a.2 < b.2 := by
  have h1 : (L.map (·.2)).Pairwise (· < ·) := by
    rw [h]
    exact blanks_up z _
  exact (List.pairwise_map.mp h1).filter _
def keyOf (z : Str) (L : List (Addr × Nat)) (j : Nat) : Int := ((dif z.length ((L.map (·.2)).getD j 0) : Nat) : Int)
theorem keyOf_at {z : Str} {L : List (Addr × Nat)} {j : Nat} {e : Addr × Nat} (h : L[j]? = some e) : keyOf z L j = ((dif z.length e.2 : Nat) : Int) := by
  unfold keyOf
  have : (L.map (·.2)).getD j 0 = e.2 := by simp [h]
  rw [this]
theorem best_of {z : Str} {w : Int} {L : List (Addr × Nat)} (h : L.map (·.2) = blanks z z.length) {i : Nat} {e : Addr × Nat} (hi : (L.filter (fitp z w))[i]? = some e)
    (l : LeastAt (keyOf z (L.filter (fitp z w))) (refsOf (L.filter (fitp z w))).length i) : Best z w e.2 := by
  have he : e ∈ L.filter (fitp z w) := List.mem_of_getElem? hi
  obtain ⟨heL, hef⟩ := List.mem_filter.mp he
  refine ⟨brk_blank h heL, of_decide_eq_true hef, fun j hj hw => ?_⟩
  obtain ⟨e', he', rfl⟩ := brk_has h hj
  have hm : e' ∈ L.filter (fitp z w) := List.mem_filter.mpr ⟨he', decide_eq_true hw⟩
  obtain ⟨i', hi'⟩ := List.getElem?_of_mem hm
  have hlt : i' < (L.filter (fitp z w)).length := (List.getElem?_eq_some_iff.mp hi').1
  have l2 := l.2 i' (by rw [List.length_map]; exact hlt)
  rw [keyOf_at hi, keyOf_at hi'] at l2
  refine ⟨by omega, fun hlt2 => ?_⟩
  have : i' < i := by
    refine Nat.lt_of_not_le fun hle => ?_
    have pw := fit_up (w := w) h
    rcases Nat.lt_or_eq_of_le hle with q | q
    · have := List.pairwise_iff_getElem.mp pw i i' (List.getElem?_eq_some_iff.mp hi).1 hlt q
      rw [(List.getElem?_eq_some_iff.mp hi).2, (List.getElem?_eq_some_iff.mp hi').2] at this
      omega
    · subst q
      rw [hi] at hi'
      cases hi'
      omega
  have := l2.2 this
  omega
section
variable {P : Program} {w : World} {K : PySem.W.Frag} {mg : Str → Option Value} {base : Heap} {CT CW CO : Addr}
theorem ok_two_lines {f : Addr} {fd : FuncData} (F : Fun K "two_lines" "two_lines" s_two_lines f fd)
    (m_len : mg "len" = none) (m_min : mg "min" = none) {t : Tok} (g_MOST_WIDTH : mg "MOST_WIDTH" = some (.int 60 t))
    (xT : XI P w K mg base "BadText" "at" CT) (xW : XI P w K mg base "BadWidth" "width" CW) (xO : XI P w K mg base "TooWide" "least" CO)
    (c_is_text : Cal P w K mg base 2 "is_text" spIsText) (c_is_within : Cal P w K mg base 2 "is_within" spWithin) (c_breaks_of : Cal P w K mg base 1 "breaks_of" spBreaks)
    (c_wider : Cal P w K mg base 1 "wider" spWider) {fD : Addr} {fdD : FuncData} (FD : FnOk P w K mg base CX0 1 fD fdD ["lines"] spDiff) (gD : mg "difference" = some (.ref fD)) (bD : Binds K fdD ["lines"] []) :
    FnOk P w K mg base (L2.CX P w) 4 f fd ["text", "width"] (spTwo CT CW CO) := by
  obtain ⟨fIT, fdT, XT, FT, bT⟩ := xT.ex
  obtain ⟨fIW, fdW, XW, FW, bW⟩ := xW.ex
  obtain ⟨fIO, fdO, XO, FO, bO⟩ := xO.ex
  refine F.okX sc_two_lines (fun vs H Q E h => ?_) (fun cdv A outer s H vs Q E hr h => ?_)
  · obtain ⟨x, y, rfl, _⟩ := h
    rfl
  · obtain ⟨x, y, rfl, hx, hsz, hy, q1, q2, q3⟩ := h
    refine ⟨_, (pss_cons (ps_if (pt_not (pt_val (pe_c c_is_text hr (by decide) rfl (pa_cons (pv 0) pa_nil))))
    (pss_one (ps_raise rfl (takes_of rfl rfl rfl rfl) (pmk_oex XT.ox XT.iC XT.tI FT (hr.mono (by decide)) bT .nil pass0 rfl XT.gC (pa_cons (pe_un un_neg (pe_int)) pa_nil))))
    pss_nil)
    (pss_cons (ps_if (pt_not (pt_val (pe_c c_is_within hr (by decide) rfl (pa_cons (pv 1) (pa_cons (pe_int) (pa_cons (pe_glob (v := .int 60) rfl g_MOST_WIDTH ⟨_, rfl⟩) pa_nil))))))
    (pss_one (ps_raise rfl (takes_of rfl rfl rfl rfl) (pmk_oex XW.ox XW.iC XW.tI FW (hr.mono (by decide)) bW .nil pass0 rfl XW.gC (pa_cons (pv 1) pa_nil))))
    pss_nil)
    (pss_cons (ps_if (pt_cmpR op_le (pe_callB call_len (by rfl) m_len (by decide +kernel) (pa_cons (pv 0) pa_nil)) (pv 1) (nomark _))
    (pss_one (ps_ret (pe_tup (pa_cons (pv 0) pa_nil))))
    pss_nil)
    (pss_cons (ps_set (i := 2) sc_two_lines.nd rfl (Or.inl rfl) (pe_c c_breaks_of hr (by decide) rfl (pa_cons (pv 0) pa_nil)))
    (pss_cons (ps_setLc (i := 3) (own := [("lines", 4)]) rfl sc_two_lines.nd rfl rfl (sw_true rfl rfl rfl (by decide +kernel)) (pi_list (pv 2)) (blkOk_by (N := N_two_lines) (sc := defScope s_two_lines) (by decide +kernel)) (fun _ _ _ _ _ => (pg_name (i := 4) sc_two_lines.nd rfl (Or.inl rfl))) (fun _ _ _ _ _ => pts_one (pt_cmpR op_le (pe_c c_wider hr (by decide) rfl (pa_cons (pv 4) pa_nil)) (pv 1) (nomark _))) (fun _ _ _ _ _ => (pv 4)))
    (pss_cons (ps_if (pt_cmpR op_eq (pe_callB call_len (by rfl) m_len (by decide +kernel) (pa_cons (pv 3) pa_nil)) (pe_int) (nomark _))
    (pss_one (ps_raise rfl (takes_of rfl rfl rfl rfl) (pmk_oex XO.ox XO.iC XO.tI FO (hr.mono (by decide)) bO .nil pass0 rfl XO.gC (pa_cons (pe_callB (cr_min rfl) (by rfl) m_min (by decide +kernel) (pa_cons (pe_op op_cat (pe_lst (pa_cons (pe_callB call_len (by rfl) m_len (by decide +kernel) (pa_cons (pv 0) pa_nil)) pa_nil)) (pe_lc (own := [("lines", 4)]) rfl sc_two_lines.nd (pi_list (pv 2)) (blkOk_by (N := N_two_lines) (sc := defScope s_two_lines) (by decide +kernel)) (fun _ _ _ _ _ => (pg_name (i := 4) sc_two_lines.nd rfl (Or.inl rfl))) (fun _ _ _ _ _ => pts_nil) (fun _ _ _ _ _ => (pe_c c_wider hr (by decide) rfl (pa_cons (pv 4) pa_nil))))) pa_nil)) pa_nil))))
    pss_nil)
    (pss_one (ps_ret (pe_callBK (cr_minKey rfl FD (hr.mono (by decide)) bD) (by rfl) m_min (by decide +kernel) (pa_cons (pv 3) pa_nil) (pk_cons (pe_glob (v := .ref fD) rfl gD rfl) pk_nil)))))))))), ?_⟩
    refine ⟨_, rfl, x, rfl, hx, hsz, fun H1 s1 => ⟨_, rfl, ?_⟩⟩
    cases hT : textV x with
    | false => exact ⟨1, rfl, mk_fin XT.ox XT.no fun d hd => q1 hT H1 d s1 hd⟩
    | true =>
      refine ⟨_, rfl, y, 1, 60, rfl, hy, _, rfl, ?_⟩
      cases hI : inside y 1 60 with
      | false => exact ⟨_, rfl, mk_fin XW.ox XW.no fun d hd => q2 hT hI H1 d s1 hd⟩
      | true =>
        obtain ⟨z, rfl, hg⟩ := text_is hT
        obtain ⟨i, rfl, h1, h2⟩ := inside_is hI
        obtain ⟨qa, qb, qc⟩ := q3 z i rfl hg rfl h1 h2
        have hz : z.length ≤ 1000 := hsz z rfl
        have hzl : z.length ≤ sizeLine := Nat.le_of_lt (small1000 hz)
        refine ⟨_, rfl, _, z.length, rfl, ⟨hzl, rfl⟩, _, rfl, _, _, rfl, rfl, _, rfl, ite2 (fun e => ?_) (fun e => ?_)⟩
        · exact ⟨_, rfl, (by show 1 ≤ sizeLine; decide), fun p hp => qa (of_decide_eq_true e) H1 p s1 hp⟩
        · have hlt : i < (z.length : Int) := by
            have : ¬ ((z.length : Nat) : Int) ≤ i := fun q => e (decide_eq_true q)
            omega
          -- breaks = breaks_of(text)
          refine ⟨_, rfl, z, rfl, hz, fun H2 l L s2 hl hL hks hb => ?_⟩
          have hlen : L.length ≤ z.length := by
            have e1 := congrArg List.length hks
            rw [List.length_map] at e1
            have e2 := List.length_filter_le (fun k => (cp z)[k]? == some 32) (List.range z.length)
            rw [List.length_range] at e2
            have e3 : (blanks z z.length).length ≤ z.length := e2
            omega
          have brk : ∀ e ∈ L, ∀ H', Same H2 H' → BrkAt z H' e := fun e he H' hs => hs _ _ (hb e he)
          have lA : ∀ e ∈ L, (cutA z e.2).length ≤ 1000 := fun e he => by rw [len_cutA (Nat.le_of_lt (blank_lt (brk_blank hks he)))]; have := blank_lt (brk_blank hks he); omega
          have lB : ∀ e ∈ L, (cutB z e.2).length ≤ 1000 := fun e he => by rw [len_cutB]; omega
          -- fitting = [..]
          refine ⟨_, rfl, l, rfl, ⟨_, SqL.of hL⟩, fun D hD => ?_⟩
          refine lc_list (K := K) (a := l) (xs := refsOf L) (fun j H' => Same H2 H' ∧ H' D = some (.lst (refsOf ((L.take j).filter (fitp z i))))) ⟨same_new hD, upd_same⟩ (fun j H' _ hq => SqL.of (hq.1 _ _ hL)) ?_ ?_
          · rintro j y H' hy ⟨hs, hd⟩
            obtain ⟨e, he, rfl⟩ : ∃ e, L[j]? = some e ∧ y = V.ref e.1 := by
              rw [List.getElem?_map] at hy
              cases q : L[j]? with
              | none => rw [q] at hy; cases hy
              | some e => rw [q] at hy; exact ⟨e, rfl, (Option.some.inj hy).symm⟩
            have hm : e ∈ L := List.mem_of_getElem? he
            refine ⟨rfl, _, rfl, e.1, _, _, rfl, brk e hm H' hs, lA e hm, lB e hm, _, rfl, _, _, rfl, rfl, _, rfl, ?_⟩
            rw [wid_eq (blank_lt (brk_blank hks hm))]
            have ft : (L.take (j + 1)).filter (fitp z i) = (L.take j).filter (fitp z i) ++ if fitp z i e = true then [e] else [] := by
              rw [sub_take he, List.filter_append]
              congr 1
              by_cases q : fitp z i e = true
              · rw [if_pos q]; simp [q]
              · rw [if_neg q]; simp [q]
            refine ite2 (fun k => ⟨_, rfl, _, hd, ?_, same_over hs hD, ?_⟩) (fun k => ⟨hs, ?_⟩)
            · rw [List.length_map]
              have := List.length_filter_le (fitp z i) (L.take j)
              have := List.length_take_le' j L
              exact small_line (by omega)
            · rw [upd_same, ft, if_pos (show fitp z i e = true from k)]
              show some (HO.lst _) = some (HO.lst (List.map _ _))
              rw [List.map_append]
              rfl
            · rw [ft, if_neg (show ¬ fitp z i e = true from k), List.append_nil]
              exact hd
          · rintro H3 ⟨s3, hd⟩
            have hlx : (refsOf L).length = L.length := List.length_map ..
            rw [hlx, List.take_length] at hd
            have s03 := (s1.trans s2).trans s3
            refine ⟨_, rfl, _, _, rfl, .inl ⟨_, SqL.of hd, rfl⟩, rfl, _, rfl, ite2 (fun k => ?_) (fun k => ?_)⟩
            · -- nothing fits
              have k0 : ((refsOf (L.filter (fitp z i))).length : Int) = 0 := V.int.inj (of_decide_eq_true k)
              have nil : L.filter (fitp z i) = [] := by
                rw [List.length_map] at k0
                exact List.length_eq_zero_iff.mp (by omega)
              refine ⟨_, rfl, _, z.length, rfl, ⟨hzl, rfl⟩, (by show 1 ≤ sizeLine; decide), fun a ha => ?_⟩
              have sa := same_new (o := .lst [V.int (z.length : Nat)]) ha
              have hLa : (upd H3 a (.lst [V.int (z.length : Nat)])) l = some (.lst (refsOf L)) := sa _ _ (s3 _ _ hL)
              refine ⟨_, rfl, l, rfl, ⟨_, SqL.of hLa⟩, fun B hB => ?_⟩
              refine lc_list (K := K) (a := l) (xs := refsOf L) (fun j H' => Same (upd H3 a (.lst [V.int (z.length : Nat)])) H' ∧ H' B = some (.lst ((((L.take j).map fun e => (wid z.length e.2 : Int))).map V.int))) ⟨same_new hB, upd_same⟩ (fun j H' _ hq => SqL.of (hq.1 _ _ hLa)) ?_ ?_
              · rintro j y H' hy ⟨hs, hd'⟩
                obtain ⟨e, he, rfl⟩ : ∃ e, L[j]? = some e ∧ y = V.ref e.1 := by
                  rw [List.getElem?_map] at hy
                  cases q : L[j]? with
                  | none => rw [q] at hy; cases hy
                  | some e => rw [q] at hy; exact ⟨e, rfl, (Option.some.inj hy).symm⟩
                have hm : e ∈ L := List.mem_of_getElem? he
                refine ⟨rfl, _, rfl, e.1, _, _, rfl, brk e hm H' ((s3.trans sa).trans hs), lA e hm, lB e hm, _, hd', ?_, same_over hs hB, ?_⟩
                · rw [List.length_map, List.length_map]
                  have := List.length_take_le' j L
                  exact small_line (by omega)
                · rw [upd_same, wid_eq (blank_lt (brk_blank hks hm)), sub_take he, List.map_append, List.map_append]
                  rfl
              · rintro H4 ⟨s4, hB4⟩
                rw [hlx, List.take_length] at hB4
                refine ⟨a, B, _, _, rfl, rfl, s4 _ _ upd_same, hB4, ?_, fun p hp => ?_⟩
                · rw [List.length_map, List.length_map]
                  exact Nat.le_of_lt (small_line (show 1 + L.length ≤ 100000 by omega))
                · refine ⟨p, (z.length : Int) :: (L.map fun e => (wid z.length e.2 : Int)), rfl, SqL.of upd_same, Nat.succ_pos _, fun m hm low => ?_⟩
                  have s5 := ((s03.trans sa).trans s4).trans (same_new (o := .lst ([V.int (z.length : Nat)] ++ ((L.map fun e => (wid z.length e.2 : Int)).map V.int))) hp)
                  refine mk_fin XO.ox XO.no fun d hd5 => qb m hlt (fun k hk q => ?_) ⟨?_, low _ List.mem_cons_self, fun k hk => ?_⟩ _ d s5 hd5
                  · obtain ⟨e, he, rfl⟩ := brk_has hks hk
                    have : e ∈ L.filter (fitp z i) := List.mem_filter.mpr ⟨he, decide_eq_true q⟩
                    rw [nil] at this
                    cases this
                  · rcases List.mem_cons.mp hm with q | q
                    · exact .inl q
                    · obtain ⟨e, he, q2⟩ := List.mem_map.mp q
                      exact .inr ⟨e.2, brk_blank hks he, q2.symm⟩
                  · obtain ⟨e, he, rfl⟩ := brk_has hks hk
                    exact low _ (List.mem_cons_of_mem _ (List.mem_map_of_mem (f := fun e : Addr × Nat => (wid z.length e.2 : Int)) he))
            · -- the best one
              have pos : 0 < (refsOf (L.filter (fitp z i))).length := by
                refine Nat.pos_of_ne_zero fun q => k ?_
                rw [q]
                exact decide_eq_true rfl
              refine ⟨_, rfl, D, _, keyOf z (L.filter (fitp z i)), rfl, rfl, SqL.of hd, pos, fun j y hy => ?_, fun j y hy least => ?_⟩
              · obtain ⟨e, he, rfl⟩ : ∃ e, (L.filter (fitp z i))[j]? = some e ∧ y = V.ref e.1 := by
                  rw [List.getElem?_map] at hy
                  cases q : (L.filter (fitp z i))[j]? with
                  | none => rw [q] at hy; cases hy
                  | some e => rw [q] at hy; exact ⟨e, rfl, (Option.some.inj hy).symm⟩
                have hm : e ∈ L := (List.mem_filter.mp (List.mem_of_getElem? he)).1
                refine ⟨e.1, _, _, rfl, brk e hm H3 s3, lA e hm, lB e hm, ?_, rfl⟩
                rw [keyOf_at he, dif_eq (blank_lt (brk_blank hks hm))]
              · obtain ⟨e, he, rfl⟩ : ∃ e, (L.filter (fitp z i))[j]? = some e ∧ y = V.ref e.1 := by
                  rw [List.getElem?_map] at hy
                  cases q : (L.filter (fitp z i))[j]? with
                  | none => rw [q] at hy; cases hy
                  | some e => rw [q] at hy; exact ⟨e, rfl, (Option.some.inj hy).symm⟩
                have hm : e ∈ L := (List.mem_filter.mp (List.mem_of_getElem? he)).1
                exact qc e.2 hlt (best_of hks he least) H3 e.1 s03 (brk e hm H3 s3)
end
end Sea
namespace Sea
open PySem PySem.Spec PyProof.Rows L2
/-! the tape that a law draws from -/
/-- all but what stands at t is as it was -/
def KB (t : Addr) (H H' : Hp) : Prop := ∀ b o, b ≠ t → H b = some o → H' b = some o
theorem KB.refl (t : Addr) (H : Hp) : KB t H H := fun _ _ _ h => h
theorem KB.trans {t : Addr} {H H1 H2 : Hp} (a : KB t H H1) (b : KB t H1 H2) : KB t H H2 := fun c o n h => b c o n (a c o n h)
theorem KB.of_same {t : Addr} {H H' : Hp} (s : Same H H') : KB t H H' := fun b o _ h => s b o h
theorem KB.over {t : Addr} {H H' : Hp} {D : Addr} {o : HO} (k : KB t H H') (h : H D = none) : KB t H (upd H' D o) := fun b x n e => by
  rw [upd_ne (ne_of_none e h)]
  exact k b x n e
structure Tape (H : Hp) (tp cl : Addr) (ns : List Int) : Prop where
  ex : ∃ i r z c : Int, H tp = some (.lst [.ref cl, .int i, .int r, .int z, .int c]) ∧ 0 ≤ i ∧ 0 ≤ r ∧ (0 ≤ z ∧ z < 2147483647) ∧ 0 ≤ c
  cells : H cl = some (.lst (ns.map V.int))
  ne : cl ≠ tp
  nn : ∀ n ∈ ns, 0 ≤ n
theorem Tape.set {H H' : Hp} {tp cl : Addr} {ns : List Int} (T : Tape H tp cl ns) (k : KB tp H H') {i r z c : Int} (h1 : 0 ≤ i) (h2 : 0 ≤ r) (h3 : 0 ≤ z ∧ z < 2147483647) (h4 : 0 ≤ c) :
    Tape (upd H' tp (.lst [.ref cl, .int i, .int r, .int z, .int c])) tp cl ns :=
  ⟨⟨i, r, z, c, upd_same, h1, h2, h3, h4⟩, by rw [upd_ne T.ne]; exact k _ _ T.ne T.cells, T.ne, T.nn⟩
theorem KB.set {t : Addr} {H H' : Hp} {o : HO} (k : KB t H H') : KB t H (upd H' t o) := fun b x n e => by
  rw [upd_ne n]
  exact k b x n e
theorem Tape.there {H : Hp} {tp cl : Addr} {ns : List Int} (T : Tape H tp cl ns) : ∃ o, H tp = some o := let ⟨_, _, _, _, h, _⟩ := T.ex; ⟨_, h⟩
/-- something new, or something else that stands, is written -/
theorem Tape.other {H : Hp} {tp cl : Addr} {ns : List Int} (T : Tape H tp cl ns) {D : Addr} {o : HO} (h1 : tp ≠ D) (h2 : cl ≠ D) : Tape (upd H D o) tp cl ns := by
  obtain ⟨i, r, z, c, h, k1, k2, k3, k4⟩ := T.ex
  exact ⟨⟨i, r, z, c, by rw [upd_ne h1]; exact h, k1, k2, k3, k4⟩, by rw [upd_ne h2]; exact T.cells, T.ne, T.nn⟩
theorem Tape.fresh {H : Hp} {tp cl : Addr} {ns : List Int} (T : Tape H tp cl ns) {D : Addr} (h : H D = none) : tp ≠ D ∧ cl ≠ D := by
  obtain ⟨o, ho⟩ := T.there
  exact ⟨ne_of_none ho h, ne_of_none T.cells h⟩
theorem Tape.new {H : Hp} {tp cl : Addr} {ns : List Int} (T : Tape H tp cl ns) {D : Addr} {o : HO} (h : H D = none) : Tape (upd H D o) tp cl ns :=
  T.other (T.fresh h).1 (T.fresh h).2
theorem Tape.same {H H' : Hp} {tp cl : Addr} {ns : List Int} (T : Tape H tp cl ns) (s : Same H H') : Tape H' tp cl ns := by
  obtain ⟨i, r, z, c, h, k⟩ := T.ex
  exact ⟨⟨i, r, z, c, s _ _ h, k⟩, s _ _ T.cells, T.ne, T.nn⟩
def spPick : Sp := fun vs H Q _ => ∃ (tp cl : Addr) (ns : List Int) (m : Int), vs = [.ref tp, .int m] ∧ Tape H tp cl ns ∧ m < 1073741824 ∧
  ∀ H' d, KB tp H H' → Tape H' tp cl ns → 0 ≤ d → (d < m ∨ d = 0) → Q (.int d) H'
def spSome : Sp := fun vs H Q _ => ∃ (tp cl : Addr) (ns : List Int) (lo hi : Int), vs = [.ref tp, .int lo, .int hi] ∧ Tape H tp cl ns ∧ lo ≤ hi ∧ hi - lo < 1000000000 ∧
  ∀ H' d, KB tp H H' → Tape H' tp cl ns → lo ≤ d → d ≤ hi → Q (.int d) H'
theorem at_int {ns : List Int} {i : Int} (h0 : 0 ≤ i) (h1 : i < ((ns.map V.int).length : Nat)) : ∃ n, n ∈ ns ∧ atI (ns.map V.int) i = some (.int n) := by
  obtain ⟨k, rfl⟩ : ∃ k : Nat, i = (k : Int) := ⟨i.toNat, by omega⟩
  have h2 : k < ns.length := by rw [List.length_map] at h1; omega
  refine ⟨ns[k], List.getElem_mem h2, atI_nat ?_⟩
  rw [List.getElem?_map, List.getElem?_eq_getElem h2]
  rfl
theorem nz {k : Int} (h : k ≠ 0) : (fun _ j : Int => j ≠ 0) 0 k := h
section
variable {P : Program} {w : World} {K : PySem.W.Frag} {mg : Str → Option Value} {base : Heap}
theorem ok_pick {f : Addr} {fd : FuncData} (F : Fun K "_law_pick" "_law_pick" s__law_pick f fd) (m_len : mg "len" = none) (m_int : mg "int" = none) :
    FnOk P w K mg base CX0 1 f fd ["_law_tape_here", "_law_many"] spPick := by
  refine F.ok sc__law_pick (fun vs H Q E h => ?_) (fun cdv A outer s H vs Q E hr h => ?_)
  · obtain ⟨tp, cl, ns, m, rfl, _⟩ := h
    rfl
  · obtain ⟨tp, cl, ns, m, rfl, T, hm, q⟩ := h
    refine ⟨_, (pss_cons (ps_if (PW.pt (pw_or (pt_not (pt_truth (pe_ix ix_list (pv 0) (pe_int) (fun _ _ => rfl)) (by intro _; rfl))) (pw_or1 (pt_cmpR op_lt (pv 1) (pe_int) (nomark _)))))
    (pss_one (ps_ret (pe_int)))
    pss_nil)
    (C8.pss_cut (ps_if (PW.pt (pw_and (pt_cmpR op_eq (pe_ix ix_list (pv 0) (pe_int) (fun _ _ => rfl)) (pe_int) (nomark _)) (pw_and1 (pt_cmpR op_lt (pe_ix ix_list (pv 0) (pe_int) (fun _ _ => rfl)) (pe_callB call_len (by rfl) m_len (by decide +kernel) (pa_cons (pe_ix ix_list (pv 0) (pe_int) (fun _ _ => rfl)) pa_nil)) (nomark _)))))
    (pss_cons (ps_asg (pe_ix ix_list (pe_ix ix_list (pv 0) (pe_int) (fun _ _ => rfl)) (pe_ix ix_list (pv 0) (pe_int) (fun _ _ => rfl)) (fun _ _ => rfl)) (pg_sub (pv 0) (pe_int) set_list))
    (pss_cons (ps_asg (pe_op op_add (pe_ix ix_list (pv 0) (pe_int) (fun _ _ => rfl)) (pe_int)) (pg_sub (pv 0) (pe_int) set_list))
    (pss_one (ps_if (pt_cmpR op_lt (pe_ix ix_list (pv 0) (pe_int) (fun _ _ => rfl)) (pe_op op_pow (pe_int) (pe_int)) (nomark _))
    (pss_cons (ps_asg (pe_op op_modN (pe_callTy call_int1 (by rfl) m_int (by decide +kernel) (pa_cons (pe_op op_add (pe_op op_add (pe_op op_mul (pe_ix ix_list (pv 0) (pe_int) (fun _ _ => rfl)) (pe_int)) (pe_op op_mul (pe_ix ix_list (pv 0) (pe_int) (fun _ _ => rfl)) (pe_int))) (pe_int)) pa_nil)) (pe_int)) (pg_sub (pv 0) (pe_int) set_list))
    (pss_one (ps_asg (pe_int) (pg_sub (pv 0) (pe_int) set_list))))
    pss_nil))))
    pss_nil)
    (pss_cons (ps_if (pt_cmpR op_gt (pe_ix ix_list (pv 0) (pe_int) (fun _ _ => rfl)) (pe_int) (nomark _))
    (pss_cons (ps_set (i := 2) sc__law_pick.nd rfl (Or.inl rfl) (pe_op op_modN (pe_callTy call_int1 (by rfl) m_int (by decide +kernel) (pa_cons (pe_ix ix_list (pv 0) (pe_int) (fun _ _ => rfl)) pa_nil)) (pv 1)))
    (pss_cons (ps_asg (pe_op op_fdivN (pe_ix ix_list (pv 0) (pe_int) (fun _ _ => rfl)) (pv 1)) (pg_sub (pv 0) (pe_int) set_list))
    (pss_one (ps_ret (pv 2)))))
    pss_nil)
    (pss_cons (ps_asg (pe_op op_add (pe_ix ix_list (pv 0) (pe_int) (fun _ _ => rfl)) (pe_int)) (pg_sub (pv 0) (pe_int) set_list))
    (pss_cons (ps_asg (pe_op op_modN (pe_callTy call_int1 (by rfl) m_int (by decide +kernel) (pa_cons (pe_op op_add (pe_op op_add (pe_op op_mul (pe_ix ix_list (pv 0) (pe_int) (fun _ _ => rfl)) (pe_int)) (pe_op op_mul (pe_ix ix_list (pv 0) (pe_int) (fun _ _ => rfl)) (pe_int))) (pe_int)) pa_nil)) (pe_int)) (pg_sub (pv 0) (pe_int) set_list))
    (pss_cons (ps_set (i := 3) sc__law_pick.nd rfl (Or.inl rfl) (pe_op op_modN (pe_callTy call_int1 (by rfl) m_int (by decide +kernel) (pa_cons (pe_op op_add (pe_op op_mul (pe_ix ix_list (pv 0) (pe_int) (fun _ _ => rfl)) (pe_ix ix_list (pv 0) (pe_int) (fun _ _ => rfl))) (pe_op op_mul (pe_ix ix_list (pv 0) (pe_int) (fun _ _ => rfl)) (pe_int))) pa_nil)) (pe_int)))
    (pss_cons (ps_set (i := 3) sc__law_pick.nd rfl (Or.inl rfl) (pe_op op_modN (pe_callTy call_int1 (by rfl) m_int (by decide +kernel) (pa_cons (pe_op op_add (pe_op op_mul (pv 3) (pe_int)) (pe_ix ix_list (pv 0) (pe_int) (fun _ _ => rfl))) pa_nil)) (pe_int)))
    (pss_one (ps_ret (pe_op op_modN (pe_callTy call_int1 (by rfl) m_int (by decide +kernel) (pa_cons (pe_op op_fdivN (pv 3) (pe_int)) pa_nil)) (pv 1))))))))))), ?_⟩
    obtain ⟨i, r, z, c, hT, i0, r0, z0, c0⟩ := T.ex
    have hC := T.cells
    have modz : ∀ x : Int, 0 ≤ x.fmod 2147483647 ∧ x.fmod 2147483647 < 2147483647 := fun x => ⟨Int.fmod_nonneg_of_pos x (by decide), Int.fmod_lt_of_pos x (by decide)⟩
    -- if not tape[0] or many < 2
    refine ⟨_, rfl, tp, _, 0, _, rfl, rfl, SqL.of hT, atI_nat (j := 0) rfl, _, .inl ⟨_, SqL.of hC, rfl⟩, ?_⟩
    cases ns with
    | nil => exact q H 0 (KB.refl _ _) T (Int.le_refl _) (.inr rfl)
    | cons n0 nr =>
      refine ⟨_, rfl, _, _, rfl, rfl, _, rfl, ite2 (fun e => q H 0 (KB.refl _ _) T (Int.le_refl _) (.inr rfl)) (fun e => ?_)⟩
      have m2 : 2 ≤ m := by
        have : ¬ m < 2 := fun z => e (decide_eq_true z)
        omega
      have modm : ∀ x : Int, 0 ≤ x.fmod m ∧ x.fmod m < m := fun x => ⟨Int.fmod_nonneg_of_pos x (by omega), Int.fmod_lt_of_pos x (by omega)⟩
      refine ⟨fun σ' H' => σ' = [some (.ref tp), some (.int m), none, none] ∧ KB tp H H' ∧ Tape H' tp cl (n0 :: nr), ?_, ?_⟩
      · -- a new cell
        refine ⟨_, rfl, tp, _, 2, _, rfl, rfl, SqL.of hT, atI_nat (j := 2) rfl, rfl, _, rfl, ite2 (fun e1 => ?_) (fun e1 => ⟨rfl, KB.refl _ _, T⟩)⟩
        refine ⟨_, rfl, tp, _, 1, _, rfl, rfl, SqL.of hT, atI_nat (j := 1) rfl, _, rfl, tp, _, 0, _, rfl, rfl, SqL.of hT, atI_nat (j := 0) rfl, _, _, rfl, .inl ⟨_, SqL.of hC, rfl⟩, _, _, rfl, rfl, _, rfl, ite2 (fun e2 => ?_) (fun e2 => ⟨rfl, KB.refl _ _, T⟩)⟩
        obtain ⟨n, hn, ha⟩ := at_int (ns := n0 :: nr) i0 (of_decide_eq_true e2)
        have n0' := T.nn n hn
        refine ⟨_, rfl, tp, _, 0, _, rfl, rfl, SqL.of hT, atI_nat (j := 0) rfl, _, rfl, tp, _, 1, _, rfl, rfl, SqL.of hT, atI_nat (j := 1) rfl, cl, _, i, _, rfl, rfl, SqL.of hC, ha, _, rfl, tp, _, 2, 2, rfl, rfl, hT, rfl, ?_⟩
        refine ⟨_, rfl, tp, _, 1, _, rfl, rfl, SqL.of upd_same, atI_nat (j := 1) rfl, _, _, rfl, rfl, _, rfl, tp, _, 1, 1, rfl, rfl, upd_same, rfl, ?_⟩
        refine ⟨_, rfl, tp, _, 2, _, rfl, rfl, SqL.of upd_same, atI_nat (j := 2) rfl, _, _, rfl, rfl, ⟨by decide, by decide, by decide⟩, _, _, rfl, rfl, _, rfl, ite2 (fun e3 => ?_) (fun e3 => ?_)⟩
        · refine ⟨_, rfl, tp, _, 3, _, rfl, rfl, SqL.of upd_same, atI_nat (j := 3) rfl, _, _, rfl, rfl, .inr ⟨by decide, by decide⟩, _, rfl, tp, _, 2, _, rfl, rfl, SqL.of upd_same, atI_nat (j := 2) rfl, _, _, rfl, rfl, .inr ⟨by decide, by decide⟩, _, _, rfl, rfl, _, _, rfl, rfl, .inl ⟨_, rfl, _, _, rfl, rfl, (show (2147483647 : Int) ≠ 0 by decide), _, rfl, tp, _, 3, 3, rfl, rfl, upd_same, rfl, ?_⟩⟩
          refine ⟨_, rfl, tp, _, 2, 2, rfl, rfl, upd_same, rfl, rfl, ?_, ?_⟩
          · exact (((KB.refl _ _).set).set).set.set
          · exact T.set (((KB.refl _ _).set).set).set (by omega) (Int.le_refl _) (modz _) c0
        · exact ⟨rfl, ((KB.refl _ _).set).set, T.set (KB.refl _ _).set (by omega) n0' z0 c0⟩
      · rintro σ' H1 ⟨rfl, k1, T1⟩
        obtain ⟨i', r', z', c', hT', i0', r0', z0', c0'⟩ := T1.ex
        refine ⟨_, rfl, tp, _, 2, _, rfl, rfl, SqL.of hT', atI_nat (j := 2) rfl, _, _, rfl, rfl, _, rfl, ite2 (fun e1 => ?_) (fun e1 => ?_)⟩
        · refine ⟨_, rfl, tp, _, 2, _, rfl, rfl, SqL.of hT', atI_nat (j := 2) rfl, .inl ⟨_, rfl, _, rfl, _, _, rfl, rfl, by show m ≠ 0; omega, ?_⟩⟩
          refine ⟨_, rfl, tp, _, 2, _, rfl, rfl, SqL.of hT', atI_nat (j := 2) rfl, _, rfl, _, _, rfl, rfl, ⟨by omega, by omega⟩, _, rfl, tp, _, 2, 2, rfl, rfl, hT', rfl, ?_⟩
          refine ⟨_, rfl, q _ _ k1.set (T1.set (KB.refl _ _) i0' (Int.fdiv_nonneg r0' (by omega)) z0' c0') (modm _).1 (.inl (modm _).2)⟩
        · refine ⟨_, rfl, tp, _, 4, _, rfl, rfl, SqL.of hT', atI_nat (j := 4) rfl, _, _, rfl, rfl, _, rfl, tp, _, 4, 4, rfl, rfl, hT', rfl, ?_⟩
          refine ⟨_, rfl, tp, _, 3, _, rfl, rfl, SqL.of upd_same, atI_nat (j := 3) rfl, _, _, rfl, rfl, .inr ⟨by decide, by decide⟩, _, rfl, tp, _, 4, _, rfl, rfl, SqL.of upd_same, atI_nat (j := 4) rfl, _, _, rfl, rfl, .inr ⟨by decide, by decide⟩, _, _, rfl, rfl, _, _, rfl, rfl, .inl ⟨_, rfl, _, _, rfl, rfl, (show (2147483647 : Int) ≠ 0 by decide), _, rfl, tp, _, 3, 3, rfl, rfl, upd_same, rfl, ?_⟩⟩
          have mz := modz (z' * 48271 + (c' + 1) * 40692 + 5)
          refine ⟨_, rfl, tp, _, 3, _, rfl, rfl, SqL.of upd_same, atI_nat (j := 3) rfl, _, rfl, tp, _, 3, _, rfl, rfl, SqL.of upd_same, atI_nat (j := 3) rfl, _, _, rfl, rfl, .inl ⟨?_, ?_⟩, _, rfl, tp, _, 4, _, rfl, rfl, SqL.of upd_same, atI_nat (j := 4) rfl, _, _, rfl, rfl, .inr ⟨by decide, by decide⟩, _, _, rfl, rfl, .inl ⟨_, rfl, _, _, rfl, rfl, (show (2147483629 : Int) ≠ 0 by decide), ?_⟩⟩
          · exact Int.lt_of_lt_of_le (by decide) mz.1
          · exact Int.lt_trans mz.2 (by decide)
          refine ⟨_, rfl, _, _, rfl, rfl, .inr ⟨by decide, by decide⟩, _, rfl, tp, _, 3, _, rfl, rfl, SqL.of upd_same, atI_nat (j := 3) rfl, _, _, rfl, rfl, .inl ⟨_, rfl, _, _, rfl, rfl, (show (2147483587 : Int) ≠ 0 by decide), ?_⟩⟩
          refine ⟨_, rfl, _, _, rfl, rfl, ⟨by decide, by decide⟩, .inl ⟨_, rfl, _, rfl, _, _, rfl, rfl, by show m ≠ 0; omega, ?_⟩⟩
          exact q _ _ k1.set.set (T1.set (KB.refl _ _).set i0' r0' mz (by omega)) (modm _).1 (.inl (modm _).2)
theorem ok_some {f : Addr} {fd : FuncData} (F : Fun K "_law_some" "_law_some" s__law_some f fd) (c__law_pick : Cal P w K mg base 1 "_law_pick" spPick) :
    FnOk P w K mg base CX0 2 f fd ["_law_tape_here", "_law_low", "_law_high"] spSome := by
  refine F.ok sc__law_some (fun vs H Q E h => ?_) (fun cdv A outer s H vs Q E hr h => ?_)
  · obtain ⟨tp, cl, ns, lo, hi, rfl, _⟩ := h
    rfl
  · obtain ⟨tp, cl, ns, lo, hi, rfl, T, h1, h2, q⟩ := h
    refine ⟨_, (pss_one (ps_ret (pe_op op_add (pv 1) (pe_c c__law_pick hr (by decide) rfl (pa_cons (pv 0) (pa_cons (pe_op op_add (pe_op op_sub (pv 2) (pv 1)) (pe_int)) pa_nil)))))), ?_⟩
    refine ⟨_, rfl, _, rfl, _, rfl, _, rfl, _, _, rfl, rfl, _, _, rfl, rfl, tp, cl, ns, _, rfl, T, by omega, fun H' d k T' d0 d1 => ⟨_, _, rfl, rfl, q H' _ k T' ?_ ?_⟩⟩
    · omega
    · omega
end
end Sea
namespace Sea
open PySem PySem.Spec PyProof.Rows L2
/-! texts that a law draws -/
def Sgn (c : Nat) : Prop := 33 ≤ c ∧ c ≤ 126 ∧ c ≠ 37
def Wd (l : List Nat) : Prop := l ≠ [] ∧ ∀ c ∈ l, Sgn c
def flat (ws : List (List Nat)) : List Nat := ws.flatMap fun w => 32 :: w
theorem flat_nil : flat [] = [] := rfl
theorem flat_cons (w : List Nat) (r : List (List Nat)) : flat (w :: r) = 32 :: (w ++ flat r) := rfl
theorem flat_app (a b : List (List Nat)) : flat (a ++ b) = flat a ++ flat b := List.flatMap_append
theorem twin_word : ∀ (w r : List Nat), (∀ c ∈ w, c ≠ 32) → twin (w ++ r) = twin r
  | [], _, _ => rfl
  | a :: w, r, h => by
    have ha : a ≠ 32 := h a List.mem_cons_self
    have ih := twin_word w r fun c hc => h c (List.mem_cons_of_mem _ hc)
    have e : (a == 32) = false := beq_eq_false_iff_ne.mpr ha
    rw [← ih]
    show twin (a :: (w ++ r)) = twin (w ++ r)
    cases w ++ r with
    | nil => rfl
    | cons b r' =>
      show ((a == 32 && b == 32) || twin (b :: r')) = _
      rw [e]
      rfl
theorem Sgn.nb {c : Nat} (h : Sgn c) : c ≠ 32 := by have := h.1; omega
theorem twin_flat : ∀ ws : List (List Nat), (∀ w ∈ ws, Wd w) → twin (flat ws) = false
  | [], _ => rfl
  | w :: r, h => by
    have hw := h w List.mem_cons_self
    have ih := twin_flat r fun v hv => h v (List.mem_cons_of_mem _ hv)
    rw [flat_cons]
    obtain ⟨ne, hs⟩ := hw
    cases w with
    | nil => exact absurd rfl ne
    | cons b w =>
      have e : (b == 32) = false := beq_eq_false_iff_ne.mpr (hs b List.mem_cons_self).nb
      show ((32 == 32 && b == 32) || twin (b :: w ++ flat r)) = false
      rw [e, twin_word _ _ fun c hc => (hs c hc).nb, ih]
      rfl
theorem sign_flat {ws : List (List Nat)} (h : ∀ w ∈ ws, Wd w) : ∀ c ∈ flat ws, 32 ≤ c ∧ c ≤ 126 ∧ c ≠ 37 := by
  intro c hc
  obtain ⟨w, hw, q⟩ := List.mem_flatMap.mp hc
  rcases List.mem_cons.mp q with e | e
  · rw [e]; decide
  · have := (h w hw).2 c e
    exact ⟨by have := this.1; omega, this.2.1, this.2.2⟩
theorem join_cp : ∀ ws : List Str, cp (Str.join (Str.ofString " ") ws) = (flat (ws.map cp)).drop 1
  | [] => rfl
  | [x] => by
    show cp x = (flat [cp x]).drop 1
    rw [flat_cons, flat_nil, List.append_nil]
    rfl
  | x :: y :: r => by
    have ih := join_cp (y :: r)
    show cp (x ++ Str.ofString " " ++ Str.join (Str.ofString " ") (y :: r)) = _
    have e : cp (x ++ Str.ofString " " ++ Str.join (Str.ofString " ") (y :: r)) = cp x ++ cp (Str.ofString " ") ++ cp (Str.join (Str.ofString " ") (y :: r)) := by
      show ((x.cps ++ (Str.ofString " ").cps) ++ (Str.join (Str.ofString " ") (y :: r)).cps).toList = _
      rw [Array.toList_append, Array.toList_append]
    rw [e, ih, blank_cp]
    show cp x ++ [32] ++ (flat ((y :: r).map cp)).drop 1 = cp x ++ flat ((y :: r).map cp)
    rw [List.map_cons, flat_cons, List.append_assoc]
    rfl
theorem join0_cp : ∀ ws : List Str, cp (Str.join (Str.ofString "") ws) = (ws.map cp).flatten
  | [] => rfl
  | [x] => by
    show cp x = cp x ++ []
    rw [List.append_nil]
  | x :: y :: r => by
    have ih := join0_cp (y :: r)
    have z : cp (Str.ofString "") = [] := by decide +kernel
    have e : cp (x ++ Str.ofString "" ++ Str.join (Str.ofString "") (y :: r)) = cp x ++ cp (Str.ofString "") ++ cp (Str.join (Str.ofString "") (y :: r)) := by
      show ((x.cps ++ (Str.ofString "").cps) ++ (Str.join (Str.ofString "") (y :: r)).cps).toList = _
      rw [Array.toList_append, Array.toList_append]
    show cp (x ++ Str.ofString "" ++ Str.join (Str.ofString "") (y :: r)) = cp x ++ ((y :: r).map cp).flatten
    rw [e, ih, z, List.append_nil]
theorem signs_flat (cs : List Nat) : ((cs.map fun c => (⟨#[c]⟩ : Str)).map cp).flatten = cs := by
  induction cs with
  | nil => rfl
  | cons c r ih =>
    show [c] ++ ((r.map fun c => (⟨#[c]⟩ : Str)).map cp).flatten = c :: r
    rw [ih]
    rfl
theorem twin_take {l : List Nat} (n : Nat) (h : twin l = false) : twin (l.take n) = false := by
  rw [Bool.eq_false_iff] at h ⊢
  intro q
  obtain ⟨i, h1, h2⟩ := (twin_iff _).mp q
  refine h ((twin_iff _).mpr ⟨i, ?_, ?_⟩)
  · rw [List.getElem?_take] at h1
    split at h1
    · exact h1
    · cases h1
  · rw [List.getElem?_take] at h2
    split at h2
    · exact h2
    · cases h2
theorem twin_drop {l : List Nat} (n : Nat) (h : twin l = false) : twin (l.drop n) = false := by
  rw [Bool.eq_false_iff] at h ⊢
  intro q
  obtain ⟨i, h1, h2⟩ := (twin_iff _).mp q
  rw [List.getElem?_drop] at h1 h2
  exact h ((twin_iff _).mpr ⟨n + i, h1, h2⟩)
theorem strip_good {x : Str} (hl : x.length ≤ 60) (sg : ∀ c ∈ cp x, 32 ≤ c ∧ c ≤ 126 ∧ c ≠ 37) (tw : twin (cp x) = false) (nb : ∃ c ∈ cp x, c ≠ 32) :
    Good (cp (Txt.stripChars x (Str.ofString " "))) := by
  have goes : ∀ c : Nat, (Str.ofString " ").cps.contains c = (c == 32) := by
    intro c
    have e : (Str.ofString " ").cps = #[32] := by decide +kernel
    rw [e]
    by_cases h : c = 32
    · subst h
      simp
    · have : (c == 32) = false := beq_eq_false_iff_ne.mpr h
      rw [this]
      simp [h]
  unfold Txt.stripChars
  rw [stripBy_eq]
  obtain ⟨l1, l2, l3⟩ := lo_facts (Str.ofString " ").cps.contains x
  generalize hlo : stripLo (Str.ofString " ").cps.contains true x = lo at l1 l2 l3
  obtain ⟨h1, h2, h3, h4⟩ := hi_facts (Str.ofString " ").cps.contains x lo l1
  generalize hhi : stripHi (Str.ofString " ").cps.contains true x lo = hi at h1 h2 h3 h4
  have gd : ∀ k, k < x.length → (cp x)[k]? = some (x.cps.getD k 0) := by
    intro k hk
    have hk' : k < (cp x).length := by rw [cp_len]; exact hk
    rw [List.getElem?_eq_getElem hk', ← getD_list]
    simp [List.getD, List.getElem?_eq_getElem hk']
  -- lo < hi
  have lt : lo < hi := by
    refine Nat.lt_of_not_le fun hle => ?_
    obtain ⟨c, hc, hn⟩ := nb
    obtain ⟨k, hk⟩ := List.getElem?_of_mem hc
    have hkl : k < x.length := by
      have := (List.getElem?_eq_some_iff.mp hk).1
      rw [cp_len] at this
      exact this
    have e := (gd k hkl).symm.trans hk
    have e2 : x.cps.getD k 0 = c := Option.some.inj e
    rcases Nat.lt_or_ge k lo with q | q
    · have := l2 k q
      rw [goes, e2] at this
      exact hn (beq_iff_eq.mp this)
    · have := h3 k (by omega) hkl
      rw [goes, e2] at this
      exact hn (beq_iff_eq.mp this)
  have hcp : cp (Builtin.Str.strSub x lo hi) = ((cp x).drop lo).take (hi - lo) := PySem.StrLaws.strSub_toList x lo hi
  have hlen : (((cp x).drop lo).take (hi - lo)).length = hi - lo := by
    rw [List.length_take, List.length_drop, cp_len]
    omega
  have at_ : ∀ k, k < hi - lo → (((cp x).drop lo).take (hi - lo))[k]? = some (x.cps.getD (lo + k) 0) := by
    intro k hk
    rw [List.getElem?_take, if_pos hk, List.getElem?_drop]
    exact gd (lo + k) (by omega)
  rw [hcp]
  refine ⟨by rw [hlen]; omega, by rw [hlen]; omega, fun c hc => sg c (List.mem_of_mem_drop (List.mem_of_mem_take hc)), ?_, ?_, twin_take _ (twin_drop _ tw)⟩
  · rw [at_ 0 (by omega)]
    intro q
    have e : x.cps.getD (lo + 0) 0 = 32 := Option.some.inj q
    rcases l3 with z | z
    · omega
    · rw [goes, show lo = lo + 0 from rfl, e] at z
      cases z
  · rw [hlen, at_ (hi - lo - 1) (by omega)]
    intro q
    have e : x.cps.getD (lo + (hi - lo - 1)) 0 = 32 := Option.some.inj q
    rw [show lo + (hi - lo - 1) = hi - 1 by omega] at e
    rcases h4 with z | z
    · omega
    · rw [goes, e] at z
      cases z
theorem cut60 {z : Str} {i : Int} (e : i = 60) : cp (cutS z none (some i)) = (cp z).take 60 := by
  subst e
  unfold cutS
  rw [HT.sIx_none, sIxN _ _ 60 60 rfl]
  show ((cp z).drop 0).take (min 60 z.length - 0) = _
  rw [List.drop_zero, Nat.sub_zero, ← cp_len]
  exact List.take_eq_take_min.symm
theorem cut161 {z : Str} : cp (cutS z (some 1) (some 61)) = ((cp z).drop 1).take 60 := by
  unfold cutS
  rw [sIxN _ _ 1 1 rfl, sIxN _ _ 61 61 rfl]
  show ((cp z).drop (min 1 z.length)).take (min 61 z.length - min 1 z.length) = _
  rw [← cp_len]
  cases h : cp z with
  | nil => rfl
  | cons a r =>
    rw [List.length_cons, show min 1 (r.length + 1) = 1 by omega, show min 61 (r.length + 1) - 1 = min 60 r.length by omega]
    show r.take (min 60 r.length) = r.take 60
    exact (List.take_eq_take_min).symm
/-- of words, cut at 60 and stripped -/
theorem words_good {x : Str} {ws : List (List Nat)} (h : ∀ w ∈ ws, Wd w) (hne : ws ≠ []) (hx : cp x = ((flat ws).drop 1).take 60) : Good (cp (Txt.stripChars x (Str.ofString " "))) := by
  refine strip_good ?_ ?_ ?_ ?_
  · rw [← cp_len, hx, List.length_take]
    omega
  · rw [hx]
    exact fun c hc => sign_flat h c (List.mem_of_mem_drop (List.mem_of_mem_take hc))
  · rw [hx]
    exact twin_take _ (twin_drop _ (twin_flat ws h))
  · rw [hx]
    cases ws with
    | nil => exact absurd rfl hne
    | cons w r =>
      obtain ⟨ne, hs⟩ := h w List.mem_cons_self
      cases w with
      | nil => exact absurd rfl ne
      | cons b w =>
        refine ⟨b, ?_, (hs b List.mem_cons_self).nb⟩
        show b ∈ (b :: (w ++ flat r)).take 60
        exact List.mem_cons_self
theorem flat_last {ws : List (List Nat)} (h : ∀ w ∈ ws, Wd w) (hne : ws ≠ []) : (flat ws)[(flat ws).length - 1]? ≠ some 32 := by
  obtain ⟨a, w, rfl⟩ : ∃ a w, ws = a ++ [w] := ⟨ws.dropLast, ws.getLast hne, (List.dropLast_concat_getLast hne).symm⟩
  obtain ⟨ne, hs⟩ := h w (List.mem_append_right _ List.mem_cons_self)
  rw [flat_app, flat_cons, flat_nil, List.append_nil, ← List.getLast?_eq_getElem?]
  have e : flat a ++ 32 :: w = (flat a ++ [32]) ++ w := by rw [List.append_assoc]; rfl
  rw [e, List.getLast?_append]
  intro q
  cases hw : w.getLast? with
  | none => exact ne (List.getLast?_eq_none_iff.mp hw)
  | some c =>
    rw [hw] at q
    have q' : c = 32 := Option.some.inj q
    exact (hs c (List.mem_of_getLast? hw)).nb q'
theorem join_good {ws : List (List Nat)} (h : ∀ w ∈ ws, Wd w) (hne : ws ≠ []) (hl : (flat ws).length ≤ 61) : Good ((flat ws).drop 1) := by
  have hlast := flat_last h hne
  have tw := twin_flat ws h
  have sg := sign_flat h
  cases ws with
  | nil => exact absurd rfl hne
  | cons w r =>
    obtain ⟨ne, hs⟩ := h w List.mem_cons_self
    cases w with
    | nil => exact absurd rfl ne
    | cons b w =>
      have e : (flat ((b :: w) :: r)).drop 1 = b :: (w ++ flat r) := rfl
      have e2 : flat ((b :: w) :: r) = 32 :: b :: (w ++ flat r) := rfl
      rw [e2] at hl hlast tw sg
      rw [e]
      rw [List.length_cons] at hl
      refine ⟨Nat.succ_pos _, by omega, fun c hc => sg c (List.mem_cons_of_mem _ hc), ?_, ?_, ?_⟩
      · intro q
        exact (hs b List.mem_cons_self).nb (Option.some.inj q)
      · intro q
        refine hlast ?_
        rw [List.length_cons, Nat.add_sub_cancel]
        rw [List.length_cons, Nat.add_sub_cancel] at q
        rw [List.length_cons, List.getElem?_cons_succ]
        exact q
      · have := twin_drop 1 tw
        exact this
end Sea
namespace Sea
open PySem PySem.Spec PyProof.Rows L2
abbrev SG : Str := Str.ofString "abcdefghijklmnopqrstuvwxyzABCDEFGHIJKLMNOPQRSTUVWXYZ0123456789!\"#$&'()*+,-./:;<=>?\x40[\\]^_`{|}~"
theorem sg_len : SG.length = 93 := by decide +kernel
theorem sg_all : ((cp SG).all fun c => decide (33 ≤ c) && (decide (c ≤ 126) && decide (c ≠ 37))) = true := by decide +kernel
theorem sg_sgn : ∀ c ∈ cp SG, Sgn c := fun c hc => by
  have h := List.all_eq_true.mp sg_all c hc
  obtain ⟨h1, h2⟩ := Bool.and_eq_true_iff.mp h
  obtain ⟨h2, h3⟩ := Bool.and_eq_true_iff.mp h2
  exact ⟨of_decide_eq_true h1, of_decide_eq_true h2, of_decide_eq_true h3⟩
theorem sg_line : SG.length ≤ sizeLine := by
  rw [sg_len]
  decide
theorem sg_at {d : Int} (h0 : 0 ≤ d) (h1 : d < (SG.length : Int) ∨ d = 0) : ∃ c, atI (cp SG) d = some c ∧ Sgn c := by
  obtain ⟨k, rfl⟩ : ∃ k : Nat, d = (k : Int) := ⟨d.toNat, by omega⟩
  have hk : k < (cp SG).length := by
    rw [cp_len, sg_len]
    rw [sg_len] at h1
    omega
  exact ⟨(cp SG)[k], atI_nat (List.getElem?_eq_getElem hk), sg_sgn _ (List.getElem_mem hk)⟩
def spTape (K : PySem.W.Frag) : Sp := fun vs H Q _ => ∃ (a : Addr) (ns : List Int), vs = [.ref a] ∧ SqL K H a (ns.map V.int) ∧ ns.length ≤ 63 ∧
  ∀ H' tp cl ns', Same H H' → Tape H' tp cl ns' → Q (.ref tp) H'
def spText : Sp := fun vs H Q _ => ∃ (tp cl : Addr) (ns : List Int) (most : Int), vs = [.ref tp, .int most] ∧ Tape H tp cl ns ∧ 1 ≤ most ∧ most ≤ 1000 ∧
  ∀ H' z, KB tp H H' → Tape H' tp cl ns → Good (cp z) → Q (.str z) H'
def spWide : Sp := fun vs H Q _ => ∃ (tp cl : Addr) (ns : List Int), vs = [.ref tp] ∧ Tape H tp cl ns ∧
  ∀ H' z, KB tp H H' → Tape H' tp cl ns → Good (cp z) → Q (.str z) H'
theorem sum_ones (cs : List Nat) : ((cs.map fun c => (⟨#[c]⟩ : Str)).map (·.length)).sum = cs.length := by
  induction cs with
  | nil => rfl
  | cons c r ih =>
    rw [List.map_cons, List.map_cons, List.sum_cons, ih, List.length_cons]
    show 1 + r.length = r.length + 1
    omega
theorem sum_le {ws : List Str} {n : Nat} (h : ∀ w ∈ ws, w.length ≤ n) : (ws.map (·.length)).sum ≤ ws.length * n := by
  induction ws with
  | nil => exact Nat.zero_le _
  | cons w r ih =>
    have h1 := h w List.mem_cons_self
    have h2 := ih fun v hv => h v (List.mem_cons_of_mem _ hv)
    rw [List.map_cons, List.sum_cons, List.length_cons, Nat.succ_mul]
    omega
theorem flat_len (ws : List (List Nat)) : (flat ws).length = (ws.map (·.length)).sum + ws.length := by
  induction ws with
  | nil => rfl
  | cons w r ih =>
    rw [flat_cons, List.length_cons, List.length_append, ih, List.map_cons, List.sum_cons, List.length_cons]
    omega
/-- the word that signs make -/
theorem word_cp (cs : List Nat) : cp (Txt.join (Str.ofString "") (cs.map fun c => (⟨#[c]⟩ : Str))) = cs := by
  rw [TL.join_eq, join0_cp, signs_flat]
section
variable {P : Program} {w : World} {K : PySem.W.Frag} {mg : Str → Option Value} {base : Heap}
theorem ok_tape {f : Addr} {fd : FuncData} (F : Fun K "_law_tape" "_law_tape" s__law_tape f fd) (m_abs : mg "abs" = none) (m_int : mg "int" = none) :
    FnOk P w K mg base CX0 1 f fd ["_law_script"] (spTape K) := by
  refine F.ok sc__law_tape (fun vs H Q E h => ?_) (fun cdv A outer s H vs Q E hr h => ?_)
  · obtain ⟨a, ns, rfl, _⟩ := h
    rfl
  · obtain ⟨a, ns, rfl, hS, hlen, q⟩ := h
    refine ⟨_, (pss_cons (ps_setLc (i := 1) (own := [("_law_cell", 2)]) rfl sc__law_tape.nd rfl rfl (sw_true rfl rfl rfl (by decide +kernel)) (pi_list (pv 0)) (blkOk_by (N := N__law_tape) (sc := defScope s__law_tape) (by decide +kernel)) (fun _ _ _ _ _ => (pg_name (i := 2) sc__law_tape.nd rfl (Or.inl rfl))) (fun _ _ _ _ _ => pts_nil) (fun _ _ _ _ _ => (pe_op op_modN (pe_callB call_abs (by rfl) m_abs (by decide +kernel) (pa_cons (pe_callTy call_int1 (by rfl) m_int (by decide +kernel) (pa_cons (pv 2) pa_nil)) pa_nil)) (pe_op op_powB (pe_op op_pow (pe_int) (pe_int)) (pe_int)))))
    (pss_one (ps_ret (pe_lst (pa_cons (pv 1) (pa_cons (pe_int) (pa_cons (pe_int) (pa_cons (pe_int) (pa_cons (pe_int) pa_nil))))))))), ?_⟩
    refine ⟨_, rfl, a, rfl, ⟨_, hS⟩, fun D hD => ?_⟩
    refine lc_list (K := K) (a := a) (xs := ns.map V.int) (fun j H' => Same H H' ∧ ∃ ms : List Int, H' D = some (.lst (ms.map V.int)) ∧ ms.length = j ∧ ∀ n ∈ ms, 0 ≤ n) ⟨same_new hD, [], upd_same, rfl, fun _ h => nomatch h⟩ (fun j H' _ hq => hq.1.seq hS) ?_ ?_
    · rintro j y H' hy ⟨hs, ms, hd, hm, hn⟩
      obtain ⟨n, hn', rfl⟩ : ∃ n, ns[j]? = some n ∧ y = V.int n := by
        rw [List.getElem?_map] at hy
        cases qq : ns[j]? with
        | none => rw [qq] at hy; cases hy
        | some n => rw [qq] at hy; exact ⟨n, rfl, (Option.some.inj hy).symm⟩
      have hj : j < ns.length := (List.getElem?_eq_some_iff.mp hn').1
      refine ⟨rfl, _, rfl, .inl ⟨_, rfl, _, rfl, _, _, rfl, rfl, ⟨by decide, by decide, by decide⟩, _, _, rfl, rfl, ⟨by decide, by decide +kernel⟩, _, _, rfl, rfl, ?_, _, hd, ?_, same_over hs hD, ms ++ [(if n < 0 then -n else n).fmod ((10 ^ (60 : Int).toNat) ^ (20 : Int).toNat)], ?_, ?_, ?_⟩⟩
      · show ((10 ^ (60 : Int).toNat) ^ (20 : Int).toNat : Int) ≠ 0
        decide +kernel
      · rw [List.length_map]
        exact small_line (by omega)
      · rw [upd_same, List.map_append]
        rfl
      · rw [List.length_append, hm]
        rfl
      · intro m hm'
        rcases List.mem_append.mp hm' with h | h
        · exact hn m h
        · rw [List.mem_singleton.mp h]
          exact Int.fmod_nonneg_of_pos _ (by decide +kernel)
    · rintro H' ⟨hs, ms, hd, hm, hn⟩
      refine ⟨_, rfl, (by show 5 ≤ sizeLine; decide), fun p hp => ?_⟩
      have ne : D ≠ p := ne_of_none hd hp
      exact q _ p D ms (hs.trans (same_new hp)) ⟨⟨0, 0, 7, 0, upd_same, by decide, by decide, ⟨by decide, by decide⟩, by decide⟩, by rw [upd_ne ne]; exact hd, ne, hn⟩
theorem ok_text {f : Addr} {fd : FuncData} (F : Fun K "_law_text" "_law_text" s__law_text f fd) (m_range : mg "range" = none) (m_len : mg "len" = none)
    (c__law_pick : Cal P w K mg base 1 "_law_pick" spPick) (c__law_some : Cal P w K mg base 2 "_law_some" spSome) : FnOk P w K mg base CX0 3 f fd ["_law_tape_here", "_law_most"] spText := by
  refine F.ok sc__law_text (fun vs H Q E h => ?_) (fun cdv A outer s H vs Q E hr h => ?_)
  · obtain ⟨tp, cl, ns, most, rfl, _⟩ := h
    rfl
  · obtain ⟨tp, cl, ns, most, rfl, T, h1, h2, q⟩ := h
    refine ⟨_, (pss_cons (ps_set (i := 2) sc__law_text.nd rfl (Or.inr rfl) (pe_str))
    (pss_cons (ps_set (i := 3) sc__law_text.nd rfl (Or.inl rfl) (pe_lst pa_nil))
    (pss_cons (ps_for PassesOwn.never rfl (pi_range1 (by rfl) m_range (pa_cons (pe_c c__law_some hr (by decide) rfl (pa_cons (pv 0) (pa_cons (pe_int) (pa_cons (pv 1) pa_nil)))) pa_nil)) (pg_name (i := 4) sc__law_text.nd rfl (Or.inl rfl))
    (pss_one (ps_expr (pe_bm PySem.F.plainAttrs_list PySem.F.slot_list_append PySem.F.type_list_append mt_append (pv 3) (pa_cons (pe_join (pe_str) (pe_lc (own := [("_law_at", 5)]) rfl sc__law_text.nd (pi_range1 (by rfl) m_range (pa_cons (pe_c c__law_some hr (by decide) rfl (pa_cons (pv 0) (pa_cons (pe_int) (pa_cons (pe_int) pa_nil)))) pa_nil)) (blkOk_by (N := N__law_text) (sc := defScope s__law_text) (by decide +kernel)) (fun _ _ _ _ _ => (pg_name (i := 5) sc__law_text.nd rfl (Or.inl rfl))) (fun _ _ _ _ _ => pts_nil) (fun _ _ _ _ _ => (pe_ix ix_str (pv 2) (pe_c c__law_pick hr (by decide) rfl (pa_cons (pv 0) (pa_cons (pe_callB call_len_str (by rfl) m_len (by decide +kernel) (pa_cons (pv 2) pa_nil)) pa_nil))) (fun _ _ => rfl))))) pa_nil)))))
    (pss_one (ps_ret (pe_bm PySem.F.plainAttrs_str PySem.F.slot_str_strip PySem.F.type_str_strip mt_stripChars (pe_slice sl_str (pe_join (pe_str) (pv 3)) po_none (po_some (pe_int))) (pa_cons (pe_str) pa_nil))))))), ?_⟩
    refine ⟨Nat.zero_le _, fun wl hwl => ?_⟩
    have T0 : Tape (upd H wl (.lst [])) tp cl ns := T.new hwl
    obtain ⟨nt, nc⟩ := T.fresh hwl
    refine ⟨_, rfl, _, rfl, tp, cl, ns, 1, most, rfl, T0, h1, by omega, fun H1 d k1 T1 d0 d1 => ⟨d, rfl, by omega, by omega, ?_⟩⟩
    have hw1 : H1 wl = some (.lst []) := k1 wl _ nt.symm upd_same
    have k01 : KB tp H H1 := fun b o n e => k1 b o n (by rw [upd_ne (ne_of_none e hwl)]; exact e)
    refine for_it (walk_range (lo := 0) (n := d.toNat)) (fun i σ H' => ∃ k4, σ = [some (.ref tp), some (.int most), some (.str SG), some (.ref wl), k4, none] ∧ KB tp H H' ∧ Tape H' tp cl ns ∧
      ∃ ws : List Str, H' wl = some (.lst (ws.map V.str)) ∧ ws.length = i ∧ ∀ v ∈ ws, Wd (cp v) ∧ v.length ≤ 6) ⟨none, rfl, k01, T1, [], hw1, rfl, fun _ h => nomatch h⟩ (fun _ _ _ _ _ => trivial) ?_ ?_
    · rintro i x σ Ha Hb hi ⟨k4, rfl, ka, Ta, ws, hw, hwl', hwd⟩ ⟨rfl, rfl⟩
      refine ⟨_, rfl, .inl ⟨rfl, _, SqL.of hw⟩, ⟨_, rfl⟩, _, rfl, tp, cl, ns, 1, 6, rfl, Ta, by decide, by decide, fun Hc d2 kc Tc e0 e1 => ⟨d2, rfl, by omega, by omega, fun D hD => ?_⟩⟩
      have hwc : Hc wl = some (.lst (ws.map V.str)) := kc wl _ nt.symm hw
      have nD := Tc.fresh hD
      refine lc_range (lo := 0) (n := d2.toNat) (fun j H' => KB tp Hc H' ∧ Tape H' tp cl ns ∧ ∃ cs : List Nat, H' D = some (.lst ((cs.map fun c => (⟨#[c]⟩ : Str)).map V.str)) ∧ cs.length = j ∧ ∀ c ∈ cs, Sgn c)
        ⟨(KB.refl _ _).over hD, Tc.new hD, [], upd_same, rfl, fun _ h => nomatch h⟩ ?_ ?_
      · rintro j H' hj ⟨kj, Tj, cs, hd, hcl, hcs⟩
        refine ⟨rfl, _, rfl, _, rfl, _, rfl, SG, rfl, sg_line, tp, cl, ns, _, rfl, Tj, (by rw [sg_len]; decide), fun H3 d3 k3 T3 p0 p1 => ?_⟩
        obtain ⟨c, hc, hsg⟩ := sg_at p0 p1
        have hd3 : H3 D = some (.lst ((cs.map fun c => (⟨#[c]⟩ : Str)).map V.str)) := k3 D _ nD.1.symm hd
        refine ⟨SG, d3, c, rfl, rfl, sg_line, hc, _, hd3, ?_, (kj.trans k3).over hD, T3.other nD.1 nD.2, cs ++ [c], ?_, ?_, ?_⟩
        · rw [List.length_map, List.length_map]
          exact small_line (by omega)
        · rw [upd_same, List.map_append, List.map_append]
          rfl
        · rw [List.length_append, hcl]
          rfl
        · intro c' hc'
          rcases List.mem_append.mp hc' with h | h
          · exact hcs c' h
          · rw [List.mem_singleton.mp h]
            exact hsg
      · rintro H' ⟨kj, Tj, cs, hd, hcl, hcs⟩
        have hw' : H' wl = some (.lst (ws.map V.str)) := kj wl _ nt.symm hwc
        refine ⟨_, D, _, rfl, rfl, .inl (SqL.of hd), ?_, wl, _, _, rfl, rfl, hw', ?_, _, rfl, ?_, Tj.other nt nc, ws ++ [Txt.join (Str.ofString "") (cs.map fun c => (⟨#[c]⟩ : Str))], ?_, ?_, ?_⟩
        · rw [sum_ones, List.length_map]
          have : (Str.ofString "").length = 0 := by decide +kernel
          rw [this]
          omega
        · rw [List.length_map, hwl']
          exact small_line (by omega)
        · exact fun b o n e => by
            rw [upd_ne (ne_of_none e hwl)]
            exact kj b o n (kc b o n (ka b o n e))
        · rw [upd_same, List.map_append]
          rfl
        · rw [List.length_append, hwl']
          rfl
        · intro v hv
          rcases List.mem_append.mp hv with h | h
          · exact hwd v h
          · rw [List.mem_singleton.mp h, word_cp]
            refine ⟨⟨fun e => ?_, hcs⟩, ?_⟩
            · rw [e] at hcl
              have : d2.toNat = 0 := hcl.symm
              omega
            · rw [← cp_len, word_cp, hcl]
              omega
    · rintro σ H' ⟨k4, rfl, ka, Ta, ws, hw, hwl', hwd⟩
      have hn : ws.length ≤ 1000 := by omega
      have hsum : (ws.map (·.length)).sum ≤ 6000 := Nat.le_trans (sum_le (n := 6) fun v hv => (hwd v hv).2) (by omega)
      have hflat : (flat (ws.map cp)).length ≤ 7000 := by
        rw [flat_len]
        have e : (ws.map cp).map (·.length) = ws.map (·.length) := by
          rw [List.map_map]
          exact List.map_congr_left fun v _ => cp_len v
        rw [e, List.length_map]
        omega
      have hW : ∀ v ∈ ws.map cp, Wd v := fun v hv => by
        obtain ⟨u, hu, rfl⟩ := List.mem_map.mp hv
        exact (hwd u hu).1
      have hne : ws.map cp ≠ [] := fun e => by
        have := congrArg List.length e
        rw [List.length_map, hwl'] at this
        have : d.toNat = 0 := this
        omega
      have hj : cp (Txt.join (Str.ofString " ") ws) = (flat (ws.map cp)).drop 1 := by rw [TL.join_eq, join_cp]
      have hc : cp (cutS (Txt.join (Str.ofString " ") ws) none (some 60)) = ((flat (ws.map cp)).drop 1).take 60 := by rw [cut60 rfl, hj]
      refine ⟨⟨_, rfl⟩, _, rfl, _, wl, ws, rfl, rfl, .inl (SqL.of hw), ?_, _, rfl, _, rfl, ?_, rfl, _, _, rfl, rfl, ?_, q H' _ ka Ta (words_good hW hne hc)⟩
      · have : (Str.ofString " ").length = 1 := by decide +kernel
        rw [this]
        omega
      · rw [← cp_len, hj, List.length_drop]
        exact Nat.le_of_lt (small_line (by omega))
      · rw [← cp_len, hc, List.length_take]
        exact Nat.le_of_lt (small_line (by omega))
end
end Sea
namespace Sea
open PySem PySem.Spec PyProof.Rows L2
theorem flat_one (l : List Nat) : (flat [l]).drop 1 = l := by
  rw [flat_cons, flat_nil, List.append_nil]
  rfl
theorem good_word {l : List Nat} (h : Wd l) (hl : l.length ≤ 60) : Good l := by
  have g := join_good (ws := [l]) (fun w hw => by rw [List.mem_singleton.mp hw]; exact h) (by simp) (by rw [flat_len]; simp; omega)
  rw [flat_one] at g
  exact g
theorem sg_take {d : Int} (h1 : 1 ≤ d) (h2 : d ≤ 60) : cp (cutS SG none (some d)) = (cp SG).take d.toNat ∧ Wd ((cp SG).take d.toNat) ∧ ((cp SG).take d.toNat).length = d.toNat := by
  obtain ⟨k, rfl⟩ : ∃ k : Nat, d = (k : Int) := ⟨d.toNat, by omega⟩
  have hl : (cp SG).length = 93 := by rw [cp_len, sg_len]
  refine ⟨?_, ⟨fun e => ?_, fun c hc => sg_sgn c (List.mem_of_mem_take hc)⟩, ?_⟩
  · rw [cutS_to (k := k) rfl (by rw [sg_len]; omega)]
    rfl
  · have := congrArg List.length e
    rw [List.length_take, hl, Int.toNat_natCast] at this
    have : min k 93 = 0 := this
    omega
  · rw [List.length_take, hl]
    omega
theorem rep_flat (n : Nat) (v : V) : (List.replicate n [v]).flatten = List.replicate n v := by
  induction n with
  | zero => rfl
  | succ n ih =>
    rw [List.replicate_succ, List.flatten_cons, ih, List.replicate_succ]
    rfl
theorem rep_sum (n : Nat) (z : Str) : ((List.replicate n z).map (·.length)).sum = n * z.length := by
  induction n with
  | zero => simp
  | succ n ih =>
    rw [List.replicate_succ, List.map_cons, List.sum_cons, ih, Nat.succ_mul]
    omega
theorem flat_rep_len (n : Nat) (l : List Nat) : (flat (List.replicate n l)).length = n * (l.length + 1) := by
  induction n with
  | zero => simp [flat]
  | succ n ih =>
    rw [List.replicate_succ, flat_cons, List.length_cons, List.length_append, ih, Nat.succ_mul]
    omega
section
variable {P : Program} {w : World} {K : PySem.W.Frag} {mg : Str → Option Value} {base : Heap}
theorem ok_wide_text {f : Addr} {fd : FuncData} (F : Fun K "_law_wide_text" "_law_wide_text" s__law_wide_text f fd) (m_range : mg "range" = none) (m_len : mg "len" = none)
    (c__law_pick : Cal P w K mg base 1 "_law_pick" spPick) (c__law_some : Cal P w K mg base 2 "_law_some" spSome) (c__law_text : Cal P w K mg base 3 "_law_text" spText) :
    FnOk P w K mg base CX0 4 f fd ["_law_tape_here"] spWide := by
  refine F.ok sc__law_wide_text (fun vs H Q E h => ?_) (fun cdv A outer s H vs Q E hr h => ?_)
  · obtain ⟨tp, cl, ns, rfl, _⟩ := h
    rfl
  · obtain ⟨tp, cl, ns, rfl, T, q⟩ := h
    refine ⟨_, (pss_cons (ps_set (i := 1) sc__law_wide_text.nd rfl (Or.inr rfl) (pe_str))
    (pss_cons (ps_set (i := 2) sc__law_wide_text.nd rfl (Or.inl rfl) (pe_c c__law_pick hr (by decide) rfl (pa_cons (pv 0) (pa_cons (pe_int) pa_nil))))
    (pss_cons (ps_if (pt_cmpR op_eq (pv 2) (pe_int) (nomark _))
    (pss_one (ps_ret (pe_c c__law_text hr (by decide) rfl (pa_cons (pv 0) (pa_cons (pe_int) pa_nil)))))
    pss_nil)
    (pss_cons (ps_if (pt_cmpR op_eq (pv 2) (pe_int) (nomark _))
    (pss_cons (ps_set (i := 3) sc__law_wide_text.nd rfl (Or.inl rfl) (pe_str))
    (pss_cons (ps_for PassesOwn.never rfl (pi_range1 (by rfl) m_range (pa_cons (pe_c c__law_some hr (by decide) rfl (pa_cons (pv 0) (pa_cons (pe_int) (pa_cons (pe_int) pa_nil)))) pa_nil)) (pg_name (i := 4) sc__law_wide_text.nd rfl (Or.inl rfl))
    (pss_cons (ps_set (i := 5) sc__law_wide_text.nd rfl (Or.inl rfl) (pe_c c__law_some hr (by decide) rfl (pa_cons (pv 0) (pa_cons (pe_int) (pa_cons (pe_ix ix_list (pe_lst (pa_cons (pe_int) (pa_cons (pe_int) (pa_cons (pe_int) pa_nil)))) (pe_c c__law_pick hr (by decide) rfl (pa_cons (pv 0) (pa_cons (pe_int) pa_nil))) (fun _ _ => rfl)) pa_nil)))))
    (pss_one (ps_if (pt_cmpR op_lt (pe_callB call_len (by rfl) m_len (by decide +kernel) (pa_cons (pv 3) pa_nil)) (pe_int) (nomark _))
    (pss_one (ps_set (i := 3) sc__law_wide_text.nd rfl (Or.inl rfl) (pe_op op_add_str (pe_op op_add_str (pv 3) (pe_str)) (pe_join (pe_str) (pe_lc (own := [("_law_at", 7)]) rfl sc__law_wide_text.nd (pi_range1 (by rfl) m_range (pa_cons (pv 5) pa_nil)) (blkOk_by (N := N__law_wide_text) (sc := defScope s__law_wide_text) (by decide +kernel)) (fun _ _ _ _ _ => (pg_name (i := 7) sc__law_wide_text.nd rfl (Or.inl rfl))) (fun _ _ _ _ _ => pts_nil) (fun _ _ _ _ _ => (pe_ix ix_str (pv 1) (pe_c c__law_pick hr (by decide) rfl (pa_cons (pv 0) (pa_cons (pe_callB call_len_str (by rfl) m_len (by decide +kernel) (pa_cons (pv 1) pa_nil)) pa_nil))) (fun _ _ => rfl))))))))
    pss_nil))))
    (pss_one (ps_ret (pe_bm PySem.F.plainAttrs_str PySem.F.slot_str_strip PySem.F.type_str_strip mt_stripChars (pe_slice sl_str (pv 3) (po_some (pe_int)) (po_some (pe_int))) (pa_cons (pe_str) pa_nil))))))
    pss_nil)
    (pss_cons (ps_if (pt_cmpR op_eq (pv 2) (pe_int) (nomark _))
    (pss_cons (ps_set (i := 6) sc__law_wide_text.nd rfl (Or.inl rfl) (pe_slice sl_str (pv 1) po_none (po_some (pe_c c__law_some hr (by decide) rfl (pa_cons (pv 0) (pa_cons (pe_int) (pa_cons (pe_int) pa_nil)))))))
    (pss_one (ps_ret (pe_join (pe_str) (pe_op op_rep (pe_lst (pa_cons (pv 6) pa_nil)) (pe_c c__law_some hr (by decide) rfl (pa_cons (pv 0) (pa_cons (pe_int) (pa_cons (pe_op op_fdivN (pe_int) (pe_op op_add (pe_callB call_len (by rfl) m_len (by decide +kernel) (pa_cons (pv 6) pa_nil)) (pe_int))) pa_nil)))))))))
    pss_nil)
    (pss_one (ps_ret (pe_slice sl_str (pv 1) po_none (po_some (pe_c c__law_some hr (by decide) rfl (pa_cons (pv 0) (pa_cons (pe_int) (pa_cons (pe_int) pa_nil))))))))))))), ?_⟩
    refine ⟨_, rfl, tp, cl, ns, 4, rfl, T, by decide, fun H1 d k1 T1 d0 d1 => ?_⟩
    refine ⟨_, rfl, rfl, _, rfl, ite2 (fun _ => ?_) (fun _ => ?_)⟩
    · -- words of one to six signs
      exact ⟨_, rfl, tp, cl, ns, 30, rfl, T1, by decide, by decide, fun H2 z k2 T2 g => q H2 z (k1.trans k2) T2 g⟩
    refine ⟨_, rfl, rfl, _, rfl, ite2 (fun _ => ?_) (fun _ => ?_)⟩
    · -- words of any numbers of signs
      refine ⟨_, rfl, tp, cl, ns, 1, 30, rfl, T1, by decide, by decide, fun H2 n k2 T2 n0 n1 => ⟨n, rfl, by omega, by omega, ?_⟩⟩
      refine for_it (walk_range (lo := 0) (n := n.toNat)) (fun i σ H' => ∃ k4 k5 zt, σ = [some (.ref tp), some (.str SG), some (.int d), some (.str zt), k4, k5, none, none] ∧ KB tp H H' ∧ Tape H' tp cl ns ∧
        zt.length ≤ 200 ∧ ∃ ws : List (List Nat), cp zt = flat ws ∧ (∀ v ∈ ws, Wd v) ∧ (1 ≤ i → ws ≠ [])) ⟨none, none, _, rfl, k1.trans k2, T2, by decide +kernel, [], by decide +kernel, (fun _ h => nomatch h), fun h => absurd h (by decide)⟩ (fun _ _ _ _ _ => trivial) ?_ ?_
      · rintro i x σ Ha Hb hi ⟨k4, k5, zt, rfl, ka, Ta, hz, ws, hc, hw, hne⟩ ⟨rfl, rfl⟩
        -- many = some(tape, 1, [9, 30, 60][pick(tape, 3)])
        refine ⟨_, rfl, (by show 3 ≤ sizeLine; decide), fun a ha => ?_⟩
        have Tn := Ta.new (o := .lst [.int 9, .int 30, .int 60]) ha
        obtain ⟨na, _⟩ := Ta.fresh ha
        refine ⟨_, rfl, tp, cl, ns, 3, rfl, Tn, by decide, fun H3 e k3 T3 e0 e1 => ?_⟩
        have h3a : H3 a = some (.lst ([9, 30, 60].map V.int)) := k3 a _ na.symm upd_same
        obtain ⟨m, hm, hat⟩ := at_int (ns := [9, 30, 60]) e0 (by rcases e1 with h | h <;> simp <;> omega)
        have hm1 : 1 ≤ m ∧ m ≤ 60 := by
          rcases List.mem_cons.mp hm with h | h
          · omega
          · rcases List.mem_cons.mp h with h | h
            · omega
            · rw [List.mem_singleton.mp h]; decide
        refine ⟨a, _, e, _, rfl, rfl, SqL.of h3a, hat, tp, cl, ns, 1, m, rfl, T3, hm1.1, by omega, fun H4 g k4' T4 g0 g1 => ?_⟩
        have k34 : KB tp Hb H4 := ((KB.refl tp Hb).over ha).trans (k3.trans k4')
        refine ⟨_, rfl, _, zt.length, rfl, ⟨Nat.le_of_lt (small1000 (by omega)), rfl⟩, _, _, rfl, rfl, _, rfl, ite2 (fun hlt => ?_) (fun hge => ?_)⟩
        · have hlt' : zt.length < 60 := by have : ((zt.length : Nat) : Int) < 60 := of_decide_eq_true hlt; omega
          have b1 : (Str.ofString " ").length = 1 := by decide +kernel
          refine ⟨_, rfl, _, _, rfl, rfl, ?_, ⟨_, rfl⟩, _, rfl, g, rfl, by omega, by omega, fun D hD => ?_⟩
          · rw [b1]
            exact Nat.le_of_lt (small1000 (by omega))
          have nD := T4.fresh hD
          refine lc_range (lo := 0) (n := g.toNat) (fun j H' => KB tp H4 H' ∧ Tape H' tp cl ns ∧ ∃ cs : List Nat, H' D = some (.lst ((cs.map fun c => (⟨#[c]⟩ : Str)).map V.str)) ∧ cs.length = j ∧ ∀ c ∈ cs, Sgn c)
            ⟨(KB.refl _ _).over hD, T4.new hD, [], upd_same, rfl, fun _ h => nomatch h⟩ ?_ ?_
          · rintro j H' hj ⟨kj, Tj, cs, hd, hcl, hcs⟩
            refine ⟨rfl, _, rfl, _, rfl, _, rfl, SG, rfl, sg_line, tp, cl, ns, _, rfl, Tj, (by rw [sg_len]; decide), fun H5 d3 k5' T5 p0 p1 => ?_⟩
            obtain ⟨c, hc, hsg⟩ := sg_at p0 p1
            have hd3 : H5 D = some (.lst ((cs.map fun c => (⟨#[c]⟩ : Str)).map V.str)) := k5' D _ nD.1.symm hd
            refine ⟨SG, d3, c, rfl, rfl, sg_line, hc, _, hd3, ?_, (kj.trans k5').over hD, T5.other nD.1 nD.2, cs ++ [c], ?_, ?_, ?_⟩
            · rw [List.length_map, List.length_map]
              exact small_line (by omega)
            · rw [upd_same, List.map_append, List.map_append]
              rfl
            · rw [List.length_append, hcl]
              rfl
            · intro c' hc'
              rcases List.mem_append.mp hc' with h | h
              · exact hcs c' h
              · rw [List.mem_singleton.mp h]
                exact hsg
          · rintro H' ⟨kj, Tj, cs, hd, hcl, hcs⟩
            have b0 : (Str.ofString "").length = 0 := by decide +kernel
            have lj : (Txt.join (Str.ofString "") (cs.map fun c => (⟨#[c]⟩ : Str))).length = cs.length := by rw [← cp_len, word_cp]
            have la : (zt ++ Str.ofString " ").length = zt.length + 1 := by
              show (zt.cps ++ (Str.ofString " ").cps).size = _
              rw [Array.size_append]
              exact congrArg (zt.length + ·) b1
            refine ⟨_, D, _, rfl, rfl, .inl (SqL.of hd), ?_, _, _, rfl, rfl, ?_, _, _, _, rfl, (ka.trans k34).trans kj, Tj, ?_, ws ++ [cs], ?_, ?_, ?_⟩
            · rw [sum_ones, List.length_map, b0]
              omega
            · rw [la, lj]
              exact Nat.le_of_lt (small1000 (by omega))
            · have e : (zt ++ Str.ofString " " ++ Txt.join (Str.ofString "") (cs.map fun c => (⟨#[c]⟩ : Str))).length = (zt.length + 1) + cs.length := by
                show ((zt ++ Str.ofString " ").cps ++ (Txt.join (Str.ofString "") (cs.map fun c => (⟨#[c]⟩ : Str))).cps).size = _
                rw [Array.size_append]
                exact congr (congrArg HAdd.hAdd la) lj
              rw [e]
              omega
            · have e : cp (zt ++ Str.ofString " " ++ Txt.join (Str.ofString "") (cs.map fun c => (⟨#[c]⟩ : Str))) = cp zt ++ cp (Str.ofString " ") ++ cp (Txt.join (Str.ofString "") (cs.map fun c => (⟨#[c]⟩ : Str))) := by
                show ((zt.cps ++ (Str.ofString " ").cps) ++ (Txt.join (Str.ofString "") (cs.map fun c => (⟨#[c]⟩ : Str))).cps).toList = _
                rw [Array.toList_append, Array.toList_append]
              rw [e, word_cp, hc, blank_cp, flat_app, flat_cons, flat_nil, List.append_nil, List.append_assoc]
              rfl
            · intro v hv
              rcases List.mem_append.mp hv with h | h
              · exact hw v h
              · rw [List.mem_singleton.mp h]
                refine ⟨fun e => ?_, hcs⟩
                rw [e] at hcl
                have : g.toNat = 0 := hcl.symm
                omega
            · intro _ e
              exact absurd e (by simp)
        · refine ⟨_, _, zt, rfl, ka.trans k34, T4, hz, ws, hc, hw, fun _ e => ?_⟩
          have hl0 : zt.length = 0 := by
            rw [← cp_len, hc, e]
            rfl
          have : ¬ ((zt.length : Nat) : Int) < 60 := fun h => hge (decide_eq_true h)
          omega
      · rintro σ H' ⟨k4, k5, zt, rfl, ka, Ta, hz, ws, hc, hw, hne⟩
        have hc2 : cp (cutS zt (some 1) (some 61)) = ((flat ws).drop 1).take 60 := by rw [cut161, hc]
        refine ⟨_, rfl, _, rfl, _, rfl, _, rfl, Nat.le_of_lt (small1000 (by omega)), rfl, _, _, rfl, rfl, ?_, q H' _ ka Ta (words_good hw (hne (by omega)) hc2)⟩
        rw [← cp_len, hc2, List.length_take]
        exact Nat.le_of_lt (small_line (by omega))
    refine ⟨_, rfl, rfl, _, rfl, ite2 (fun _ => ?_) (fun _ => ?_)⟩
    · -- one word again and again
      refine ⟨_, rfl, _, rfl, tp, cl, ns, 1, 9, rfl, T1, by decide, by decide, fun H2 n k2 T2 n0 n1 => ⟨n, rfl, SG, rfl, sg_line, ?_⟩⟩
      obtain ⟨w1, w2, w3⟩ := sg_take n0 (by omega)
      have wl : (cutS SG none (some n)).length = n.toNat := by rw [← cp_len, w1, w3]
      refine ⟨⟨_, rfl⟩, _, rfl, (by show 1 ≤ sizeLine; decide), fun a ha => ?_⟩
      have Tn := T2.new (o := .lst [V.str (cutS SG none (some n))]) ha
      obtain ⟨na, _⟩ := T2.fresh ha
      have dv : (61 : Int).fdiv (((cutS SG none (some n)).length : Nat) + 1) = 61 / (n + 1) := by
        rw [wl, Int.fdiv_eq_ediv_of_nonneg _ (by omega)]
        rw [show ((n.toNat : Nat) : Int) = n by omega]
      have d1' : 1 ≤ 61 / (n + 1) := (Int.le_ediv_iff_mul_le (by omega)).mpr (by omega)
      have d2' : 61 / (n + 1) ≤ 61 := Int.ediv_le_self _ (by omega)
      refine ⟨_, rfl, _, rfl, _, _, rfl, ⟨Nat.le_of_lt (small1000 (by omega)), rfl⟩, _, _, rfl, rfl, _, _, rfl, rfl, ⟨by omega, by omega⟩, tp, cl, ns, 1, _, rfl, Tn, (by rw [dv]; exact d1'), (by rw [dv]; omega), fun H3 m k3 T3 m0 m1 => ?_⟩
      rw [dv] at m1
      have h3a : H3 a = some (.lst [V.str (cutS SG none (some n))]) := k3 a _ na.symm upd_same
      refine ⟨a, m, _, rfl, rfl, h3a, by omega, by omega, ?_, fun p hp => ?_⟩
      · have : ([V.str (cutS SG none (some n))] : List V).length = 1 := rfl
        rw [this]
        exact Nat.le_of_lt (small1000 (by omega))
      · have mul : m * (n + 1) ≤ 61 := Int.le_trans (Int.mul_le_mul_of_nonneg_right m1 (by omega)) (Int.ediv_mul_le 61 (by omega))
        have mulN : m.toNat * (n.toNat + 1) ≤ 61 := by
          have e1 : ((m.toNat * (n.toNat + 1) : Nat) : Int) = m * (n + 1) := by
            rw [Int.natCast_mul, Int.natCast_add, Int.toNat_of_nonneg (by omega), Int.toNat_of_nonneg (by omega)]
            rfl
          omega
        have eq : (List.replicate m.toNat [V.str (cutS SG none (some n))]).flatten = (List.replicate m.toNat (cutS SG none (some n))).map V.str := by
          rw [rep_flat, List.map_replicate]
        rw [eq]
        refine ⟨_, p, List.replicate m.toNat (cutS SG none (some n)), rfl, rfl, .inl (SqL.of upd_same), ?_, q _ _ ((k1.trans k2).trans (((KB.refl tp H2).over ha).trans (k3.trans (.of_same (same_new hp))))) (T3.new hp) ?_⟩
        · have b1 : (Str.ofString " ").length = 1 := by decide +kernel
          rw [rep_sum, List.length_replicate, b1, wl]
          have : m.toNat * (n.toNat + 1) = m.toNat * n.toNat + m.toNat := Nat.mul_succ ..
          omega
        · rw [TL.join_eq, join_cp, List.map_replicate, w1]
          refine join_good (fun v hv => ?_) ?_ ?_
          · rw [(List.mem_replicate.mp hv).2]
            exact w2
          · intro e
            have := congrArg List.length e
            rw [List.length_replicate] at this
            have : m.toNat = 0 := this
            omega
          · rw [flat_rep_len, w3]
            exact mulN
    · -- one word
      refine ⟨_, rfl, _, rfl, tp, cl, ns, 1, 60, rfl, T1, by decide, by decide, fun H2 n k2 T2 n0 n1 => ⟨n, rfl, SG, rfl, sg_line, ?_⟩⟩
      obtain ⟨w1, w2, w3⟩ := sg_take n0 n1
      refine q H2 _ (k1.trans k2) T2 ?_
      rw [w1]
      exact good_word w2 (by rw [w3]; omega)
end
end Sea
namespace Sea
open PySem PySem.Spec PyProof.Rows L2
/-! the law's own reckoning -/
def spLeast : Sp := fun vs H Q _ => ∃ z : Str, vs = [.str z] ∧ z.length ≤ 1000 ∧ ∀ m, LeastW z m → Q (.int m) H
def spWidth : Sp := fun vs H Q _ => ∃ (tp cl : Addr) (ns : List Int) (z : Str), vs = [.ref tp, .str z] ∧ Tape H tp cl ns ∧ z.length ≤ 1000 ∧
  ∀ H' m, KB tp H H' → Tape H' tp cl ns → 1 ≤ m → m ≤ 60 → Q (.int m) H'
def isB (H : Hp) (p : Addr) (xs : List V) : Prop := H p = some (.tup xs)
/-- what is due of a text and a width, at p -/
def DueAt (z : Str) (w : Int) (H : Hp) (p : Addr) : Prop :=
  ((z.length : Int) ≤ w ∧ ∃ t, H p = some (.tup [.str (Str.ofString "lines"), .ref t]) ∧ H t = some (.tup [.str z])) ∨
  (w < (z.length : Int) ∧ (∀ k, isBlank z k → ¬ (wid z.length k : Int) ≤ w) ∧ ∃ m, LeastW z m ∧ H p = some (.tup [.str (Str.ofString "TooWide"), .int m, .bl false])) ∨
  ∃ k t, w < (z.length : Int) ∧ Best z w k ∧ H p = some (.tup [.str (Str.ofString "lines"), .ref t]) ∧ H t = some (.tup [.str (cutA z k), .str (cutB z k)])
def spDue : Sp := fun vs H Q _ => ∃ (z : Str) (w : Int), vs = [.str z, .int w] ∧ z.length ≤ 1000 ∧ ∀ H' p, Same H H' → DueAt z w H' p → Q (.ref p) H'
noncomputable def spNoText : Sp := fun vs H Q _ => ∃ (tp cl : Addr) (ns : List Int) (z : Str), vs = [.ref tp, .str z] ∧ Tape H tp cl ns ∧ Good (cp z) ∧
  ∀ H' v, KB tp H H' → Tape H' tp cl ns → AnyV H' v → (∀ y, v = .str y → y.length ≤ 1000) → textV v = false → Q v H'
theorem sign_at {z : Str} {i : Nat} (h : i < z.length) : ∃ c, (cp z)[i]? = some c ∧ atI (cp z) (0 + (i : Nat)) = some c := by
  have h' : i < (cp z).length := by rw [cp_len]; exact h
  refine ⟨(cp z)[i], List.getElem?_eq_getElem h', ?_⟩
  rw [Int.zero_add]
  exact atI_nat (List.getElem?_eq_getElem h')
theorem wid_int {n k : Nat} (h : k < n) : (if ((n : Int) - (0 + (k : Nat)) - 1) > (0 + (k : Nat) : Int) then ((n : Int) - (0 + (k : Nat)) - 1) else (0 + (k : Nat) : Int)) = (wid n k : Int) := by
  unfold wid
  by_cases q : ((n : Int) - (0 + (k : Nat)) - 1) > (0 + (k : Nat) : Int)
  · rw [if_pos q]; omega
  · rw [if_neg q]; omega
theorem dif_int {n k : Nat} (h : k < n) : (if ((0 + (k : Nat) : Int) - ((n : Int) - (0 + (k : Nat)) - 1)) < 0 then -((0 + (k : Nat) : Int) - ((n : Int) - (0 + (k : Nat)) - 1)) else ((0 + (k : Nat) : Int) - ((n : Int) - (0 + (k : Nat)) - 1))) = (dif n k : Int) := by
  unfold dif
  by_cases q : ((0 + (k : Nat) : Int) - ((n : Int) - (0 + (k : Nat)) - 1)) < 0
  · rw [if_pos q]; omega
  · rw [if_neg q]; omega
theorem wid_le {n k : Nat} {w : Int} (h : k < n) : (wid n k : Int) ≤ w ↔ (0 + (k : Nat) : Int) ≤ w ∧ ((n : Int) - (0 + (k : Nat)) - 1) ≤ w := by
  unfold wid
  omega
section
variable {P : Program} {w : World} {K : PySem.W.Frag} {mg : Str → Option Value} {base : Heap}
theorem ok_least {f : Addr} {fd : FuncData} (F : Fun K "_law_least" "_law_least" s__law_least f fd) (m_range : mg "range" = none) (m_len : mg "len" = none) (m_min : mg "min" = none) (m_max : mg "max" = none) :
    FnOk P w K mg base CX0 1 f fd ["_law_text_here"] spLeast := by
  refine F.ok sc__law_least (fun vs H Q E h => ?_) (fun cdv A outer s H vs Q E hr h => ?_)
  · obtain ⟨z, rfl, _⟩ := h
    rfl
  · obtain ⟨z, rfl, hz, q⟩ := h
    have hzl : z.length ≤ sizeLine := Nat.le_of_lt (small1000 hz)
    refine ⟨_, (pss_cons (ps_set (i := 1) sc__law_least.nd rfl (Or.inl rfl) (pe_callB call_len_str (by rfl) m_len (by decide +kernel) (pa_cons (pv 0) pa_nil)))
    (pss_cons (ps_for PassesOwn.never rfl (pi_range1 (by rfl) m_range (pa_cons (pe_callB call_len_str (by rfl) m_len (by decide +kernel) (pa_cons (pv 0) pa_nil)) pa_nil)) (pg_name (i := 2) sc__law_least.nd rfl (Or.inl rfl))
    (pss_one (ps_if (pt_cmpR op_eq (pe_ix ix_str (pv 0) (pv 2) (fun _ _ => rfl)) (pe_str) (nomark _))
    (pss_one (ps_set (i := 1) sc__law_least.nd rfl (Or.inl rfl) (pe_callB (call_min2 rfl) (by rfl) m_min (by decide +kernel) (pa_cons (pv 1) (pa_cons (pe_callB (call_max2 rfl) (by rfl) m_max (by decide +kernel) (pa_cons (pv 2) (pa_cons (pe_op op_sub (pe_op op_sub (pe_callB call_len_str (by rfl) m_len (by decide +kernel) (pa_cons (pv 0) pa_nil)) (pv 2)) (pe_int)) pa_nil))) pa_nil)))))
    pss_nil)))
    (pss_one (ps_ret (pv 1))))), ?_⟩
    refine ⟨_, rfl, z, rfl, hzl, _, rfl, z, rfl, hzl, _, rfl, by omega, by omega, ?_⟩
    refine for_it (walk_range (lo := 0) (n := ((z.length : Nat) : Int).toNat)) (fun i σ H' => ∃ k2 m, σ = [some (.str z), some (.int m), k2] ∧ H' = H ∧
      (m = (z.length : Int) ∨ ∃ k, k < i ∧ isBlank z k ∧ m = (wid z.length k : Int)) ∧ m ≤ (z.length : Int) ∧ ∀ k, k < i → isBlank z k → m ≤ (wid z.length k : Int))
      ⟨none, _, rfl, rfl, .inl rfl, Int.le_refl _, fun k h => absurd h (Nat.not_lt_zero _)⟩ (fun _ _ _ _ _ => trivial) ?_ ?_
    · rintro i x σ Ha Hb hi ⟨k2, m, rfl, rfl, ha, hb, hc⟩ ⟨rfl, rfl⟩
      have hi' : i < z.length := by rw [Int.toNat_natCast] at hi; exact hi
      obtain ⟨c, c1, c2⟩ := sign_at hi'
      refine ⟨_, rfl, _, rfl, z, _, c, rfl, rfl, hzl, c2, rfl, _, rfl, ?_⟩
      rw [blank_is]
      refine ite2 (fun e => ?_) (fun e => ?_)
      · have e' : c = 32 := of_decide_eq_true e
        have hbl : isBlank z i := c1.trans (congrArg some e')
        refine ⟨_, rfl, _, rfl, _, rfl, z, rfl, hzl, _, rfl, _, _, rfl, rfl, _, _, rfl, rfl, _, _, rfl, _, _, rfl, some (.int (0 + (i : Nat))), _, rfl, rfl, ?_⟩
        rw [wid_int hi']
        by_cases le : ((wid z.length i : Nat) : Int) < m
        · rw [if_pos le]
          exact ⟨.inr ⟨i, Nat.lt_succ_self i, hbl, rfl⟩, by omega, fun k hk hbk => by
            rcases Nat.lt_or_eq_of_le (Nat.le_of_lt_succ hk) with h | h
            · have := hc k h hbk; omega
            · rw [h]; exact Int.le_refl _⟩
        · rw [if_neg le]
          refine ⟨?_, hb, fun k hk hbk => by
            rcases Nat.lt_or_eq_of_le (Nat.le_of_lt_succ hk) with h | h
            · exact hc k h hbk
            · rw [h]; omega⟩
          rcases ha with h | ⟨k, h1, h2, h3⟩
          · exact .inl h
          · exact .inr ⟨k, Nat.lt_succ_of_lt h1, h2, h3⟩
      · have nb : ¬ isBlank z i := fun h => e (decide_eq_true (Option.some.inj (c1.symm.trans h)))
        refine ⟨_, m, rfl, rfl, ?_, hb, fun k hk hbk => by
            rcases Nat.lt_or_eq_of_le (Nat.le_of_lt_succ hk) with h | h
            · exact hc k h hbk
            · exact absurd (h ▸ hbk) nb⟩
        rcases ha with h | ⟨k, h1, h2, h3⟩
        · exact .inl h
        · exact .inr ⟨k, Nat.lt_succ_of_lt h1, h2, h3⟩
    · rintro σ H' ⟨k2, m, rfl, rfl, ha, hb, hc⟩
      refine ⟨_, rfl, q m ⟨?_, hb, fun k hk => hc k (by have := blank_lt hk; omega) hk⟩⟩
      rcases ha with h | ⟨k, h1, h2, h3⟩
      · exact .inl h
      · exact .inr ⟨k, h2, h3⟩
theorem ok_width {f : Addr} {fd : FuncData} (F : Fun K "_law_width" "_law_width" s__law_width f fd) (m_len : mg "len" = none) (m_min : mg "min" = none) (m_max : mg "max" = none)
    (c__law_pick : Cal P w K mg base 1 "_law_pick" spPick) (c__law_some : Cal P w K mg base 2 "_law_some" spSome) (c__law_least : Cal P w K mg base 1 "_law_least" spLeast) :
    FnOk P w K mg base CX0 3 f fd ["_law_tape_here", "_law_text_here"] spWidth := by
  refine F.ok sc__law_width (fun vs H Q E h => ?_) (fun cdv A outer s H vs Q E hr h => ?_)
  · obtain ⟨tp, cl, ns, z, rfl, _⟩ := h
    rfl
  · obtain ⟨tp, cl, ns, z, rfl, T, hz, q⟩ := h
    have hzl : z.length ≤ sizeLine := Nat.le_of_lt (small1000 hz)
    refine ⟨_, (pss_cons (ps_set (i := 2) sc__law_width.nd rfl (Or.inl rfl) (pe_c c__law_least hr (by decide) rfl (pa_cons (pv 1) pa_nil)))
    (pss_cons (ps_set (i := 3) sc__law_width.nd rfl (Or.inl rfl) (pe_c c__law_pick hr (by decide) rfl (pa_cons (pv 0) (pa_cons (pe_int) pa_nil))))
    (pss_cons (ps_set (i := 4) sc__law_width.nd rfl (Or.inl rfl) (pe_c c__law_some hr (by decide) rfl (pa_cons (pv 0) (pa_cons (pe_int) (pa_cons (pe_int) pa_nil)))))
    (pss_cons (ps_set (i := 5) sc__law_width.nd rfl (Or.inl rfl) (pe_ix ix_list (pe_lst (pa_cons (pv 4) (pa_cons (pv 4) (pa_cons (pv 2) (pa_cons (pe_op op_sub (pv 2) (pe_int)) (pa_cons (pe_callB call_len_str (by rfl) m_len (by decide +kernel) (pa_cons (pv 1) pa_nil)) (pa_cons (pe_op op_sub (pe_callB call_len_str (by rfl) m_len (by decide +kernel) (pa_cons (pv 1) pa_nil)) (pe_int)) (pa_cons (pe_int) (pa_cons (pe_int) pa_nil))))))))) (pv 3) (fun _ _ => rfl)))
    (pss_one (ps_ret (pe_callB (call_min2 rfl) (by rfl) m_min (by decide +kernel) (pa_cons (pe_int) (pa_cons (pe_callB (call_max2 rfl) (by rfl) m_max (by decide +kernel) (pa_cons (pe_int) (pa_cons (pv 5) pa_nil))) pa_nil))))))))), ?_⟩
    refine ⟨_, rfl, z, rfl, hz, fun m _ => ?_⟩
    refine ⟨_, rfl, tp, cl, ns, 8, rfl, T, by decide, fun H1 d k1 T1 d0 d1 => ?_⟩
    refine ⟨_, rfl, tp, cl, ns, 1, 60, rfl, T1, by decide, by decide, fun H2 a k2 T2 a0 a1 => ?_⟩
    refine ⟨_, rfl, _, rfl, _, rfl, _, rfl, _, _, rfl, rfl, _, rfl, z, rfl, hzl, _, rfl, z, rfl, hzl, _, _, rfl, rfl, (by show 8 ≤ sizeLine; decide), fun p hp => ?_⟩
    obtain ⟨v, _, hat⟩ := at_int (ns := [a, a, m, m - 1, (z.length : Int), (z.length : Int) - 1, 1, 60]) d0 (by rcases d1 with h | h <;> simp <;> omega)
    refine ⟨_, rfl, p, _, d, _, rfl, rfl, SqL.of upd_same, hat, _, rfl, _, _, rfl, _, _, rfl, ?_⟩
    have hk : KB tp H (upd H2 p (.lst ([a, a, m, m - 1, (z.length : Int), (z.length : Int) - 1, 1, 60].map V.int))) := (k1.trans k2).trans (.of_same (same_new hp))
    refine q _ _ hk (T2.new hp) ?_ ?_
    · split <;> split <;> omega
    · split <;> split <;> omega
theorem ok_due {f : Addr} {fd : FuncData} (F : Fun K "_law_due" "_law_due" s__law_due f fd) (m_len : mg "len" = none) (m_range : mg "range" = none) (m_abs : mg "abs" = none)
    (c__law_least : Cal P w K mg base 1 "_law_least" spLeast) : FnOk P w K mg base CX0 2 f fd ["_law_text_here", "_law_width_here"] spDue := by
  refine F.ok sc__law_due (fun vs H Q E h => ?_) (fun cdv A outer s H vs Q E hr h => ?_)
  · obtain ⟨z, v, rfl, _⟩ := h
    rfl
  · obtain ⟨z, v, rfl, hz, q⟩ := h
    have hzl : z.length ≤ sizeLine := Nat.le_of_lt (small1000 hz)
    refine ⟨_, (pss_cons (ps_if (pt_cmpR op_le (pe_callB call_len_str (by rfl) m_len (by decide +kernel) (pa_cons (pv 0) pa_nil)) (pv 1) (nomark _))
    (pss_one (ps_ret (pe_tup (pa_cons (pe_str) (pa_cons (pe_tup (pa_cons (pv 0) pa_nil)) pa_nil)))))
    pss_nil)
    (pss_cons (ps_set (i := 2) sc__law_due.nd rfl (Or.inl rfl) (pe_non))
    (pss_cons (ps_for PassesOwn.never rfl (pi_range1 (by rfl) m_range (pa_cons (pe_callB call_len_str (by rfl) m_len (by decide +kernel) (pa_cons (pv 0) pa_nil)) pa_nil)) (pg_name (i := 3) sc__law_due.nd rfl (Or.inl rfl))
    (pss_cons (ps_set (i := 4) sc__law_due.nd rfl (Or.inl rfl) (pe_op op_sub (pe_op op_sub (pe_callB call_len_str (by rfl) m_len (by decide +kernel) (pa_cons (pv 0) pa_nil)) (pv 3)) (pe_int)))
    (pss_one (ps_if (PW.pt (pw_and (pt_cmpR op_eq (pe_ix ix_str (pv 0) (pv 3) (fun _ _ => rfl)) (pe_str) (nomark _)) (pw_and (pt_cmpR op_le (pv 3) (pv 1) (nomark _)) (pw_and1 (pt_cmpR op_le (pv 4) (pv 1) (nomark _))))))
    (pss_one (ps_if (PW.pt (pw_or (pt_cmpR op_isN (pv 2) (pe_non) (nomark _)) (pw_or1 (pt_cmpR op_lt (pe_callB call_abs (by rfl) m_abs (by decide +kernel) (pa_cons (pe_op op_sub (pv 3) (pv 4)) pa_nil)) (pe_ix ix_tup (pv 2) (pe_int) (fun _ _ => rfl)) (nomark _)))))
    (pss_one (ps_set (i := 2) sc__law_due.nd rfl (Or.inl rfl) (pe_tup (pa_cons (pe_callB call_abs (by rfl) m_abs (by decide +kernel) (pa_cons (pe_op op_sub (pv 3) (pv 4)) pa_nil)) (pa_cons (pv 3) pa_nil)))))
    pss_nil))
    pss_nil))))
    (pss_cons (ps_if (pt_cmpR op_isN (pv 2) (pe_non) (nomark _))
    (pss_one (ps_ret (pe_tup (pa_cons (pe_str) (pa_cons (pe_c c__law_least hr (by decide) rfl (pa_cons (pv 0) pa_nil)) (pa_cons (pe_bl) pa_nil))))))
    pss_nil)
    (pss_one (ps_ret (pe_tup (pa_cons (pe_str) (pa_cons (pe_tup (pa_cons (pe_slice sl_str (pv 0) po_none (po_some (pe_ix ix_tup (pv 2) (pe_int) (fun _ _ => rfl)))) (pa_cons (pe_slice sl_str (pv 0) (po_some (pe_op op_add (pe_ix ix_tup (pv 2) (pe_int) (fun _ _ => rfl)) (pe_int))) po_none) pa_nil))) pa_nil))))))))), ?_⟩
    refine ⟨_, rfl, z, rfl, hzl, _, rfl, _, _, rfl, rfl, _, rfl, ite2 (fun e => ?_) (fun e => ?_)⟩
    · refine ⟨_, rfl, (by show 1 ≤ sizeLine; decide), fun t ht => ⟨(by show 2 ≤ sizeLine; decide), fun p hp => ?_⟩⟩
      refine q _ p ((same_new ht).trans (same_new hp)) (.inl ⟨of_decide_eq_true e, t, upd_same, ?_⟩)
      rw [upd_ne (ne_of_none upd_same hp), upd_same]
    · have hlt : v < (z.length : Int) := by
        have : ¬ ((z.length : Nat) : Int) ≤ v := fun h => e (decide_eq_true h)
        omega
      refine ⟨_, rfl, z, rfl, hzl, _, rfl, by omega, by omega, ?_⟩
      refine for_it (walk_range (lo := 0) (n := ((z.length : Nat) : Int).toNat)) (fun i σ H' => Same H H' ∧ ∃ k3 k4 bv, σ = [some (.str z), some (.int v), some bv, k3, k4] ∧
        ((bv = .non ∧ ∀ k, k < i → isBlank z k → ¬ (wid z.length k : Int) ≤ v) ∨
          ∃ b k, bv = .ref b ∧ H' b = some (.tup [.int (dif z.length k : Nat), .int (0 + (k : Nat))]) ∧ k < i ∧ isBlank z k ∧ (wid z.length k : Int) ≤ v ∧
            ∀ j, j < i → isBlank z j → (wid z.length j : Int) ≤ v → dif z.length k ≤ dif z.length j ∧ (j < k → dif z.length k < dif z.length j)))
        ⟨Same.refl H, none, none, .non, rfl, .inl ⟨rfl, fun k h => absurd h (Nat.not_lt_zero _)⟩⟩ (fun _ _ _ _ _ => trivial) ?_ ?_
      · rintro i x σ Ha Hb hi ⟨hs, k3, k4, bv, rfl, inv⟩ ⟨rfl, rfl⟩
        have hi' : i < z.length := by rw [Int.toNat_natCast] at hi; exact hi
        obtain ⟨c, c1, c2⟩ := sign_at hi'
        refine ⟨_, rfl, z, rfl, hzl, _, rfl, _, _, rfl, rfl, _, _, rfl, rfl, ?_⟩
        -- where this place does not count
        have skip : ¬ (isBlank z i ∧ (wid z.length i : Int) ≤ v) → (Same H Hb ∧ ∃ k3 k4 bv', [some (V.str z), some (V.int v), some bv, some (V.int (0 + (i : Nat))), some (V.int ((z.length : Int) - (0 + (i : Nat)) - 1))] = [some (.str z), some (.int v), some bv', k3, k4] ∧
          ((bv' = .non ∧ ∀ k, k < i + 1 → isBlank z k → ¬ (wid z.length k : Int) ≤ v) ∨
          ∃ b k, bv' = .ref b ∧ Hb b = some (.tup [.int (dif z.length k : Nat), .int (0 + (k : Nat))]) ∧ k < i + 1 ∧ isBlank z k ∧ (wid z.length k : Int) ≤ v ∧
            ∀ j, j < i + 1 → isBlank z j → (wid z.length j : Int) ≤ v → dif z.length k ≤ dif z.length j ∧ (j < k → dif z.length k < dif z.length j))) := fun no => by
          refine ⟨hs, _, _, bv, rfl, ?_⟩
          rcases inv with ⟨rfl, h⟩ | ⟨b, k, rfl, h1, h2, h3, h4, h5⟩
          · refine .inl ⟨rfl, fun k hk hbk hw => ?_⟩
            rcases Nat.lt_or_eq_of_le (Nat.le_of_lt_succ hk) with g | g
            · exact h k g hbk hw
            · subst g
              exact no ⟨hbk, hw⟩
          · refine .inr ⟨b, k, rfl, h1, Nat.lt_succ_of_lt h2, h3, h4, fun j hj hbj hwj => ?_⟩
            rcases Nat.lt_or_eq_of_le (Nat.le_of_lt_succ hj) with g | g
            · exact h5 j g hbj hwj
            · subst g
              exact absurd ⟨hbj, hwj⟩ no
        refine ⟨_, rfl, _, rfl, z, _, c, rfl, rfl, hzl, c2, rfl, _, rfl, ?_⟩
        rw [blank_is]
        refine ite2 (fun e1 => ?_) (fun e1 => skip fun h => e1 (decide_eq_true (Option.some.inj (c1.symm.trans h.1))))
        have hbl : isBlank z i := c1.trans (congrArg some (of_decide_eq_true e1))
        refine ⟨_, rfl, _, rfl, _, _, rfl, rfl, _, rfl, ite2 (fun e2 => ?_) (fun e2 => skip fun h => e2 (decide_eq_true ((wid_le hi').mp h.2).1))⟩
        refine ⟨_, rfl, _, rfl, _, _, rfl, rfl, _, rfl, ite2 (fun e3 => ?_) (fun e3 => skip fun h => e3 (decide_eq_true ((wid_le hi').mp h.2).2))⟩
        have hw : (wid z.length i : Int) ≤ v := (wid_le hi').mpr ⟨of_decide_eq_true e2, of_decide_eq_true e3⟩
        -- a new best one
        have fresh : ∀ (p : Addr), Hb p = none → (∀ j, j < i → isBlank z j → (wid z.length j : Int) ≤ v → dif z.length i < dif z.length j) →
            (Same H (upd Hb p (.tup [.int (dif z.length i : Nat), .int (0 + (i : Nat))])) ∧ ∃ k3 k4 bv', [some (V.str z), some (V.int v), some (V.ref p), some (V.int (0 + (i : Nat))), some (V.int ((z.length : Int) - (0 + (i : Nat)) - 1))] = [some (.str z), some (.int v), some bv', k3, k4] ∧
          ((bv' = .non ∧ ∀ k, k < i + 1 → isBlank z k → ¬ (wid z.length k : Int) ≤ v) ∨
          ∃ b k, bv' = .ref b ∧ (upd Hb p (.tup [.int (dif z.length i : Nat), .int (0 + (i : Nat))])) b = some (.tup [.int (dif z.length k : Nat), .int (0 + (k : Nat))]) ∧ k < i + 1 ∧ isBlank z k ∧ (wid z.length k : Int) ≤ v ∧
            ∀ j, j < i + 1 → isBlank z j → (wid z.length j : Int) ≤ v → dif z.length k ≤ dif z.length j ∧ (j < k → dif z.length k < dif z.length j))) := fun p hp hall => by
          refine ⟨hs.trans (same_new hp), _, _, .ref p, rfl, .inr ⟨p, i, rfl, upd_same, Nat.lt_succ_self i, hbl, hw, fun j hj hbj hwj => ?_⟩⟩
          rcases Nat.lt_or_eq_of_le (Nat.le_of_lt_succ hj) with g | g
          · have := hall j g hbj hwj
            exact ⟨Nat.le_of_lt this, fun _ => this⟩
          · subst g
            exact ⟨Nat.le_refl _, fun h => absurd h (Nat.lt_irrefl _)⟩
        rcases inv with ⟨rfl, h⟩ | ⟨b, k, rfl, h1, h2, h3, h4, h5⟩
        · refine ⟨_, rfl, rfl, _, rfl, _, rfl, _, rfl, _, _, rfl, rfl, _, rfl, _, rfl, (by show 2 ≤ sizeLine; decide), fun p hp => ?_⟩
          have f := fresh p hp fun j hj hbj hwj => absurd hwj (h j hj hbj)
          rw [← dif_int hi'] at f
          exact f
        · refine ⟨_, rfl, rfl, _, rfl, _, rfl, _, rfl, _, _, rfl, rfl, _, rfl, _, rfl, b, _, 0, _, rfl, rfl, SqT.of h1, atI_nat (j := 0) rfl, _, _, rfl, rfl, _, rfl, ite2 (fun e4 => ?_) (fun e4 => ?_)⟩
          · refine ⟨_, rfl, _, rfl, _, _, rfl, rfl, _, rfl, _, rfl, (by show 2 ≤ sizeLine; decide), fun p hp => ?_⟩
            have lt : dif z.length i < dif z.length k := by
              have := of_decide_eq_true e4
              rw [dif_int hi'] at this
              omega
            have f := fresh p hp fun j hj hbj hwj => Nat.lt_of_lt_of_le lt (h5 j hj hbj hwj).1
            rw [← dif_int hi'] at f
            exact f
          · have ge : ¬ dif z.length i < dif z.length k := fun h => e4 (decide_eq_true (by rw [dif_int hi']; omega))
            refine ⟨hs, _, _, .ref b, rfl, .inr ⟨b, k, rfl, h1, Nat.lt_succ_of_lt h2, h3, h4, fun j hj hbj hwj => ?_⟩⟩
            rcases Nat.lt_or_eq_of_le (Nat.le_of_lt_succ hj) with g | g
            · exact h5 j g hbj hwj
            · subst g
              exact ⟨by omega, fun h => absurd h (by omega)⟩
      · rintro σ H' ⟨hs, k3, k4, bv, rfl, inv⟩
        rw [Int.toNat_natCast] at inv
        rcases inv with ⟨rfl, h⟩ | ⟨b, k, rfl, h1, h2, h3, h4, h5⟩
        · refine ⟨_, rfl, rfl, _, rfl, _, rfl, z, rfl, hz, fun m hm => ⟨(by show 3 ≤ sizeLine; decide), fun p hp => ?_⟩⟩
          exact q _ p (hs.trans (same_new hp)) (.inr (.inl ⟨hlt, fun k hk => h k (blank_lt hk) hk, m, hm, upd_same⟩))
        · refine ⟨_, rfl, rfl, _, rfl, _, rfl, _, rfl, b, _, 1, _, rfl, rfl, SqT.of h1, atI_nat (j := 1) rfl, _, rfl, z, rfl, hzl, _, rfl, _, rfl, b, _, 1, _, rfl, rfl, SqT.of h1, atI_nat (j := 1) rfl, _, _, rfl, rfl, _, rfl, z, rfl, hzl, (by show 2 ≤ sizeLine; decide), fun t ht => ⟨(by show 2 ≤ sizeLine; decide), fun p hp => ?_⟩⟩
          refine q _ p ((hs.trans (same_new ht)).trans (same_new hp)) (.inr (.inr ⟨k, t, hlt, ⟨h3, h4, fun j hbj hwj => h5 j (blank_lt hbj) hbj hwj⟩, upd_same, ?_⟩))
          rw [upd_ne (ne_of_none upd_same hp), upd_same, cutS_to (k := k) (by omega) (by omega), cutS_from (k := k) (by omega) (by omega)]
end
end Sea
namespace Sea
open PySem PySem.Spec PyProof.Rows L2
/-! the same thing; what the program tells -/
def SameV : Nat → Hp → V → V → Prop
  | 0, _, x, y => Plain y ∧ x = y
  | n + 1, H, x, y => (Plain y ∧ x = y) ∨ ∃ (a b : Addr) (xs ys : List V), x = .ref a ∧ y = .ref b ∧ H a = some (.tup xs) ∧ H b = some (.tup ys) ∧ xs.length = ys.length ∧ ys.length ≤ 1000 ∧
      ∀ (i : Nat) (u v : V), xs[i]? = some u → ys[i]? = some v → SameV n H u v
theorem SameV.keep : ∀ {n : Nat} {H H' : Hp} {x y : V}, SameV n H x y → Same H H' → SameV n H' x y
  | 0, _, _, _, _, h, _ => h
  | n + 1, _, _, _, _, h, s => by
    rcases h with h | ⟨a, b, xs, ys, h1, h2, h3, h4, h5, h6, h7⟩
    · exact .inl h
    · exact .inr ⟨a, b, xs, ys, h1, h2, s _ _ h3, s _ _ h4, h5, h6, fun i u v e1 e2 => (h7 i u v e1 e2).keep s⟩
def spSame (n : Nat) : Sp := fun vs H Q _ => ∃ x y, vs = [x, y] ∧ SameV n H x y ∧ ∀ H', Same H H' → Q (.bl true) H'
def spNever : Sp := fun _ _ _ _ => False
theorem trues (n : Nat) : ((List.replicate n (V.bl true)).all (· == V.bl true)) = true := by
  induction n with
  | zero => rfl
  | succ n ih => rw [List.replicate_succ, List.all_cons, ih]; rfl
section
variable {P : Program} {w : World} {K : PySem.W.Frag} {mg : Str → Option Value} {base : Heap}
theorem ok_same_at {f : Addr} {fd : FuncData} (F : Fun K "_law_same" "_law_same" s__law_same f fd) (m_isinstance : mg "isinstance" = none) (m_tuple : mg "tuple" = none) (m_bool : mg "bool" = none) (m_str : mg "str" = none) (m_int : mg "int" = none)
    (m_len : mg "len" = none) (m_all : mg "all" = none) (m_range : mg "range" = none) {k : Nat} {sp sp' : Sp} (c__law_same : Cal P w K mg base k "_law_same" sp)
    (hyp : ∀ vs H Q E, sp' vs H Q E → ∃ x y, vs = [x, y] ∧ (∀ H', Same H H' → Q (.bl true) H') ∧ ((Plain y ∧ x = y) ∨ ∃ (a b : Addr) (xs ys : List V), x = .ref a ∧ y = .ref b ∧ H a = some (.tup xs) ∧ H b = some (.tup ys) ∧ xs.length = ys.length ∧ ys.length ≤ 1000 ∧
      ∀ (i : Nat) (u v : V), xs[i]? = some u → ys[i]? = some v → ∀ H1 Q1 E1, Same H H1 → (∀ H', Same H1 H' → Q1 (.bl true) H') → sp [u, v] H1 Q1 E1)) :
    FnOk P w K mg base CX0 (k + 1) f fd ["_law_told_here", "_law_due_here"] sp' := by
  refine F.ok sc__law_same (fun vs H Q E h => ?_) (fun cdv A outer s H vs Q E hr h => ?_)
  · obtain ⟨x, y, rfl, _⟩ := hyp _ _ _ _ h
    rfl
  · obtain ⟨x, y, rfl, q, ways⟩ := hyp _ _ _ _ h
    refine ⟨_, (pss_cons (ps_if (pt_val (pe_callB call_isi (by rfl) m_isinstance (by decide +kernel) (pa_cons (pv 1) (pa_cons (pe_bltn (v := .ty "tuple") (by rfl) m_tuple (by decide +kernel) rfl) pa_nil))))
    (pss_cons (ps_if (PW.pt (pw_or (pt_not (pt_val (pe_callB call_isi (by rfl) m_isinstance (by decide +kernel) (pa_cons (pv 0) (pa_cons (pe_bltn (v := .ty "tuple") (by rfl) m_tuple (by decide +kernel) rfl) pa_nil))))) (pw_or1 (pt_cmpR op_ne (pe_callB call_len (by rfl) m_len (by decide +kernel) (pa_cons (pv 0) pa_nil)) (pe_callB call_len (by rfl) m_len (by decide +kernel) (pa_cons (pv 1) pa_nil)) (nomark _)))))
    (pss_one (ps_ret (pe_bl)))
    pss_nil)
    (pss_one (ps_ret (pe_callB (cr_all rfl) (by rfl) m_all (by decide +kernel) (pa_cons (pe_lc (own := [("_law_k", 2)]) rfl sc__law_same.nd (pi_range1 (by rfl) m_range (pa_cons (pe_callB call_len (by rfl) m_len (by decide +kernel) (pa_cons (pv 1) pa_nil)) pa_nil)) (blkOk_by (N := N__law_same) (sc := defScope s__law_same) (by decide +kernel)) (fun _ _ _ _ _ => (pg_name (i := 2) sc__law_same.nd rfl (Or.inl rfl))) (fun _ _ _ _ _ => pts_nil) (fun _ _ _ _ _ => (pe_c c__law_same hr (Nat.le_refl _) rfl (pa_cons (pe_ix (show IxR _ (rIxT K) from ix_tup) (pv 0) (pv 2) (fun _ _ => rfl)) (pa_cons (pe_ix (show IxR _ (rIxT K) from ix_tup) (pv 1) (pv 2) (fun _ _ => rfl)) pa_nil))))) pa_nil)))))
    pss_nil)
    (pss_cons (ps_if (pt_cmpR op_isN (pv 1) (pe_non) (nomark _))
    (pss_one (ps_ret (pe_cmpR op_isN (pv 0) (pe_non) (nomark _))))
    pss_nil)
    (pss_cons (ps_if (pt_val (pe_callB call_isi (by rfl) m_isinstance (by decide +kernel) (pa_cons (pv 1) (pa_cons (pe_bltn (v := .ty "bool") (by rfl) m_bool (by decide +kernel) rfl) pa_nil))))
    (pss_one (ps_ret (pe_and (pe_callB call_isi (by rfl) m_isinstance (by decide +kernel) (pa_cons (pv 0) (pa_cons (pe_bltn (v := .ty "bool") (by rfl) m_bool (by decide +kernel) rfl) pa_nil))) (pe_one (pe_cmpR op_eq (pv 0) (pv 1) (nomark _))))))
    pss_nil)
    (pss_cons (ps_if (pt_val (pe_callB call_isi (by rfl) m_isinstance (by decide +kernel) (pa_cons (pv 1) (pa_cons (pe_bltn (v := .ty "str") (by rfl) m_str (by decide +kernel) rfl) pa_nil))))
    (pss_one (ps_ret (pe_and (pe_callB call_isi (by rfl) m_isinstance (by decide +kernel) (pa_cons (pv 0) (pa_cons (pe_bltn (v := .ty "str") (by rfl) m_str (by decide +kernel) rfl) pa_nil))) (pe_one (pe_cmpR op_eq (pv 0) (pv 1) (nomark _))))))
    pss_nil)
    (pss_one (ps_ret (pe_and (pe_callB call_isi (by rfl) m_isinstance (by decide +kernel) (pa_cons (pv 0) (pa_cons (pe_bltn (v := .ty "int") (by rfl) m_int (by decide +kernel) rfl) pa_nil))) (pe_and (pe_not (pe_callB call_isi (by rfl) m_isinstance (by decide +kernel) (pa_cons (pv 0) (pa_cons (pe_bltn (v := .ty "bool") (by rfl) m_bool (by decide +kernel) rfl) pa_nil)))) (pe_one (pe_cmpR op_eq (pv 0) (pv 1) (nomark _))))))))))), ?_⟩
    rcases ways with ⟨hp, rfl⟩ | ⟨a, b, xs, ys, rfl, rfl, ha, hb, hl, hl2, hsub⟩
    · have q0 := q H (Same.refl H)
      cases x with
      | non =>
        exact ⟨_, rfl, _, _, _, _, false, rfl, .ty _, .base .non, kit_ty (by decide +kernel), false, rfl, _, rfl, rfl, _, rfl, _, rfl, rfl, q0⟩
      | bl c =>
        refine ⟨_, rfl, _, _, _, _, false, rfl, .ty _, .base (.bl c), kit_ty (by decide +kernel), false, rfl, _, rfl, rfl, _, rfl, _, rfl, _, _, _, _, true, rfl, .ty _, .base (.bl c), kit_ty (by decide +kernel), true, rfl, _, rfl, _, _, _, _, true, rfl, .ty _, .base (.bl c), kit_ty (by decide +kernel), true, rfl, iteT ⟨_, rfl, _, rfl, rfl, ?_⟩⟩
        rw [decide_eq_true rfl]
        exact q0
      | int i =>
        refine ⟨_, rfl, _, _, _, _, false, rfl, .ty _, .base (.int i), kit_ty (by decide +kernel), false, rfl, _, rfl, rfl, _, rfl, _, rfl, _, _, _, _, false, rfl, .ty _, .base (.int i), kit_ty (by decide +kernel), false, rfl, _, rfl, _, _, _, _, false, rfl, .ty _, .base (.int i), kit_ty (by decide +kernel), false, rfl, _, rfl, _, _, _, _, true, rfl, .ty _, .base (.int i), kit_ty (by decide +kernel), true, rfl, iteT ⟨_, rfl, _, _, _, _, false, rfl, .ty _, .base (.int i), kit_ty (by decide +kernel), ?_⟩⟩
        refine ⟨false, rfl, _, rfl, iteT ⟨_, rfl, _, rfl, rfl, ?_⟩⟩
        rw [decide_eq_true rfl]
        exact q0
      | str z =>
        refine ⟨_, rfl, _, _, _, _, false, rfl, .ty _, .base (.str z), kit_ty (by decide +kernel), false, rfl, _, rfl, rfl, _, rfl, _, rfl, _, _, _, _, false, rfl, .ty _, .base (.str z), kit_ty (by decide +kernel), false, rfl, _, rfl, _, _, _, _, true, rfl, .ty _, .base (.str z), kit_ty (by decide +kernel), true, rfl, _, rfl, _, _, _, _, true, rfl, .ty _, .base (.str z), kit_ty (by decide +kernel), true, rfl, iteT ⟨_, rfl, _, rfl, rfl, ?_⟩⟩
        rw [decide_eq_true rfl]
        exact q0
      | ref a => exact hp.elim
      | byt z => exact hp.elim
      | flt z => exact hp.elim
      | ty z => exact hp.elim
    · have hl3 : ys.length ≤ sizeLine := Nat.le_of_lt (small1000 hl2)
      have hl4 : xs.length ≤ sizeLine := hl ▸ hl3
      refine ⟨_, rfl, _, _, _, _, true, rfl, .ty _, .base (.tup hb), kit_ty (by decide +kernel), true, rfl, _, rfl, _, _, _, _, true, rfl, .ty _, .base (.tup ha), kit_ty (by decide +kernel), true, rfl, ?_⟩
      refine ⟨_, rfl, _, xs.length, rfl, .inr ⟨_, SqT.of ha, rfl⟩, _, rfl, _, ys.length, rfl, .inr ⟨_, SqT.of hb, rfl⟩, rfl, _, rfl, ?_⟩
      rw [hl]
      refine ite2 (fun e => absurd e (by simp)) (fun _ => ?_)
      refine ⟨_, rfl, _, ys.length, rfl, .inr ⟨_, SqT.of hb, rfl⟩, _, rfl, by omega, by omega, fun D hD => ?_⟩
      refine lc_it (walk_range (lo := 0) (n := ((ys.length : Nat) : Int).toNat)) (fun i H' => Same H H' ∧ H' D = some (.lst (List.replicate i (V.bl true)))) ⟨same_new hD, upd_same⟩ (fun _ _ _ _ => trivial) ?_ ?_
      · rintro i x Ha Hb hi ⟨hs, hd⟩ ⟨rfl, rfl⟩
        have hi' : i < ys.length := by rw [Int.toNat_natCast] at hi; exact hi
        have ex : xs[i]? = some (xs[i]'(hl ▸ hi')) := List.getElem?_eq_getElem (hl ▸ hi')
        have ey : ys[i]? = some (ys[i]'hi') := List.getElem?_eq_getElem hi'
        have at1 : atI xs (0 + (i : Nat)) = some (xs[i]'(hl ▸ hi')) := by rw [Int.zero_add]; exact atI_nat ex
        have at2 : atI ys (0 + (i : Nat)) = some (ys[i]'hi') := by rw [Int.zero_add]; exact atI_nat ey
        refine ⟨rfl, _, rfl, _, rfl, a, xs, _, _, rfl, rfl, SqT.of (hs _ _ ha), at1, _, rfl, _, rfl, b, ys, _, _, rfl, rfl, SqT.of (hs _ _ hb), at2, ?_⟩
        refine hsub i _ _ ex ey _ _ _ hs fun H2 s2 => ⟨_, s2 _ _ hd, ?_, same_over (hs.trans s2) hD, ?_⟩
        · rw [List.length_replicate]
          exact small_line (by omega)
        · rw [upd_same, List.replicate_succ']
      · rintro H' ⟨hs, hd⟩
        have hd2 : H' D = some (.lst ((List.replicate ys.length true).map V.bl)) := by rw [hd, Int.toNat_natCast, List.map_replicate]
        have q' := q H' hs
        have e : (List.replicate ys.length true).all id = true := List.all_eq_true.mpr fun b hb => by rw [List.eq_of_mem_replicate hb]; rfl
        refine ⟨D, _, rfl, SqL.of hd2, ?_⟩
        rw [e]
        exact q'
/-- the thing that is due of the text x and the width y, at p -/
def ToldAt (x y : V) (H : Hp) (p : Addr) : Prop :=
  (textV x = false ∧ H p = some (.tup [.str (Str.ofString "BadText"), .int (-1), .bl false])) ∨
  (textV x = true ∧ inside y 1 60 = false ∧ H p = some (.tup [.str (Str.ofString "BadWidth"), y, .bl false])) ∨
  ∃ z w, x = .str z ∧ Good (cp z) ∧ y = .int w ∧ 1 ≤ w ∧ w ≤ 60 ∧ DueAt z w H p
def spTold : Sp := fun vs H Q _ => ∃ x y, vs = [x, y] ∧ AnyV H x ∧ (∀ z, x = .str z → z.length ≤ 1000) ∧ Plain y ∧ ∀ H' p, Same H H' → ToldAt x y H' p → Q (.ref p) H'
def spBase : Sp := fun vs H Q _ => ∃ x y, vs = [x, y] ∧ AnyV H x ∧ (∀ z, x = .str z → z.length ≤ 1000) ∧ Plain y ∧ (textV x = false ∨ inside y 1 60 = false) ∧ ∀ H', Same H H' → Q (.bl true) H'
/-- the four classes, one against the other -/
structure EX4 (K : PySem.W.Frag) (CT CW CO CE : Addr) : Prop where
  tt : PySem.W.exmOne K (.ref CT) (.ref CT) = some true
  wt : PySem.W.exmOne K (.ref CW) (.ref CT) = some false
  ww : PySem.W.exmOne K (.ref CW) (.ref CW) = some true
  ot : PySem.W.exmOne K (.ref CO) (.ref CT) = some false
  ow : PySem.W.exmOne K (.ref CO) (.ref CW) = some false
  oo : PySem.W.exmOne K (.ref CO) (.ref CO) = some true
  te : PySem.W.exmOne K (.ref CT) (.ref CE) = some true
  we : PySem.W.exmOne K (.ref CW) (.ref CE) = some true
  kt : PySem.W.kitAny K (.ref CT) [.ref CW, .ref CO] = some false
  kw : PySem.W.kitAny K (.ref CW) [.ref CT, .ref CO] = some false
  ko : PySem.W.kitAny K (.ref CO) [.ref CT, .ref CW] = some false
  vt : PySem.W.kitOne K (.ref CT) (.type "ValueError") = some true
  vw : PySem.W.kitOne K (.ref CW) (.type "ValueError") = some true
theorem ok_told {f : Addr} {fd : FuncData} {CT CW CO CE : Addr} (F : Fun K "_law_told" "_law_told" s__law_told f fd) (m_isinstance : mg "isinstance" = none)
    (xT : XI P w K mg base "BadText" "at" CT) (xW : XI P w K mg base "BadWidth" "width" CW) (xO : XI P w K mg base "TooWide" "least" CO) (gE : mg "CaptionError" = some (.ref CE)) (x4 : EX4 K CT CW CO CE)
    (c_two_lines : CalX P w K mg base 4 "two_lines" (spTwo CT CW CO)) : FnOk P w K mg base CX0 5 f fd ["_law_text_here", "_law_width_here"] spTold := by
  obtain ⟨fIT, fdT, XT, FT, bT⟩ := xT.ex
  obtain ⟨fIW, fdW, XW, FW, bW⟩ := xW.ex
  obtain ⟨fIO, fdO, XO, FO, bO⟩ := xO.ex
  refine F.ok sc__law_told (fun vs H Q E h => ?_) (fun cdv A outer s H vs Q E hr h => ?_)
  · obtain ⟨x, y, rfl, _⟩ := h
    rfl
  · obtain ⟨x, y, rfl, hx, hsz, hy, q⟩ := h
    refine ⟨_, (pss_cons (ps_try_cl (Wo := fun _ _ _ _ => False) (tb := fun W => tAsg (tCallSD (spTwo CT CW CO) [] (WE W) (tCons (tVar 0) (tCons (tVar 1) tNil))) (gName 2)) rfl rfl sc__law_told.nd takes0
        (fun W pn xe tk _ => by
          refine pss_one (ps_set (i := 2) sc__law_told.nd rfl (Or.inl rfl) ?_)
          refine pe_cX (k := 4) (j := 4) (sp := spTwo CT CW CO) ?_ ?_ ?_ ?_ ?_ ?_
          · exact c_two_lines
          · exact hr
          · decide
          · rfl
          · exact (fun σ => passAt tk σ)
          · exact (pa_cons (pv 0) (pa_cons (pv 1) pa_nil)))
        (.named (i := 3) ⟨rfl, by decide, .inl XT.gC⟩ rfl rfl (fun a oe cls d pn hz hf => (pss_one (ps_ret (pe_tup (pa_cons (pe_str) (pa_cons (pe_xf XT.xf XT.no hz hf (pv 3)) (pa_cons (pe_callB (call_ask hz hf) (by rfl) m_isinstance (by decide +kernel) (pa_cons (pv 3) (pa_cons (pe_tup (pa_cons (pe_glob (v := .ref CW) rfl XW.gC rfl) (pa_cons (pe_glob (v := .ref CO) rfl XO.gC rfl) pa_nil))) pa_nil))) pa_nil)))))))
        (.named (i := 3) ⟨rfl, by decide, .inl XW.gC⟩ rfl rfl (fun a oe cls d pn hz hf => (pss_one (ps_ret (pe_tup (pa_cons (pe_str) (pa_cons (pe_xf XW.xf XW.no hz hf (pv 3)) (pa_cons (pe_callB (call_ask hz hf) (by rfl) m_isinstance (by decide +kernel) (pa_cons (pv 3) (pa_cons (pe_tup (pa_cons (pe_glob (v := .ref CT) rfl XT.gC rfl) (pa_cons (pe_glob (v := .ref CO) rfl XO.gC rfl) pa_nil))) pa_nil))) pa_nil)))))))
        (.named (i := 3) ⟨rfl, by decide, .inl XO.gC⟩ rfl rfl (fun a oe cls d pn hz hf => (pss_one (ps_ret (pe_tup (pa_cons (pe_str) (pa_cons (pe_xf XO.xf XO.no hz hf (pv 3)) (pa_cons (pe_callB (call_ask hz hf) (by rfl) m_isinstance (by decide +kernel) (pa_cons (pv 3) (pa_cons (pe_tup (pa_cons (pe_glob (v := .ref CT) rfl XT.gC rfl) (pa_cons (pe_glob (v := .ref CW) rfl XW.gC rfl) pa_nil))) pa_nil))) pa_nil)))))))
        (.bare ⟨rfl, by decide, .inl gE⟩ (fun a oe cls d pn hz hf => (pss_one (ps_ret (pe_tup (pa_cons (pe_str) pa_nil))))) .nil)))))
      (pss_one (ps_ret (pe_tup (pa_cons (pe_str) (pa_cons (pv 2) pa_nil)))))), ?_⟩
    refine ⟨_, rfl, _, rfl, x, y, rfl, hx, hsz, hy, fun hT H1 d s1 hd => ?_, fun hT hI H1 d s1 hd => ?_, fun z w ez hg ey h1 h2 => ⟨fun hle H1 p s1 hp => ?_, fun m hlt hno hm H1 d s1 hd => ?_, fun k hlt hb H1 p s1 hp => ?_⟩⟩
    · refine ⟨true, x4.tt, fun _ a ha => ?_, (fun z => nomatch z)⟩
      refine ⟨_, rfl, rfl, rfl, d, _, _, rfl, upd_same, rfl, _, rfl, (by show 2 ≤ sizeLine; decide), fun p hp => ?_⟩
      have hd2 : (upd H1 d (ATM (.int (-1)))) d = some (.xd [(("at" : Str), .int (-1))]) := upd_same
      refine ⟨CT, d, _, .ref p, false, rfl, rfl, XT.ask, (same_new hp) _ _ hd2, rfl, .inr ⟨p, _, _, rfl, upd_same, .cons (.own _) (.cons (.own _) .nil), x4.kt⟩, (by show 3 ≤ sizeLine; decide), fun t ht => ?_⟩
      exact q _ t (((s1.trans (same_new hd)).trans (same_new hp)).trans (same_new ht)) (.inl ⟨hT, upd_same⟩)
    · refine ⟨false, x4.wt, (fun z => nomatch z), fun _ => ⟨true, x4.ww, fun _ a ha => ?_, (fun z => nomatch z)⟩⟩
      refine ⟨_, rfl, rfl, rfl, d, _, _, rfl, upd_same, rfl, _, rfl, (by show 2 ≤ sizeLine; decide), fun p hp => ?_⟩
      have hd2 : (upd H1 d (WDM y)) d = some (.xd [(("width" : Str), y)]) := upd_same
      refine ⟨CW, d, _, .ref p, false, rfl, rfl, XW.ask, (same_new hp) _ _ hd2, rfl, .inr ⟨p, _, _, rfl, upd_same, .cons (.own _) (.cons (.own _) .nil), x4.kw⟩, (by show 3 ≤ sizeLine; decide), fun t ht => ?_⟩
      exact q _ t (((s1.trans (same_new hd)).trans (same_new hp)).trans (same_new ht)) (.inr (.inl ⟨hT, hI, upd_same⟩))
    · refine ⟨_, rfl, (by show 2 ≤ sizeLine; decide), fun t ht => ?_⟩
      refine q _ t ((s1.trans (same_new hp)).trans (same_new ht)) (.inr (.inr ⟨z, w, ez, hg, ey, h1, h2, .inl ⟨hle, p, upd_same, ?_⟩⟩))
      rw [upd_ne (ne_of_none upd_same ht), upd_same]
    · refine ⟨false, x4.ot, (fun z => nomatch z), fun _ => ⟨false, x4.ow, (fun z => nomatch z), fun _ => ⟨true, x4.oo, fun _ a ha => ?_, (fun z => nomatch z)⟩⟩⟩
      refine ⟨_, rfl, rfl, rfl, d, _, _, rfl, upd_same, rfl, _, rfl, (by show 2 ≤ sizeLine; decide), fun p hp => ?_⟩
      have hd2 : (upd H1 d (LSM (.int m))) d = some (.xd [(("least" : Str), .int m)]) := upd_same
      refine ⟨CO, d, _, .ref p, false, rfl, rfl, XO.ask, (same_new hp) _ _ hd2, rfl, .inr ⟨p, _, _, rfl, upd_same, .cons (.own _) (.cons (.own _) .nil), x4.ko⟩, (by show 3 ≤ sizeLine; decide), fun t ht => ?_⟩
      exact q _ t (((s1.trans (same_new hd)).trans (same_new hp)).trans (same_new ht)) (.inr (.inr ⟨z, w, ez, hg, ey, h1, h2, .inr (.inl ⟨hlt, hno, m, hm, upd_same⟩)⟩))
    · refine ⟨_, rfl, (by show 2 ≤ sizeLine; decide), fun t ht => ?_⟩
      exact q _ t (s1.trans (same_new ht)) (.inr (.inr ⟨z, w, ez, hg, ey, h1, h2, .inr (.inr ⟨k, p, hlt, hb, upd_same, (same_new ht) _ _ hp⟩)⟩))
theorem ok_base {f : Addr} {fd : FuncData} {CT CW CO CE : Addr} (F : Fun K "_law_base" "_law_base" s__law_base f fd) (m_isinstance : mg "isinstance" = none) (m_ValueError : mg "ValueError" = none)
    (xT : XI P w K mg base "BadText" "at" CT) (xW : XI P w K mg base "BadWidth" "width" CW) (gE : mg "CaptionError" = some (.ref CE)) (x4 : EX4 K CT CW CO CE)
    (c_two_lines : CalX P w K mg base 4 "two_lines" (spTwo CT CW CO)) : FnOk P w K mg base CX0 5 f fd ["_law_text_here", "_law_width_here"] spBase := by
  obtain ⟨fIT, fdT, XT, FT, bT⟩ := xT.ex
  obtain ⟨fIW, fdW, XW, FW, bW⟩ := xW.ex
  refine F.ok sc__law_base (fun vs H Q E h => ?_) (fun cdv A outer s H vs Q E hr h => ?_)
  · obtain ⟨x, y, rfl, _⟩ := h
    rfl
  · obtain ⟨x, y, rfl, hx, hsz, hy, hor, q⟩ := h
    refine ⟨_, (pss_cons (ps_try_cl (Wo := fun _ _ _ _ => False) (tb := fun W => tDrop (tCallSD (spTwo CT CW CO) [] (WE W) (tCons (tVar 0) (tCons (tVar 1) tNil)))) rfl rfl sc__law_base.nd takes0
        (fun W pn xe tk _ => by
          refine pss_one (ps_expr ?_)
          refine pe_cX (k := 4) (j := 4) (sp := spTwo CT CW CO) ?_ ?_ ?_ ?_ ?_ ?_
          · exact c_two_lines
          · exact hr
          · decide
          · rfl
          · exact (fun σ => passAt tk σ)
          · exact (pa_cons (pv 0) (pa_cons (pv 1) pa_nil)))
        (.named (i := 2) ⟨rfl, by decide, .inl gE⟩ rfl rfl (fun a oe cls d pn hz hf => (pss_one (ps_ret (pe_callB (call_ask hz hf) (by rfl) m_isinstance (by decide +kernel) (pa_cons (pv 2) (pa_cons (pe_bltn (v := .ty "ValueError") (by rfl) m_ValueError (by decide +kernel) rfl) pa_nil)))))) .nil))
      (pss_one (ps_ret (pe_bl)))), ?_⟩
    refine ⟨_, rfl, _, rfl, x, y, rfl, hx, hsz, hy, fun hT H1 d s1 hd => ?_, fun hT hI H1 d s1 hd => ?_, fun z w ez hg ey h1 h2 => ?_⟩
    · refine ⟨true, x4.te, fun _ a ha => ?_, (fun z => nomatch z)⟩
      exact ⟨_, rfl, CT, d, _, _, true, rfl, rfl, XT.ask, upd_same, rfl, .inl ⟨_, .ty _, x4.vt⟩, q _ (s1.trans (same_new hd))⟩
    · refine ⟨true, x4.we, fun _ a ha => ?_, (fun z => nomatch z)⟩
      exact ⟨_, rfl, CW, d, _, _, true, rfl, rfl, XW.ask, upd_same, rfl, .inl ⟨_, .ty _, x4.vw⟩, q _ (s1.trans (same_new hd))⟩
    · exfalso
      rcases hor with h | h
      · rw [ez, textV_yes hg] at h
        cases h
      · rw [ey] at h
        have : (decide (1 ≤ w) && decide (w ≤ 60)) = false := h
        rw [decide_eq_true h1, decide_eq_true h2] at this
        cases this
end
end Sea
namespace Sea
open PySem PySem.Spec PyProof.Rows L2
/-! a thing that is no text -/
theorem at_any {xs : List V} {d : Int} (h0 : 0 ≤ d) (h1 : d < (xs.length : Nat)) : ∃ v, v ∈ xs ∧ atI xs d = some v := by
  obtain ⟨k, rfl⟩ : ∃ k : Nat, d = (k : Int) := ⟨d.toNat, by omega⟩
  have h2 : k < xs.length := by omega
  exact ⟨xs[k], List.getElem_mem h2, atI_nat (List.getElem?_eq_getElem h2)⟩
theorem app_cp (a b : Str) : cp (a ++ b) = cp a ++ cp b := by
  show (a.cps ++ b.cps).toList = _
  rw [Array.toList_append]
theorem app_len (a b : Str) : (a ++ b).length = a.length + b.length := by
  rw [← cp_len, ← cp_len, ← cp_len, app_cp, List.length_append]
abbrev B1 : Str := Str.ofString " "
abbrev B2 : Str := Str.ofString "  "
theorem len_b1 : B1.length = 1 := by decide +kernel
theorem len_b2 : B2.length = 2 := by decide +kernel
theorem bad_empty : ¬ Good (cp (Str.ofString "")) := fun g => by
  have h : (cp (Str.ofString "")).length = 0 := by decide +kernel
  have := g.some
  omega
theorem bad_head (z : Str) : ¬ Good (cp (B1 ++ z)) := fun g => g.head (by rw [app_cp, blank_cp]; rfl)
theorem bad_last (z : Str) : ¬ Good (cp (z ++ B1)) := fun g => g.last (by
  rw [app_cp, blank_cp, List.length_append]
  show (cp z ++ [32])[(cp z).length + 1 - 1]? = _
  rw [Nat.add_sub_cancel, List.getElem?_append_right (Nat.le_refl _), Nat.sub_self]
  rfl)
theorem bad_twin (a b : Str) : ¬ Good (cp ((a ++ B2) ++ b)) := fun g => by
  have h : twin (cp ((a ++ B2) ++ b)) = true := by
    refine (twin_iff _).mpr ⟨(cp a).length, ?_, ?_⟩
    · rw [app_cp, app_cp, two_cp, List.append_assoc, List.getElem?_append_right (Nat.le_refl _), Nat.sub_self]
      rfl
    · rw [app_cp, app_cp, two_cp, List.append_assoc, List.getElem?_append_right (Nat.le_succ _), show (cp a).length + 1 - (cp a).length = 1 by omega]
      rfl
  rw [g.twin] at h
  cases h
theorem cut_len {z : Str} {i : Int} (k : Nat) (e : i = (k : Int)) (h : k ≤ z.length) : (cutS z none (some i)).length = k := by
  rw [cutS_to e h, len_cutA h]
theorem cut_le (z : Str) (lo hi : Option Int) : (cutS z lo hi).length ≤ z.length := by
  rw [← cp_len]
  unfold cutS
  rw [cp_mk, List.length_take, List.length_drop]
  have e : z.cps.toList.length = z.length := cp_len z
  rw [e]
  omega
theorem bad_long {x : Str} (h : x.length = 61) : ¬ Good (cp x) := fun g => by
  have := g.most
  rw [cp_len] at this
  omega
section
variable {P : Program} {w : World} {K : PySem.W.Frag} {mg : Str → Option Value} {base : Heap}
theorem ok_no_text {f : Addr} {fd : FuncData} (F : Fun K "_law_no_text" "_law_no_text" s__law_no_text f fd) (m_len : mg "len" = none)
    (c__law_pick : Cal P w K mg base 1 "_law_pick" spPick) : FnOk P w K mg base CX0 2 f fd ["_law_tape_here", "_law_text_here"] spNoText := by
  refine F.ok sc__law_no_text (fun vs H Q E h => ?_) (fun cdv A outer s H vs Q E hr h => ?_)
  · obtain ⟨tp, cl, ns, z, rfl, _⟩ := h
    rfl
  · obtain ⟨tp, cl, ns, z, rfl, T, g, q⟩ := h
    have hz : z.length ≤ 60 := by have := g.most; rw [cp_len] at this; exact this
    have hz0 : 1 ≤ z.length := by have := g.some; rw [cp_len] at this; exact this
    have sz : ∀ n : Nat, n ≤ 1000 → n ≤ sizeLine := fun n h => Nat.le_of_lt (small1000 h)
    have hzl : z.length ≤ sizeLine := sz _ (by omega)
    refine ⟨_, (pss_cons (ps_set (i := 2) sc__law_no_text.nd rfl (Or.inl rfl) (pe_c c__law_pick hr (by decide) rfl (pa_cons (pv 0) (pa_cons (pe_callB call_len_str (by rfl) m_len (by decide +kernel) (pa_cons (pv 1) pa_nil)) pa_nil))))
    (pss_cons (ps_set (i := 3) sc__law_no_text.nd rfl (Or.inl rfl) (pe_lst (pa_cons (pe_str) (pa_cons (pe_op op_add_str (pe_str) (pv 1)) (pa_cons (pe_op op_add_str (pv 1) (pe_str)) (pa_cons (pe_op op_add_str (pe_op op_add_str (pe_slice sl_str (pv 1) po_none (po_some (pv 2))) (pe_str)) (pe_slice sl_str (pv 1) (po_some (pv 2)) po_none)) (pa_cons (pe_slice sl_str (pe_op op_add_str (pe_op op_add_str (pv 1) (pe_str)) (pe_op op_mulS (pe_str) (pe_int))) po_none (po_some (pe_int))) pa_nil)))))))
    (pss_cons (ps_set (i := 3) sc__law_no_text.nd rfl (Or.inl rfl) (pe_op op_cat (pv 3) (pe_lst (pa_cons (pe_non) (pa_cons (pe_int) (pa_cons (pe_bl) (pa_cons (pe_lst (pa_cons (pv 1) pa_nil)) (pa_cons (pe_tup (pa_cons (pv 1) pa_nil)) pa_nil))))))))
    (pss_one (ps_ret (pe_ix ix_list (pv 3) (pe_c c__law_pick hr (by decide) rfl (pa_cons (pv 0) (pa_cons (pe_callB call_len (by rfl) m_len (by decide +kernel) (pa_cons (pv 3) pa_nil)) pa_nil))) (fun _ _ => rfl))))))), ?_⟩
    refine ⟨_, rfl, _, rfl, z, rfl, hzl, tp, cl, ns, _, rfl, T, by omega, fun H1 d k1 T1 d0 d1 => ?_⟩
    have dl : d < (z.length : Int) := by omega
    have so : (Str.ofString "so on").length = 5 := by decide +kernel
    have rl : (repS (Str.ofString "so on") (12 : Int).toNat).length = 60 := by rw [repS_len, so]; rfl
    have l1 : ∀ x : Str, (B1 ++ x).length = 1 + x.length := fun x => by rw [app_len, len_b1]
    have l2 : ∀ x : Str, (x ++ B1).length = x.length + 1 := fun x => by rw [app_len, len_b1]
    have ca := cut_le z none (some d)
    have cb := cut_le z (some d) none
    have b1 := len_b1
    have b2 := len_b2
    have le : (z ++ B1 ++ repS (Str.ofString "so on") (12 : Int).toNat).length = z.length + 1 + 60 := by rw [app_len, l2, rl]
    have le2 : z.length + 1 + 60 ≤ 1000 := by omega
    refine ⟨_, rfl, _, _, rfl, rfl, sz _ (by rw [b1]; omega), _, rfl, _, _, rfl, rfl, sz _ (by rw [b1]; omega), ?_⟩
    refine ⟨_, rfl, _, rfl, d, rfl, z, rfl, hzl, _, _, rfl, rfl, sz _ (by rw [b2]; omega), _, rfl, _, rfl, d, rfl, z, rfl, hzl, _, _, rfl, rfl, sz _ (by rw [app_len, b2]; omega), ?_⟩
    refine ⟨_, rfl, _, _, rfl, rfl, sz _ (by rw [b1]; omega), _, _, rfl, rfl, ⟨by decide, by decide⟩, ⟨by rw [so]; decide, by rw [so]; decide⟩, _, _, rfl, rfl, sz _ (by rw [l2, rl]; omega), _, rfl, _, rfl, (by rw [le]; exact sz _ le2), (by show 5 ≤ sizeLine; decide), fun m1 hm1 => ?_⟩
    refine ⟨_, rfl, _, rfl, (by show 1 ≤ sizeLine; decide), fun a1 ha1 => ⟨_, rfl, (by show 1 ≤ sizeLine; decide), fun a2 ha2 => ⟨(by show 5 ≤ sizeLine; decide), fun m2 hm2 => ?_⟩⟩⟩
    have e5 : cutS (z ++ B1 ++ repS (Str.ofString "so on") (12 : Int).toNat) none (some 61) = cutA (z ++ B1 ++ repS (Str.ofString "so on") (12 : Int).toNat) 61 := cutS_to (k := 61) rfl (by rw [le]; omega)
    have l5 : (cutS (z ++ B1 ++ repS (Str.ofString "so on") (12 : Int).toNat) none (some 61)).length = 61 := by rw [e5, len_cutA (by rw [le]; omega)]
    have sA := same_new (o := .lst [V.str z]) ha1
    have sB := same_new (o := .tup [V.str z]) ha2
    have sC := same_new (o := .lst [V.non, V.int 7, V.bl true, V.ref a1, V.ref a2]) hm2
    refine ⟨_, _, _, _, rfl, rfl, sC _ _ (sB _ _ (sA _ _ upd_same)), upd_same, (by show 10 ≤ sizeLine; decide), fun p hp => ?_⟩
    have sD := same_new (o := .lst ([V.str (Str.ofString ""), V.str (B1 ++ z), V.str (z ++ B1), V.str (cutS z none (some d) ++ B2 ++ cutS z (some d) none), V.str (cutS (z ++ B1 ++ repS (Str.ofString "so on") (12 : Int).toNat) none (some 61))] ++ [V.non, V.int 7, V.bl true, V.ref a1, V.ref a2])) hp
    have T2 := ((((T1.new hm1).new ha1).new ha2).new hm2).new (o := .lst ([V.str (Str.ofString ""), V.str (B1 ++ z), V.str (z ++ B1), V.str (cutS z none (some d) ++ B2 ++ cutS z (some d) none), V.str (cutS (z ++ B1 ++ repS (Str.ofString "so on") (12 : Int).toNat) none (some 61))] ++ [V.non, V.int 7, V.bl true, V.ref a1, V.ref a2])) hp
    refine ⟨_, rfl, _, rfl, _, rfl, _, 10, rfl, .inl ⟨_, SqL.of upd_same, rfl⟩, tp, cl, ns, 10, rfl, T2, by decide, fun H2 e k2 T3 e0 e1 => ?_⟩
    have np := (((((T1.new hm1).new ha1).new ha2).new hm2).fresh hp).1
    have na1 := ((T1.new hm1).fresh ha1).1
    have na2 := (((T1.new hm1).new ha1).fresh ha2).1
    have hP := k2 p _ np.symm upd_same
    have hA1 := k2 a1 _ na1.symm (sD _ _ (sC _ _ (sB _ _ upd_same)))
    have hA2 := k2 a2 _ na2.symm (sD _ _ (sC _ _ upd_same))
    obtain ⟨v, hv, hat⟩ := at_any (xs := [V.str (Str.ofString ""), V.str (B1 ++ z), V.str (z ++ B1), V.str (cutS z none (some d) ++ B2 ++ cutS z (some d) none), V.str (cutS (z ++ B1 ++ repS (Str.ofString "so on") (12 : Int).toNat) none (some 61)), V.non, V.int 7, V.bl true, V.ref a1, V.ref a2]) e0 (by rcases e1 with h | h <;> simp <;> omega)
    refine ⟨p, _, e, v, rfl, rfl, SqL.of hP, hat, ?_⟩
    have kk : KB tp H H2 := k1.trans (((((KB.refl tp H1).over hm1).trans (.of_same sA)).trans ((KB.of_same sB).trans ((KB.of_same sC).trans (.of_same sD)))).trans k2)
    have str : ∀ x : Str, x.length ≤ 1000 → ¬ Good (cp x) → v = .str x → Q v H2 := fun x hx hb ev => by
      subst ev
      exact q H2 _ kk T3 (.inl trivial) (fun y ey => by cases ey; exact hx) (textV_no fun y ey => by cases ey; exact hb)
    have oth : Plain v → (∀ x, v ≠ .str x) → Q v H2 := fun hp hn => q H2 _ kk T3 (.inl hp) (fun y ey => absurd ey (hn y)) (textV_no fun y ey => absurd ey (hn y))
    rcases List.mem_cons.mp hv with h | hv
    · exact str _ (by decide +kernel) bad_empty h
    rcases List.mem_cons.mp hv with h | hv
    · exact str _ (by rw [l1]; omega) (bad_head z) h
    rcases List.mem_cons.mp hv with h | hv
    · exact str _ (by rw [l2]; omega) (bad_last z) h
    rcases List.mem_cons.mp hv with h | hv
    · exact str _ (by rw [app_len, app_len, b2]; omega) (bad_twin _ _) h
    rcases List.mem_cons.mp hv with h | hv
    · exact str _ (by rw [l5]; decide) (bad_long l5) h
    rcases List.mem_cons.mp hv with h | hv
    · subst h; exact oth trivial fun x e => nomatch e
    rcases List.mem_cons.mp hv with h | hv
    · subst h; exact oth trivial fun x e => nomatch e
    rcases List.mem_cons.mp hv with h | hv
    · subst h; exact oth trivial fun x e => nomatch e
    rcases List.mem_cons.mp hv with h | hv
    · subst h
      exact q H2 _ kk T3 (.inr ⟨a1, _, rfl, .inl hA1⟩) (fun y ey => nomatch ey) rfl
    · rw [List.mem_singleton.mp hv]
      exact q H2 _ kk T3 (.inr ⟨a2, _, rfl, .inr hA2⟩) (fun y ey => nomatch ey) rfl
end
end Sea
namespace Sea
open PySem PySem.Spec PyProof.Rows L2
/-! the law -/
theorem paired_at {α β : Type} {R : α → β → Prop} : ∀ {l : List α} {r : List β}, Paired R l r → l.length = r.length ∧ ∀ (i : Nat) (u : α) (v : β), l[i]? = some u → r[i]? = some v → R u v
  | _, _, .nil => ⟨rfl, fun i u v h _ => by cases i <;> cases h⟩
  | _, _, .cons h t => by
    obtain ⟨e, q⟩ := paired_at t
    refine ⟨congrArg (· + 1) e, fun i u v h1 h2 => ?_⟩
    cases i with
    | zero =>
      cases h1
      cases h2
      exact h
    | succ i => exact q i u v h1 h2
theorem same_tup {n : Nat} {H : Hp} {a b : Addr} {xs ys : List V} (ha : H a = some (.tup xs)) (hb : H b = some (.tup ys)) (hl : ys.length ≤ 1000) (h : Paired (SameV n H) xs ys) : SameV (n + 1) H (.ref a) (.ref b) :=
  .inr ⟨a, b, xs, ys, rfl, rfl, ha, hb, (paired_at h).1, hl, (paired_at h).2⟩
theorem same_eq {n : Nat} {H : Hp} {x : V} (h : Plain x) : SameV n H x x := by
  cases n with
  | zero => exact ⟨h, rfl⟩
  | succ n => exact .inl ⟨h, rfl⟩
theorem DueAt.keep {z : Str} {w : Int} {H H' : Hp} {p : Addr} (h : DueAt z w H p) (s : Same H H') : DueAt z w H' p := by
  rcases h with ⟨h1, t, h2, h3⟩ | ⟨h1, h2, m, h3, h4⟩ | ⟨k, t, h1, h2, h3, h4⟩
  · exact .inl ⟨h1, t, s _ _ h2, s _ _ h3⟩
  · exact .inr (.inl ⟨h1, h2, m, h3, s _ _ h4⟩)
  · exact .inr (.inr ⟨k, t, h1, h2, s _ _ h3, s _ _ h4⟩)
theorem same_due {z : Str} {w : Int} {H : Hp} {p b : Addr} (h : DueAt z w H p) (g : DueAt z w H b) : SameV 2 H (.ref p) (.ref b) := by
  rcases h with ⟨h1, t, h2, h3⟩ | ⟨h1, h2, m, h3, h4⟩ | ⟨k, t, h1, h2, h3, h4⟩ <;> rcases g with ⟨g1, u, g2, g3⟩ | ⟨g1, g2, n, g3, g4⟩ | ⟨j, u, g1, g2, g3, g4⟩
  · exact same_tup h2 g2 (by simp) (.cons (same_eq trivial) (.cons (same_tup h3 g3 (by simp) (.cons (same_eq trivial) .nil)) .nil))
  · omega
  · omega
  · omega
  · rw [h3.one g3] at h4
    exact same_tup h4 g4 (by simp) (.cons (same_eq trivial) (.cons (same_eq trivial) (.cons (same_eq trivial) .nil)))
  · exact absurd g2.fits (h2 _ g2.at_)
  · omega
  · exact absurd h2.fits (g2 _ h2.at_)
  · rw [h2.one g2] at h4
    exact same_tup h3 g3 (by simp) (.cons (same_eq trivial) (.cons (same_tup h4 g4 (by simp) (.cons (same_eq trivial) (.cons (same_eq trivial) .nil))) .nil))
theorem good_len {z : Str} (g : Good (cp z)) : 1 ≤ z.length ∧ z.length ≤ 60 := by
  have h1 := g.some
  have h2 := g.most
  rw [cp_len] at h1 h2
  exact ⟨h1, h2⟩
theorem least_in {z : Str} {m : Int} (g : Good (cp z)) (h : LeastW z m) : 1 ≤ m ∧ m ≤ 60 ∧ m ≤ (z.length : Int) := by
  obtain ⟨l1, l2⟩ := good_len g
  refine ⟨?_, ?_, h.top⟩
  · rcases h.is with e | ⟨k, hk, e⟩
    · omega
    · have hlt := blank_lt hk
      have h0 : k ≠ 0 := fun e0 => g.head (by rw [← e0]; exact hk)
      have : 1 ≤ wid z.length k := by unfold wid; omega
      omega
  · have := h.top
    omega
def spLaw (K : PySem.W.Frag) : Sp := fun vs H Q _ => ∃ (a : Addr) (ns : List Int), vs = [.ref a] ∧ SqL K H a (ns.map V.int) ∧ ns.length ≤ 63 ∧ ∀ H', Q (.bl true) H'
section
variable {P : Program} {w : World} {K : PySem.W.Frag} {mg : Str → Option Value} {base : Heap}
theorem ok_law {f : Addr} {fd : FuncData} (F : Fun K "law" "law" s_law f fd)
    (c__law_tape : Cal P w K mg base 1 "_law_tape" (spTape K)) (c__law_pick : Cal P w K mg base 1 "_law_pick" spPick) (c__law_wide_text : Cal P w K mg base 4 "_law_wide_text" spWide) (c__law_least : Cal P w K mg base 1 "_law_least" spLeast)
    (c__law_width : Cal P w K mg base 3 "_law_width" spWidth) (c__law_due : Cal P w K mg base 2 "_law_due" spDue) (c__law_same : Cal P w K mg base 3 "_law_same" (spSame 2)) (c__law_told : Cal P w K mg base 5 "_law_told" spTold)
    (c__law_base : Cal P w K mg base 5 "_law_base" spBase) (c__law_no_text : Cal P w K mg base 2 "_law_no_text" spNoText) :
    FnOk P w K mg base CX0 6 f fd ["_law_script"] (spLaw K) := by
  refine F.ok sc_law (fun vs H Q E h => ?_) (fun cdv A outer s H vs Q E hr h => ?_)
  · obtain ⟨a, ns, rfl, _⟩ := h
    rfl
  · obtain ⟨a, ns, rfl, hS, hlen, q⟩ := h
    refine ⟨_, (pss_cons (ps_set (i := 1) sc_law.nd rfl (Or.inl rfl) (pe_c c__law_tape hr (by decide) rfl (pa_cons (pv 0) pa_nil)))
    (pss_cons (ps_set (i := 2) sc_law.nd rfl (Or.inl rfl) (pe_c c__law_wide_text hr (by decide) rfl (pa_cons (pv 1) pa_nil)))
    (pss_cons (ps_set (i := 3) sc_law.nd rfl (Or.inl rfl) (pe_c c__law_width hr (by decide) rfl (pa_cons (pv 1) (pa_cons (pv 2) pa_nil))))
    (pss_cons (ps_set (i := 4) sc_law.nd rfl (Or.inl rfl) (pe_c c__law_wide_text hr (by decide) rfl (pa_cons (pv 1) pa_nil)))
    (pss_cons (ps_set (i := 5) sc_law.nd rfl (Or.inl rfl) (pe_c c__law_width hr (by decide) rfl (pa_cons (pv 1) (pa_cons (pv 4) pa_nil))))
    (pss_cons (ps_set (i := 6) sc_law.nd rfl (Or.inl rfl) (pe_c c__law_due hr (by decide) rfl (pa_cons (pv 2) (pa_cons (pv 3) pa_nil))))
    (pss_cons (ps_if (pt_not (pt_val (pe_c c__law_same hr (by decide) rfl (pa_cons (pe_c c__law_told hr (by decide) rfl (pa_cons (pv 2) (pa_cons (pv 3) pa_nil))) (pa_cons (pv 6) pa_nil)))))
    (pss_one (ps_ret (pe_bl)))
    pss_nil)
    (pss_cons (ps_if (pt_not (pt_val (pe_c c__law_same hr (by decide) rfl (pa_cons (pe_c c__law_told hr (by decide) rfl (pa_cons (pv 4) (pa_cons (pv 5) pa_nil))) (pa_cons (pe_c c__law_due hr (by decide) rfl (pa_cons (pv 4) (pa_cons (pv 5) pa_nil))) pa_nil)))))
    (pss_one (ps_ret (pe_bl)))
    pss_nil)
    (pss_cons (ps_if (pt_not (pt_val (pe_c c__law_same hr (by decide) rfl (pa_cons (pe_c c__law_told hr (by decide) rfl (pa_cons (pv 2) (pa_cons (pv 3) pa_nil))) (pa_cons (pv 6) pa_nil)))))
    (pss_one (ps_ret (pe_bl)))
    pss_nil)
    (pss_cons (ps_set (i := 7) sc_law.nd rfl (Or.inl rfl) (pe_c c__law_least hr (by decide) rfl (pa_cons (pv 2) pa_nil)))
    (pss_cons (ps_if (pt_not (pt_val (pe_c c__law_same hr (by decide) rfl (pa_cons (pe_c c__law_told hr (by decide) rfl (pa_cons (pv 2) (pa_cons (pv 7) pa_nil))) (pa_cons (pe_c c__law_due hr (by decide) rfl (pa_cons (pv 2) (pa_cons (pv 7) pa_nil))) pa_nil)))))
    (pss_one (ps_ret (pe_bl)))
    pss_nil)
    (C8.pss_cut (ps_if (PW.pt (pw_and (pt_cmpR op_gt (pv 7) (pe_int) (nomark _)) (pw_and1 (pt_not (pt_val (pe_c c__law_same hr (by decide) rfl (pa_cons (pe_c c__law_told hr (by decide) rfl (pa_cons (pv 2) (pa_cons (pe_op op_sub (pv 7) (pe_int)) pa_nil))) (pa_cons (pe_tup (pa_cons (pe_str) (pa_cons (pv 7) (pa_cons (pe_bl) pa_nil)))) pa_nil))))))))
    (pss_one (ps_ret (pe_bl)))
    pss_nil)
    (pss_cons (ps_set (i := 8) sc_law.nd rfl (Or.inl rfl) (pe_c c__law_no_text hr (by decide) rfl (pa_cons (pv 1) (pa_cons (pv 2) pa_nil))))
    (pss_cons (ps_set (i := 9) sc_law.nd rfl (Or.inl rfl) (pe_ix ix_list (pe_lst (pa_cons (pe_int) (pa_cons (pe_int) (pa_cons (pe_un un_neg (pe_int)) (pa_cons (pe_op op_powB (pe_int) (pe_int)) (pa_cons (pe_non) (pa_cons (pe_bl) (pa_cons (pe_str) (pa_cons (pe_bl) pa_nil))))))))) (pe_c c__law_pick hr (by decide) rfl (pa_cons (pv 1) (pa_cons (pe_int) pa_nil))) (fun _ _ => rfl)))
    (pss_cons (ps_if (pt_not (pt_val (pe_c c__law_same hr (by decide) rfl (pa_cons (pe_c c__law_told hr (by decide) rfl (pa_cons (pv 8) (pa_cons (pv 3) pa_nil))) (pa_cons (pe_tup (pa_cons (pe_str) (pa_cons (pe_un un_neg (pe_int)) (pa_cons (pe_bl) pa_nil)))) pa_nil)))))
    (pss_one (ps_ret (pe_bl)))
    pss_nil)
    (pss_cons (ps_if (pt_not (pt_val (pe_c c__law_same hr (by decide) rfl (pa_cons (pe_c c__law_told hr (by decide) rfl (pa_cons (pv 8) (pa_cons (pv 9) pa_nil))) (pa_cons (pe_tup (pa_cons (pe_str) (pa_cons (pe_un un_neg (pe_int)) (pa_cons (pe_bl) pa_nil)))) pa_nil)))))
    (pss_one (ps_ret (pe_bl)))
    pss_nil)
    (pss_cons (ps_if (pt_not (pt_val (pe_c c__law_same hr (by decide) rfl (pa_cons (pe_c c__law_told hr (by decide) rfl (pa_cons (pv 2) (pa_cons (pv 9) pa_nil))) (pa_cons (pe_tup (pa_cons (pe_str) (pa_cons (pv 9) (pa_cons (pe_bl) pa_nil)))) pa_nil)))))
    (pss_one (ps_ret (pe_bl)))
    pss_nil)
    (pss_one (ps_ret (pe_and (pe_c c__law_base hr (by decide) rfl (pa_cons (pv 8) (pa_cons (pv 3) pa_nil))) (pe_one (pe_c c__law_base hr (by decide) rfl (pa_cons (pv 2) (pa_cons (pv 9) pa_nil)))))))))))))))))))))))), ?_⟩
    -- the tape, the texts, the widths
    have szp : ∀ (x : Str), x.length ≤ 60 → ∀ y, V.str x = V.str y → y.length ≤ 1000 := fun x hx y e => by
      cases e
      omega
    refine ⟨_, rfl, a, ns, rfl, hS, hlen, fun H1 tp cl ns' s1 T1 => ?_⟩
    refine ⟨_, rfl, tp, cl, ns', rfl, T1, fun H2 z k2 T2 g => ?_⟩
    obtain ⟨zl, zm⟩ := good_len g
    have hz : z.length ≤ 1000 := by omega
    refine ⟨_, rfl, _, rfl, tp, cl, ns', z, rfl, T2, hz, fun H3 m k3 T3 m0 m1 => ?_⟩
    refine ⟨_, rfl, tp, cl, ns', rfl, T3, fun H4 z' k4 T4 g' => ?_⟩
    obtain ⟨zl', zm'⟩ := good_len g'
    have hz' : z'.length ≤ 1000 := by omega
    refine ⟨_, rfl, _, rfl, tp, cl, ns', z', rfl, T4, hz', fun H5 m' k5 T5 m0' m1' => ?_⟩
    refine ⟨_, rfl, _, rfl, z, m, rfl, hz, fun H6 b s6 hb => ?_⟩
    have T6 := T5.same s6
    -- what is told of a good text and a width is what is due
    have told : ∀ {x : Str} {w : Int} {H : Hp} {p : Addr}, Good (cp x) → 1 ≤ w → w ≤ 60 → ToldAt (.str x) (.int w) H p → DueAt x w H p := fun {x w H p} gx w0 w1 h => by
      rcases h with ⟨h, _⟩ | ⟨_, h, _⟩ | ⟨x', w', ex, _, ew, _, _, h⟩
      · rw [textV_yes gx] at h
        cases h
      · have h' : (decide (1 ≤ w) && decide (w ≤ 60)) = false := h
        rw [decide_eq_true w0, decide_eq_true w1] at h'
        cases h'
      · cases ex
        cases ew
        exact h
    refine ⟨_, rfl, _, rfl, .str z, .int m, rfl, .inl trivial, szp z zm, trivial, fun H7 p7 s7 h7 => ⟨_, rfl, _, _, rfl, same_due (told g m0 m1 h7) (hb.keep s7), fun H8 s8 => ⟨_, rfl, ?_⟩⟩⟩
    have b8 := (hb.keep s7).keep s8
    have T8 := (T6.same s7).same s8
    refine ⟨_, rfl, _, rfl, .str z', .int m', rfl, .inl trivial, szp z' zm', trivial, fun H9 p9 s9 h9 => ⟨_, rfl, _, rfl, z', m', rfl, hz', fun H10 p10 s10 h10 => ⟨_, _, rfl, same_due ((told g' m0' m1' h9).keep s10) h10, fun H11 s11 => ⟨_, rfl, ?_⟩⟩⟩⟩
    have s811 := (s9.trans s10).trans s11
    have b11 := b8.keep s811
    have T11 := T8.same s811
    refine ⟨_, rfl, _, rfl, .str z, .int m, rfl, .inl trivial, szp z zm, trivial, fun H12 p12 s12 h12 => ⟨_, rfl, _, _, rfl, same_due (told g m0 m1 h12) (b11.keep s12), fun H13 s13 => ⟨_, rfl, ?_⟩⟩⟩
    have T13 := (T11.same s12).same s13
    refine ⟨_, rfl, z, rfl, hz, fun l hl => ?_⟩
    obtain ⟨l0, l1, l2⟩ := least_in g hl
    refine ⟨_, rfl, _, rfl, .str z, .int l, rfl, .inl trivial, szp z zm, trivial, fun H14 p14 s14 h14 => ⟨_, rfl, _, rfl, z, l, rfl, hz, fun H15 p15 s15 h15 => ⟨_, _, rfl, same_due ((told g l0 l1 h14).keep s15) h15, fun H16 s16 => ⟨_, rfl, ?_⟩⟩⟩⟩
    have T16 := ((T13.same s14).same s15).same s16
    -- one less than the least width
    refine ⟨fun σ' H' => σ' = [some (.ref a), some (.ref tp), some (.str z), some (.int m), some (.str z'), some (.int m'), some (.ref b), some (.int l), none, none] ∧ Tape H' tp cl ns', ?_, ?_⟩
    · refine ⟨_, rfl, _, _, rfl, rfl, _, rfl, ite2 (fun e => ?_) (fun _ => ⟨rfl, T16⟩)⟩
      have l3 : 1 < l := of_decide_eq_true e
      refine ⟨_, rfl, _, rfl, _, _, rfl, rfl, .str z, .int (l - 1), rfl, .inl trivial, szp z zm, trivial, fun H17 p17 s17 h17 => ⟨_, rfl, (by show 3 ≤ sizeLine; decide), fun c hc => ⟨_, _, rfl, ?_, fun H18 s18 => ⟨_, rfl, rfl, ((T16.same s17).new hc).same s18⟩⟩⟩⟩
      have hd : (upd H17 c (.tup [V.str (Str.ofString "TooWide"), V.int l, V.bl false])) c = some (.tup [V.str (Str.ofString "TooWide"), V.int l, V.bl false]) := upd_same
      rcases told g (by omega) (by omega) h17 with ⟨h, _⟩ | ⟨_, _, n, hn, hp⟩ | ⟨k, t, _, hk, _⟩
      · omega
      · rw [hn.one hl] at hp
        exact same_tup ((same_new hc) _ _ hp) hd (by simp) (.cons (same_eq trivial) (.cons (same_eq trivial) (.cons (same_eq trivial) .nil)))
      · have q1 := hk.fits
        have q2 := hl.low k hk.at_
        omega
    · rintro σ' Ht ⟨rfl, Tt⟩
      refine ⟨_, rfl, _, rfl, tp, cl, ns', z, rfl, Tt, g, fun H1 bad k1 T1 hany hsz htx => ?_⟩
      refine ⟨1, rfl, _, _, rfl, rfl, ⟨by decide, by decide +kernel⟩, (by show 8 ≤ sizeLine; decide), fun p hp => ?_⟩
      refine ⟨_, rfl, tp, cl, ns', 8, rfl, T1.new hp, by decide, fun H2 d k2 T2 d0 d1 => ?_⟩
      have np := (T1.fresh hp).1
      have hP := k2 p _ np.symm upd_same
      obtain ⟨v, hv, hat⟩ := at_any (xs := [V.int 0, V.int 61, V.int (-1), V.int (10 ^ (39 : Int).toNat), V.non, V.bl true, V.str (Str.ofString "12"), V.bl false]) d0 (by rcases d1 with h | h <;> simp <;> omega)
      refine ⟨p, _, d, v, rfl, rfl, SqL.of hP, hat, ?_⟩
      have hpl : Plain v ∧ inside v 1 60 = false := by
        rcases List.mem_cons.mp hv with h | hv
        · subst h; exact ⟨trivial, by decide +kernel⟩
        rcases List.mem_cons.mp hv with h | hv
        · subst h; exact ⟨trivial, by decide +kernel⟩
        rcases List.mem_cons.mp hv with h | hv
        · subst h; exact ⟨trivial, by decide +kernel⟩
        rcases List.mem_cons.mp hv with h | hv
        · subst h; exact ⟨trivial, by decide +kernel⟩
        rcases List.mem_cons.mp hv with h | hv
        · subst h; exact ⟨trivial, rfl⟩
        rcases List.mem_cons.mp hv with h | hv
        · subst h; exact ⟨trivial, rfl⟩
        rcases List.mem_cons.mp hv with h | hv
        · subst h; exact ⟨trivial, rfl⟩
        · rw [List.mem_singleton.mp hv]; exact ⟨trivial, rfl⟩
      obtain ⟨hvp, hvi⟩ := hpl
      -- what is no text stays what it is
      have any2 : AnyV H2 bad := by
        rcases hany with h | ⟨x, xs, rfl, h⟩
        · exact .inl h
        · by_cases e : x = tp
          · subst e
            obtain ⟨i, r, y, c, h, _⟩ := T2.ex
            exact .inr ⟨x, _, rfl, .inl h⟩
          · have e' : (upd H1 p (.lst [V.int 0, V.int 61, V.int (-1), V.int (10 ^ (39 : Int).toNat), V.non, V.bl true, V.str (Str.ofString "12"), V.bl false])) x = H1 x := upd_ne (by
              intro e2
              subst e2
              rcases h with h | h <;> rw [hp] at h <;> cases h)
            rcases h with h | h
            · exact .inr ⟨x, xs, rfl, .inl (k2 x _ e (e'.trans h))⟩
            · exact .inr ⟨x, xs, rfl, .inr (k2 x _ e (e'.trans h))⟩
      have anyS : ∀ {H H' : Hp}, AnyV H bad → Same H H' → AnyV H' bad := fun {H H'} h s => by
        rcases h with h | ⟨x, xs, e, h | h⟩
        · exact .inl h
        · exact .inr ⟨x, xs, e, .inl (s _ _ h)⟩
        · exact .inr ⟨x, xs, e, .inr (s _ _ h)⟩
      have btold : ∀ {y : V} {H : Hp} {p : Addr}, ToldAt bad y H p → H p = some (.tup [V.str (Str.ofString "BadText"), V.int (-1), V.bl false]) := fun {y H p} h => by
        rcases h with ⟨_, h⟩ | ⟨h, _⟩ | ⟨x', w', ex, gx, _⟩
        · exact h
        · rw [htx] at h
          cases h
        · rw [ex, textV_yes gx] at htx
          cases htx
      have wtold : ∀ {H : Hp} {p : Addr}, ToldAt (.str z) v H p → H p = some (.tup [V.str (Str.ofString "BadWidth"), v, V.bl false]) := fun {H p} h => by
        rcases h with ⟨h, _⟩ | ⟨_, _, h⟩ | ⟨x', w', _, _, ew, w0, w1, _⟩
        · rw [textV_yes g] at h
          cases h
        · exact h
        · rw [ew] at hvi
          have h' : (decide (1 ≤ w') && decide (w' ≤ 60)) = false := hvi
          rw [decide_eq_true w0, decide_eq_true w1] at h'
          cases h'
      -- ("BadText", -1, False), twice
      refine ⟨_, rfl, _, rfl, bad, .int m, rfl, any2, hsz, trivial, fun H3 p3 s3 h3 => ⟨1, rfl, (by show 3 ≤ sizeLine; decide), fun c3 hc3 => ⟨_, _, rfl, same_tup ((same_new hc3) _ _ (btold h3)) upd_same (by simp) (.cons (same_eq trivial) (.cons (same_eq trivial) (.cons (same_eq trivial) .nil))), fun H4 s4 => ⟨_, rfl, ?_⟩⟩⟩⟩
      have S4 := (s3.trans (same_new hc3)).trans s4
      refine ⟨_, rfl, _, rfl, bad, v, rfl, anyS any2 S4, hsz, hvp, fun H5 p5 s5 h5 => ⟨1, rfl, (by show 3 ≤ sizeLine; decide), fun c5 hc5 => ⟨_, _, rfl, same_tup ((same_new hc5) _ _ (btold h5)) upd_same (by simp) (.cons (same_eq trivial) (.cons (same_eq trivial) (.cons (same_eq trivial) .nil))), fun H6 s6 => ⟨_, rfl, ?_⟩⟩⟩⟩
      have S6 := S4.trans ((s5.trans (same_new hc5)).trans s6)
      refine ⟨_, rfl, _, rfl, .str z, v, rfl, .inl trivial, szp z zm, hvp, fun H7 p7 s7 h7 => ⟨_, rfl, (by show 3 ≤ sizeLine; decide), fun c7 hc7 => ⟨_, _, rfl, same_tup ((same_new hc7) _ _ (wtold h7)) upd_same (by simp) (.cons (same_eq trivial) (.cons (same_eq hvp) (.cons (same_eq trivial) .nil))), fun H8 s8 => ⟨_, rfl, ?_⟩⟩⟩⟩
      have S8 := S6.trans ((s7.trans (same_new hc7)).trans s8)
      refine ⟨_, rfl, _, rfl, bad, .int m, rfl, anyS any2 S8, hsz, trivial, .inl htx, fun H9 s9 => ⟨true, rfl, iteT ⟨_, rfl, _, rfl, .str z, v, rfl, .inl trivial, szp z zm, hvp, .inr hvi, fun H10 s10 => q H10⟩⟩⟩
end
end Sea
namespace Sea
open PySem PySem.Spec PyProof.Rows L2
/-! what the top has left -/
theorem exm_mk {K : PySem.W.Frag} {T S : Addr} {b : Bool} (h1 : PySem.W.subIn K (.ref S) (.type "BaseException") = some true) (h2 : PySem.W.isClsIn K S = true) (h3 : PySem.W.typeIn K (.ref S) = some (.type "type")) (h4 : PySem.W.subIn K (.ref T) (.ref S) = some b) :
    PySem.W.exmOne K (.ref T) (.ref S) = some b := by
  have e1 : (PySem.W.subIn K (.ref S) (.type "BaseException") == some true) = true := by rw [h1] <;> rfl
  have e2 : ((PySem.W.clsIn K S).isSome && PySem.W.typeIn K (.ref S) == some (.type "type")) = true := by
    have h2' : (PySem.W.clsIn K S).isSome = true := h2
    rw [h2', h3] <;> rfl
  show (if (PySem.W.subIn K (.ref S) (.type "BaseException") == some true) = true then (if ((PySem.W.clsIn K S).isSome && PySem.W.typeIn K (.ref S) == some (.type "type")) = true then PySem.W.subIn K (.ref T) (.ref S) else none) else none) = some b
  rw [if_pos e1, if_pos e2]
  exact h4
theorem kit_no {K : PySem.W.Frag} {T S : Addr} (h0 : PySem.W.subIn K (.ref T) (.ref T) = some true) (h2 : PySem.W.isClsIn K S = true) (h3 : PySem.W.typeIn K (.ref S) = some (.type "type")) (h4 : PySem.W.subIn K (.ref T) (.ref S) = some false) :
    PySem.W.kitOne K (.ref T) (.ref S) = some false := by
  have ne : ((Value.ref T == Value.ref S) = true) → False := fun e => by
    have e' : Value.ref T = Value.ref S := eq_of_beq e
    rw [← e', h0] at h4
    cases h4
  have e2 : ((PySem.W.clsIn K S).isSome && PySem.W.typeIn K (.ref S) == some (.type "type")) = true := by
    have h2' : (PySem.W.clsIn K S).isSome = true := h2
    rw [h2', h3] <;> rfl
  show (if (Value.ref T == Value.ref S) = true then some true else if ((PySem.W.clsIn K S).isSome && PySem.W.typeIn K (.ref S) == some (.type "type")) = true then PySem.W.subIn K (.ref T) (.ref S) else none) = some false
  rw [if_neg ne, if_pos e2]
  exact h4
theorem kit_ve {K : PySem.W.Frag} {T : Addr} (h : PySem.W.subIn K (.ref T) (.type "ValueError") = some true) : PySem.W.kitOne K (.ref T) (.type "ValueError") = some true := by
  show (if (Value.ref T == Value.type "ValueError") = true then some true else if PySem.W.kitMeta "ValueError" = true then PySem.W.subIn K (.ref T) (.type "ValueError") else none) = some true
  rw [if_neg (fun e => nomatch (eq_of_beq e : Value.ref T = Value.type "ValueError")), if_pos (by decide +kernel)]
  exact h
theorem kit_two {K : PySem.W.Frag} {T A B : Addr} (h1 : PySem.W.kitOne K (.ref T) (.ref A) = some false) (h2 : PySem.W.kitOne K (.ref T) (.ref B) = some false) : PySem.W.kitAny K (.ref T) [.ref A, .ref B] = some false :=
  kitAny_cons h1 (fun _ => kitAny_cons h2 (fun _ => rfl) (fun z => nomatch z)) (fun z => nomatch z)
theorem ok_same2 {P : Program} {w : World} {K : PySem.W.Frag} {mg : Str → Option Value} {base : Heap} {f : Addr} {fd : FuncData} (F : Fun K "_law_same" "_law_same" s__law_same f fd) (m_isinstance : mg "isinstance" = none) (m_tuple : mg "tuple" = none) (m_bool : mg "bool" = none) (m_str : mg "str" = none) (m_int : mg "int" = none)
    (m_len : mg "len" = none) (m_all : mg "all" = none) (m_range : mg "range" = none) (g : mg "_law_same" = some (.ref f)) (kp : PySem.W.keepIn K (.ref f) = true) (b : Binds K fd ["_law_told_here", "_law_due_here"] []) :
    FnOk P w K mg base CX0 3 f fd ["_law_told_here", "_law_due_here"] (spSame 2) := by
  have f0 : FnOk P w K mg base CX0 0 f fd ["_law_told_here", "_law_due_here"] spNever := ⟨fun _ _ _ _ h => h.elim, fun _ _ _ _ _ _ _ _ _ _ _ _ _ h => h.elim⟩
  have step : ∀ {k n : Nat}, FnOk P w K mg base CX0 k f fd ["_law_told_here", "_law_due_here"] (spSame n) → FnOk P w K mg base CX0 (k + 1) f fd ["_law_told_here", "_law_due_here"] (spSame (n + 1)) := fun {k n} h =>
    ok_same_at F m_isinstance m_tuple m_bool m_str m_int m_len m_all m_range ⟨f, fd, _, h, g, kp, b⟩ fun vs H Q E hs => by
      obtain ⟨x, y, rfl, hw, q⟩ := hs
      refine ⟨x, y, rfl, q, ?_⟩
      rcases hw with hw | ⟨a, b, xs, ys, h1, h2, h3, h4, h5, h6, h7⟩
      · exact .inl hw
      · exact .inr ⟨a, b, xs, ys, h1, h2, h3, h4, h5, h6, fun i u v e1 e2 H1 Q1 E1 s1 q1 => ⟨u, v, rfl, (h7 i u v e1 e2).keep s1, q1⟩⟩
  have f1 : FnOk P w K mg base CX0 1 f fd ["_law_told_here", "_law_due_here"] (spSame 0) :=
    ok_same_at F m_isinstance m_tuple m_bool m_str m_int m_len m_all m_range ⟨f, fd, _, f0, g, kp, b⟩ fun vs H Q E hs => by
      obtain ⟨x, y, rfl, hw, q⟩ := hs
      exact ⟨x, y, rfl, q, .inl hw⟩
  exact step (step f1)

theorem all_mk {l : PySem.W.OpenLaw} {w : World} {K : PySem.W.Frag} {h : Heap} {mg : Str → Option Value} {fa CE CT CW CO f_is_integer f_is_within f_has_percent f_is_text f_breaks_of f_wider f_difference f_two_lines f__law_tape f__law_pick f__law_some f__law_text f__law_same f__law_wide_text f__law_least f__law_width f__law_due f__law_told f__law_base f__law_no_text f_law f_iT f_iW f_iO : Addr} (X : K.In h) (G : h.Ns mainGlobals mg) (hfa : mg "law" = some (.ref fa))
    {od_is_integer an_is_integer od_is_within an_is_within od_has_percent an_has_percent od_is_text an_is_text od_breaks_of an_breaks_of od_wider an_wider od_difference an_difference od_two_lines an_two_lines od__law_tape an__law_tape od__law_pick an__law_pick od__law_some an__law_some od__law_text an__law_text od__law_same an__law_same od__law_wide_text an__law_wide_text od__law_least an__law_least od__law_width an__law_width od__law_due an__law_due od__law_told an__law_told od__law_base an__law_base od__law_no_text an__law_no_text od_law an_law od_iT an_iT od_iW an_iW od_iO an_iO : Option Addr} {sl_is_integer sl_is_within sl_has_percent sl_is_text sl_breaks_of sl_wider sl_difference sl_two_lines sl__law_tape sl__law_pick sl__law_some sl__law_text sl__law_same sl__law_wide_text sl__law_least sl__law_width sl__law_due sl__law_told sl__law_base sl__law_no_text sl_law sl_iT sl_iW sl_iO : Array (Option Value)} {oc_is_integer kV_is_integer dc_is_integer pm_is_integer cd_is_integer ct_is_integer oc_is_within kV_is_within dc_is_within pm_is_within cd_is_within ct_is_within oc_has_percent kV_has_percent dc_has_percent pm_has_percent cd_has_percent ct_has_percent oc_is_text kV_is_text dc_is_text pm_is_text cd_is_text ct_is_text oc_breaks_of kV_breaks_of dc_breaks_of pm_breaks_of cd_breaks_of ct_breaks_of oc_wider kV_wider dc_wider pm_wider cd_wider ct_wider oc_difference kV_difference dc_difference pm_difference cd_difference ct_difference oc_two_lines kV_two_lines dc_two_lines pm_two_lines cd_two_lines ct_two_lines oc__law_tape kV__law_tape dc__law_tape pm__law_tape cd__law_tape ct__law_tape oc__law_pick kV__law_pick dc__law_pick pm__law_pick cd__law_pick ct__law_pick oc__law_some kV__law_some dc__law_some pm__law_some cd__law_some ct__law_some oc__law_text kV__law_text dc__law_text pm__law_text cd__law_text ct__law_text oc__law_same kV__law_same dc__law_same pm__law_same cd__law_same ct__law_same oc__law_wide_text kV__law_wide_text dc__law_wide_text pm__law_wide_text cd__law_wide_text ct__law_wide_text oc__law_least kV__law_least dc__law_least pm__law_least cd__law_least ct__law_least oc__law_width kV__law_width dc__law_width pm__law_width cd__law_width ct__law_width oc__law_due kV__law_due dc__law_due pm__law_due cd__law_due ct__law_due oc__law_told kV__law_told dc__law_told pm__law_told cd__law_told ct__law_told oc__law_base kV__law_base dc__law_base pm__law_base cd__law_base ct__law_base oc__law_no_text kV__law_no_text dc__law_no_text pm__law_no_text cd__law_no_text ct__law_no_text oc_law kV_law dc_law pm_law cd_law ct_law oc_iT kV_iT dc_iT pm_iT cd_iT ct_iT oc_iW kV_iW dc_iW pm_iW cd_iW ct_iW oc_iO kV_iO dc_iO pm_iO cd_iO ct_iO : Value} {tP tM : Tok}
    {nmT qT : Str} {NT : Addr} {bsT : List Value} {snT : List Str} {subT : List Value} {abT : Bool} {colT : Option Bool} {ddT : Option Addr} {m0T m1T m2T m3T m5T : Option Value}
    {nmW qW : Str} {NW : Addr} {bsW : List Value} {snW : List Str} {subW : List Value} {abW : Bool} {colW : Option Bool} {ddW : Option Addr} {m0W m1W m2W m3W m5W : Option Value}
    {nmO qO : Str} {NO : Addr} {bsO : List Value} {snO : List Str} {subO : List Value} {abO : Bool} {colO : Option Bool} {ddO : Option Addr} {m0O m1O m2O m3O m5O : Option Value}
    (a_is_integer : PySem.W.nsIn K mainGlobals "is_integer" = some (some (.ref f_is_integer)))
    (l_is_integer : K.lookup f_is_integer = some ⟨oc_is_integer, od_is_integer, .func (PySem.W.fnOf "is_integer" "is_integer" (defArgs s_is_integer) (defBody s_is_integer) (defScope s_is_integer) .none kV_is_integer dc_is_integer pm_is_integer an_is_integer cd_is_integer ct_is_integer), sl_is_integer⟩)
    (c_is_integer_ : PySem.W.codeIn K cd_is_integer "is_integer" = true)
    (k_is_integer : PySem.W.keepIn K (.ref f_is_integer) = true)
    (a_is_within : PySem.W.nsIn K mainGlobals "is_within" = some (some (.ref f_is_within)))
    (l_is_within : K.lookup f_is_within = some ⟨oc_is_within, od_is_within, .func (PySem.W.fnOf "is_within" "is_within" (defArgs s_is_within) (defBody s_is_within) (defScope s_is_within) .none kV_is_within dc_is_within pm_is_within an_is_within cd_is_within ct_is_within), sl_is_within⟩)
    (c_is_within_ : PySem.W.codeIn K cd_is_within "is_within" = true)
    (k_is_within : PySem.W.keepIn K (.ref f_is_within) = true)
    (a_has_percent : PySem.W.nsIn K mainGlobals "has_percent" = some (some (.ref f_has_percent)))
    (l_has_percent : K.lookup f_has_percent = some ⟨oc_has_percent, od_has_percent, .func (PySem.W.fnOf "has_percent" "has_percent" (defArgs s_has_percent) (defBody s_has_percent) (defScope s_has_percent) .none kV_has_percent dc_has_percent pm_has_percent an_has_percent cd_has_percent ct_has_percent), sl_has_percent⟩)
    (c_has_percent_ : PySem.W.codeIn K cd_has_percent "has_percent" = true)
    (k_has_percent : PySem.W.keepIn K (.ref f_has_percent) = true)
    (a_is_text : PySem.W.nsIn K mainGlobals "is_text" = some (some (.ref f_is_text)))
    (l_is_text : K.lookup f_is_text = some ⟨oc_is_text, od_is_text, .func (PySem.W.fnOf "is_text" "is_text" (defArgs s_is_text) (defBody s_is_text) (defScope s_is_text) .none kV_is_text dc_is_text pm_is_text an_is_text cd_is_text ct_is_text), sl_is_text⟩)
    (c_is_text_ : PySem.W.codeIn K cd_is_text "is_text" = true)
    (k_is_text : PySem.W.keepIn K (.ref f_is_text) = true)
    (a_breaks_of : PySem.W.nsIn K mainGlobals "breaks_of" = some (some (.ref f_breaks_of)))
    (l_breaks_of : K.lookup f_breaks_of = some ⟨oc_breaks_of, od_breaks_of, .func (PySem.W.fnOf "breaks_of" "breaks_of" (defArgs s_breaks_of) (defBody s_breaks_of) (defScope s_breaks_of) .none kV_breaks_of dc_breaks_of pm_breaks_of an_breaks_of cd_breaks_of ct_breaks_of), sl_breaks_of⟩)
    (c_breaks_of_ : PySem.W.codeIn K cd_breaks_of "breaks_of" = true)
    (k_breaks_of : PySem.W.keepIn K (.ref f_breaks_of) = true)
    (a_wider : PySem.W.nsIn K mainGlobals "wider" = some (some (.ref f_wider)))
    (l_wider : K.lookup f_wider = some ⟨oc_wider, od_wider, .func (PySem.W.fnOf "wider" "wider" (defArgs s_wider) (defBody s_wider) (defScope s_wider) .none kV_wider dc_wider pm_wider an_wider cd_wider ct_wider), sl_wider⟩)
    (c_wider_ : PySem.W.codeIn K cd_wider "wider" = true)
    (k_wider : PySem.W.keepIn K (.ref f_wider) = true)
    (a_difference : PySem.W.nsIn K mainGlobals "difference" = some (some (.ref f_difference)))
    (l_difference : K.lookup f_difference = some ⟨oc_difference, od_difference, .func (PySem.W.fnOf "difference" "difference" (defArgs s_difference) (defBody s_difference) (defScope s_difference) .none kV_difference dc_difference pm_difference an_difference cd_difference ct_difference), sl_difference⟩)
    (c_difference_ : PySem.W.codeIn K cd_difference "difference" = true)
    (k_difference : PySem.W.keepIn K (.ref f_difference) = true)
    (a_two_lines : PySem.W.nsIn K mainGlobals "two_lines" = some (some (.ref f_two_lines)))
    (l_two_lines : K.lookup f_two_lines = some ⟨oc_two_lines, od_two_lines, .func (PySem.W.fnOf "two_lines" "two_lines" (defArgs s_two_lines) (defBody s_two_lines) (defScope s_two_lines) .none kV_two_lines dc_two_lines pm_two_lines an_two_lines cd_two_lines ct_two_lines), sl_two_lines⟩)
    (c_two_lines_ : PySem.W.codeIn K cd_two_lines "two_lines" = true)
    (k_two_lines : PySem.W.keepIn K (.ref f_two_lines) = true)
    (a__law_tape : PySem.W.nsIn K mainGlobals "_law_tape" = some (some (.ref f__law_tape)))
    (l__law_tape : K.lookup f__law_tape = some ⟨oc__law_tape, od__law_tape, .func (PySem.W.fnOf "_law_tape" "_law_tape" (defArgs s__law_tape) (defBody s__law_tape) (defScope s__law_tape) .none kV__law_tape dc__law_tape pm__law_tape an__law_tape cd__law_tape ct__law_tape), sl__law_tape⟩)
    (c__law_tape_ : PySem.W.codeIn K cd__law_tape "_law_tape" = true)
    (k__law_tape : PySem.W.keepIn K (.ref f__law_tape) = true)
    (a__law_pick : PySem.W.nsIn K mainGlobals "_law_pick" = some (some (.ref f__law_pick)))
    (l__law_pick : K.lookup f__law_pick = some ⟨oc__law_pick, od__law_pick, .func (PySem.W.fnOf "_law_pick" "_law_pick" (defArgs s__law_pick) (defBody s__law_pick) (defScope s__law_pick) .none kV__law_pick dc__law_pick pm__law_pick an__law_pick cd__law_pick ct__law_pick), sl__law_pick⟩)
    (c__law_pick_ : PySem.W.codeIn K cd__law_pick "_law_pick" = true)
    (k__law_pick : PySem.W.keepIn K (.ref f__law_pick) = true)
    (a__law_some : PySem.W.nsIn K mainGlobals "_law_some" = some (some (.ref f__law_some)))
    (l__law_some : K.lookup f__law_some = some ⟨oc__law_some, od__law_some, .func (PySem.W.fnOf "_law_some" "_law_some" (defArgs s__law_some) (defBody s__law_some) (defScope s__law_some) .none kV__law_some dc__law_some pm__law_some an__law_some cd__law_some ct__law_some), sl__law_some⟩)
    (c__law_some_ : PySem.W.codeIn K cd__law_some "_law_some" = true)
    (k__law_some : PySem.W.keepIn K (.ref f__law_some) = true)
    (a__law_text : PySem.W.nsIn K mainGlobals "_law_text" = some (some (.ref f__law_text)))
    (l__law_text : K.lookup f__law_text = some ⟨oc__law_text, od__law_text, .func (PySem.W.fnOf "_law_text" "_law_text" (defArgs s__law_text) (defBody s__law_text) (defScope s__law_text) .none kV__law_text dc__law_text pm__law_text an__law_text cd__law_text ct__law_text), sl__law_text⟩)
    (c__law_text_ : PySem.W.codeIn K cd__law_text "_law_text" = true)
    (k__law_text : PySem.W.keepIn K (.ref f__law_text) = true)
    (a__law_same : PySem.W.nsIn K mainGlobals "_law_same" = some (some (.ref f__law_same)))
    (l__law_same : K.lookup f__law_same = some ⟨oc__law_same, od__law_same, .func (PySem.W.fnOf "_law_same" "_law_same" (defArgs s__law_same) (defBody s__law_same) (defScope s__law_same) .none kV__law_same dc__law_same pm__law_same an__law_same cd__law_same ct__law_same), sl__law_same⟩)
    (c__law_same_ : PySem.W.codeIn K cd__law_same "_law_same" = true)
    (k__law_same : PySem.W.keepIn K (.ref f__law_same) = true)
    (a__law_wide_text : PySem.W.nsIn K mainGlobals "_law_wide_text" = some (some (.ref f__law_wide_text)))
    (l__law_wide_text : K.lookup f__law_wide_text = some ⟨oc__law_wide_text, od__law_wide_text, .func (PySem.W.fnOf "_law_wide_text" "_law_wide_text" (defArgs s__law_wide_text) (defBody s__law_wide_text) (defScope s__law_wide_text) .none kV__law_wide_text dc__law_wide_text pm__law_wide_text an__law_wide_text cd__law_wide_text ct__law_wide_text), sl__law_wide_text⟩)
    (c__law_wide_text_ : PySem.W.codeIn K cd__law_wide_text "_law_wide_text" = true)
    (k__law_wide_text : PySem.W.keepIn K (.ref f__law_wide_text) = true)
    (a__law_least : PySem.W.nsIn K mainGlobals "_law_least" = some (some (.ref f__law_least)))
    (l__law_least : K.lookup f__law_least = some ⟨oc__law_least, od__law_least, .func (PySem.W.fnOf "_law_least" "_law_least" (defArgs s__law_least) (defBody s__law_least) (defScope s__law_least) .none kV__law_least dc__law_least pm__law_least an__law_least cd__law_least ct__law_least), sl__law_least⟩)
    (c__law_least_ : PySem.W.codeIn K cd__law_least "_law_least" = true)
    (k__law_least : PySem.W.keepIn K (.ref f__law_least) = true)
    (a__law_width : PySem.W.nsIn K mainGlobals "_law_width" = some (some (.ref f__law_width)))
    (l__law_width : K.lookup f__law_width = some ⟨oc__law_width, od__law_width, .func (PySem.W.fnOf "_law_width" "_law_width" (defArgs s__law_width) (defBody s__law_width) (defScope s__law_width) .none kV__law_width dc__law_width pm__law_width an__law_width cd__law_width ct__law_width), sl__law_width⟩)
    (c__law_width_ : PySem.W.codeIn K cd__law_width "_law_width" = true)
    (k__law_width : PySem.W.keepIn K (.ref f__law_width) = true)
    (a__law_due : PySem.W.nsIn K mainGlobals "_law_due" = some (some (.ref f__law_due)))
    (l__law_due : K.lookup f__law_due = some ⟨oc__law_due, od__law_due, .func (PySem.W.fnOf "_law_due" "_law_due" (defArgs s__law_due) (defBody s__law_due) (defScope s__law_due) .none kV__law_due dc__law_due pm__law_due an__law_due cd__law_due ct__law_due), sl__law_due⟩)
    (c__law_due_ : PySem.W.codeIn K cd__law_due "_law_due" = true)
    (k__law_due : PySem.W.keepIn K (.ref f__law_due) = true)
    (a__law_told : PySem.W.nsIn K mainGlobals "_law_told" = some (some (.ref f__law_told)))
    (l__law_told : K.lookup f__law_told = some ⟨oc__law_told, od__law_told, .func (PySem.W.fnOf "_law_told" "_law_told" (defArgs s__law_told) (defBody s__law_told) (defScope s__law_told) .none kV__law_told dc__law_told pm__law_told an__law_told cd__law_told ct__law_told), sl__law_told⟩)
    (c__law_told_ : PySem.W.codeIn K cd__law_told "_law_told" = true)
    (k__law_told : PySem.W.keepIn K (.ref f__law_told) = true)
    (a__law_base : PySem.W.nsIn K mainGlobals "_law_base" = some (some (.ref f__law_base)))
    (l__law_base : K.lookup f__law_base = some ⟨oc__law_base, od__law_base, .func (PySem.W.fnOf "_law_base" "_law_base" (defArgs s__law_base) (defBody s__law_base) (defScope s__law_base) .none kV__law_base dc__law_base pm__law_base an__law_base cd__law_base ct__law_base), sl__law_base⟩)
    (c__law_base_ : PySem.W.codeIn K cd__law_base "_law_base" = true)
    (k__law_base : PySem.W.keepIn K (.ref f__law_base) = true)
    (a__law_no_text : PySem.W.nsIn K mainGlobals "_law_no_text" = some (some (.ref f__law_no_text)))
    (l__law_no_text : K.lookup f__law_no_text = some ⟨oc__law_no_text, od__law_no_text, .func (PySem.W.fnOf "_law_no_text" "_law_no_text" (defArgs s__law_no_text) (defBody s__law_no_text) (defScope s__law_no_text) .none kV__law_no_text dc__law_no_text pm__law_no_text an__law_no_text cd__law_no_text ct__law_no_text), sl__law_no_text⟩)
    (c__law_no_text_ : PySem.W.codeIn K cd__law_no_text "_law_no_text" = true)
    (k__law_no_text : PySem.W.keepIn K (.ref f__law_no_text) = true)
    (a_law : PySem.W.nsIn K mainGlobals "law" = some (some (.ref f_law)))
    (l_law : K.lookup f_law = some ⟨oc_law, od_law, .func (PySem.W.fnOf "law" "law" (defArgs s_law) (defBody s_law) (defScope s_law) .none kV_law dc_law pm_law an_law cd_law ct_law), sl_law⟩)
    (c_law_ : PySem.W.codeIn K cd_law "law" = true)
    (k_law : PySem.W.keepIn K (.ref f_law) = true)
    (aE : PySem.W.nsIn K mainGlobals "CaptionError" = some (some (.ref CE)))
    (eE : PySem.W.subIn K (.ref CE) (.type "BaseException") = some true)
    (iE : PySem.W.isClsIn K CE = true)
    (tE : PySem.W.typeIn K (.ref CE) = some (.type "type"))
    (aT : PySem.W.nsIn K mainGlobals "BadText" = some (some (.ref CT)))
    (xT_ : K.lookup CT = some (excClassObj nmT qT CT NT bsT [.ref CE, .type "ValueError", .type "Exception", .type "BaseException", .type "object"] true snT subT abT colT ddT m0T m1T m2T m3T m5T "ValueError.__new__"))
    (saT : PySem.W.findIn K (.ref CT) "__setattr__" = some (some (.builtin "object.__setattr__")))
    (eT : PySem.W.subIn K (.ref CT) (.type "BaseException") = some true)
    (vT : PySem.W.subIn K (.ref CT) (.type "ValueError") = some true)
    (tT : PySem.W.typeIn K (.ref CT) = some (.type "type"))
    (kpT : PySem.W.keepIn K (.ref CT) = true)
    (inT : PySem.W.findIn K (.ref CT) "__init__" = some (some (.ref f_iT)))
    (tIT : PySem.W.typeIn K (.ref f_iT) = some (.type "function"))
    (noT : PySem.W.findIn K (.ref CT) "at" = some none)
    (iT : PySem.W.isClsIn K CT = true)
    (gaT : PySem.W.findIn K (.ref CT) "__getattribute__" = some (some (.builtin "BaseException.__getattribute__")))
    (ggT : PySem.W.findIn K (.ref CT) "__getattr__" = some none)
    (klT : PySem.W.findIn K (.ref CT) "__class__" = some (some (.builtin "object.__class__")))
    (mrT : PySem.W.mroIn K CT (.type "object") = some true)
    (hdT : PySem.W.hasDictIn K CT = true)
    (l_iT : K.lookup f_iT = some ⟨oc_iT, od_iT, .func (PySem.W.fnOf "__init__" "BadText.__init__" (defArgs s_iT) (defBody s_iT) (defScope s_iT) .none kV_iT dc_iT pm_iT an_iT cd_iT ct_iT), sl_iT⟩)
    (c_iT_ : PySem.W.codeIn K cd_iT "BadText.__init__" = true)
    (k_iT : PySem.W.keepIn K (.ref f_iT) = true)
    (aW : PySem.W.nsIn K mainGlobals "BadWidth" = some (some (.ref CW)))
    (xW_ : K.lookup CW = some (excClassObj nmW qW CW NW bsW [.ref CE, .type "ValueError", .type "Exception", .type "BaseException", .type "object"] true snW subW abW colW ddW m0W m1W m2W m3W m5W "ValueError.__new__"))
    (saW : PySem.W.findIn K (.ref CW) "__setattr__" = some (some (.builtin "object.__setattr__")))
    (eW : PySem.W.subIn K (.ref CW) (.type "BaseException") = some true)
    (vW : PySem.W.subIn K (.ref CW) (.type "ValueError") = some true)
    (tW : PySem.W.typeIn K (.ref CW) = some (.type "type"))
    (kpW : PySem.W.keepIn K (.ref CW) = true)
    (inW : PySem.W.findIn K (.ref CW) "__init__" = some (some (.ref f_iW)))
    (tIW : PySem.W.typeIn K (.ref f_iW) = some (.type "function"))
    (noW : PySem.W.findIn K (.ref CW) "width" = some none)
    (iW : PySem.W.isClsIn K CW = true)
    (gaW : PySem.W.findIn K (.ref CW) "__getattribute__" = some (some (.builtin "BaseException.__getattribute__")))
    (ggW : PySem.W.findIn K (.ref CW) "__getattr__" = some none)
    (klW : PySem.W.findIn K (.ref CW) "__class__" = some (some (.builtin "object.__class__")))
    (mrW : PySem.W.mroIn K CW (.type "object") = some true)
    (hdW : PySem.W.hasDictIn K CW = true)
    (l_iW : K.lookup f_iW = some ⟨oc_iW, od_iW, .func (PySem.W.fnOf "__init__" "BadWidth.__init__" (defArgs s_iW) (defBody s_iW) (defScope s_iW) .none kV_iW dc_iW pm_iW an_iW cd_iW ct_iW), sl_iW⟩)
    (c_iW_ : PySem.W.codeIn K cd_iW "BadWidth.__init__" = true)
    (k_iW : PySem.W.keepIn K (.ref f_iW) = true)
    (aO : PySem.W.nsIn K mainGlobals "TooWide" = some (some (.ref CO)))
    (xO_ : K.lookup CO = some (excClassObj nmO qO CO NO bsO [.ref CE, .type "ValueError", .type "Exception", .type "BaseException", .type "object"] true snO subO abO colO ddO m0O m1O m2O m3O m5O "ValueError.__new__"))
    (saO : PySem.W.findIn K (.ref CO) "__setattr__" = some (some (.builtin "object.__setattr__")))
    (eO : PySem.W.subIn K (.ref CO) (.type "BaseException") = some true)
    (vO : PySem.W.subIn K (.ref CO) (.type "ValueError") = some true)
    (tO : PySem.W.typeIn K (.ref CO) = some (.type "type"))
    (kpO : PySem.W.keepIn K (.ref CO) = true)
    (inO : PySem.W.findIn K (.ref CO) "__init__" = some (some (.ref f_iO)))
    (tIO : PySem.W.typeIn K (.ref f_iO) = some (.type "function"))
    (noO : PySem.W.findIn K (.ref CO) "least" = some none)
    (iO : PySem.W.isClsIn K CO = true)
    (gaO : PySem.W.findIn K (.ref CO) "__getattribute__" = some (some (.builtin "BaseException.__getattribute__")))
    (ggO : PySem.W.findIn K (.ref CO) "__getattr__" = some none)
    (klO : PySem.W.findIn K (.ref CO) "__class__" = some (some (.builtin "object.__class__")))
    (mrO : PySem.W.mroIn K CO (.type "object") = some true)
    (hdO : PySem.W.hasDictIn K CO = true)
    (l_iO : K.lookup f_iO = some ⟨oc_iO, od_iO, .func (PySem.W.fnOf "__init__" "TooWide.__init__" (defArgs s_iO) (defBody s_iO) (defScope s_iO) .none kV_iO dc_iO pm_iO an_iO cd_iO ct_iO), sl_iO⟩)
    (c_iO_ : PySem.W.codeIn K cd_iO "TooWide.__init__" = true)
    (k_iO : PySem.W.keepIn K (.ref f_iO) = true)
    (gt : PySem.W.specialIn K (.builtin "object.__class__") "__get__" = some (some (.builtin "getset_descriptor.__get__")))
    (tk : PySem.W.takesIn K (.builtin "object.__class__") = some true)
    (sTT : PySem.W.subIn K (.ref CT) (.ref CT) = some true)
    (sTW : PySem.W.subIn K (.ref CT) (.ref CW) = some false)
    (sTO : PySem.W.subIn K (.ref CT) (.ref CO) = some false)
    (sWT : PySem.W.subIn K (.ref CW) (.ref CT) = some false)
    (sWW : PySem.W.subIn K (.ref CW) (.ref CW) = some true)
    (sWO : PySem.W.subIn K (.ref CW) (.ref CO) = some false)
    (sOT : PySem.W.subIn K (.ref CO) (.ref CT) = some false)
    (sOW : PySem.W.subIn K (.ref CO) (.ref CW) = some false)
    (sOO : PySem.W.subIn K (.ref CO) (.ref CO) = some true)
    (sTE : PySem.W.subIn K (.ref CT) (.ref CE) = some true)
    (sWE : PySem.W.subIn K (.ref CW) (.ref CE) = some true)
    (gP : PySem.W.nsIn K mainGlobals "PERCENT" = some (some (.int 37 tP)))
    (gM : PySem.W.nsIn K mainGlobals "MOST_WIDTH" = some (some (.int 60 tM)))
    (z_isinstance : PySem.W.nsIn K mainGlobals "isinstance" = some none)
    (z_int : PySem.W.nsIn K mainGlobals "int" = some none)
    (z_bool : PySem.W.nsIn K mainGlobals "bool" = some none)
    (z_str : PySem.W.nsIn K mainGlobals "str" = some none)
    (z_len : PySem.W.nsIn K mainGlobals "len" = some none)
    (z_ord : PySem.W.nsIn K mainGlobals "ord" = some none)
    (z_all : PySem.W.nsIn K mainGlobals "all" = some none)
    (z_enumerate : PySem.W.nsIn K mainGlobals "enumerate" = some none)
    (z_max : PySem.W.nsIn K mainGlobals "max" = some none)
    (z_min : PySem.W.nsIn K mainGlobals "min" = some none)
    (z_abs : PySem.W.nsIn K mainGlobals "abs" = some none)
    (z_range : PySem.W.nsIn K mainGlobals "range" = some none)
    (z_tuple : PySem.W.nsIn K mainGlobals "tuple" = some none)
    (z_ValueError : PySem.W.nsIn K mainGlobals "ValueError" = some none)
    : ∃ fd : FuncData, (∀ (s : Shared) (v : Value), BindsTo s fd ⟨[v], []⟩ [("_law_script", v)]) ∧ ∀ base : Heap, K.In base → base.Ns mainGlobals mg → FnOk l.prog w K mg base CX0 6 fa fd ["_law_script"] (spLaw K) := by
  have e := hfa.symm.trans (PySem.W.mg_of X G a_law)
  cases e
  have m_isinstance := PySem.W.mg_none_of X G z_isinstance
  have m_int := PySem.W.mg_none_of X G z_int
  have m_bool := PySem.W.mg_none_of X G z_bool
  have m_str := PySem.W.mg_none_of X G z_str
  have m_len := PySem.W.mg_none_of X G z_len
  have m_ord := PySem.W.mg_none_of X G z_ord
  have m_all := PySem.W.mg_none_of X G z_all
  have m_enumerate := PySem.W.mg_none_of X G z_enumerate
  have m_max := PySem.W.mg_none_of X G z_max
  have m_min := PySem.W.mg_none_of X G z_min
  have m_abs := PySem.W.mg_none_of X G z_abs
  have m_range := PySem.W.mg_none_of X G z_range
  have m_tuple := PySem.W.mg_none_of X G z_tuple
  have m_ValueError := PySem.W.mg_none_of X G z_ValueError
  have g_PERCENT := PySem.W.mg_of X G gP
  have g_MOST_WIDTH := PySem.W.mg_of X G gM
  have g_CE := PySem.W.mg_of X G aE
  have F_is_integer := fun_mk (st := s_is_integer) l_is_integer c_is_integer_ k_is_integer
  have b_is_integer := F_is_integer.binds (ps := ["thing"]) fun _ _ _ _ _ _ us hl => match us, hl with | [_], _ => rfl
  have F_is_within := fun_mk (st := s_is_within) l_is_within c_is_within_ k_is_within
  have b_is_within := F_is_within.binds (ps := ["thing", "low", "high"]) fun _ _ _ _ _ _ us hl => match us, hl with | [_, _, _], _ => rfl
  have F_has_percent := fun_mk (st := s_has_percent) l_has_percent c_has_percent_ k_has_percent
  have b_has_percent := F_has_percent.binds (ps := ["word"]) fun _ _ _ _ _ _ us hl => match us, hl with | [_], _ => rfl
  have F_is_text := fun_mk (st := s_is_text) l_is_text c_is_text_ k_is_text
  have b_is_text := F_is_text.binds (ps := ["thing"]) fun _ _ _ _ _ _ us hl => match us, hl with | [_], _ => rfl
  have F_breaks_of := fun_mk (st := s_breaks_of) l_breaks_of c_breaks_of_ k_breaks_of
  have b_breaks_of := F_breaks_of.binds (ps := ["text"]) fun _ _ _ _ _ _ us hl => match us, hl with | [_], _ => rfl
  have F_wider := fun_mk (st := s_wider) l_wider c_wider_ k_wider
  have b_wider := F_wider.binds (ps := ["lines"]) fun _ _ _ _ _ _ us hl => match us, hl with | [_], _ => rfl
  have F_difference := fun_mk (st := s_difference) l_difference c_difference_ k_difference
  have b_difference := F_difference.binds (ps := ["lines"]) fun _ _ _ _ _ _ us hl => match us, hl with | [_], _ => rfl
  have F_two_lines := fun_mk (st := s_two_lines) l_two_lines c_two_lines_ k_two_lines
  have b_two_lines := F_two_lines.binds (ps := ["text", "width"]) fun _ _ _ _ _ _ us hl => match us, hl with | [_, _], _ => rfl
  have F__law_tape := fun_mk (st := s__law_tape) l__law_tape c__law_tape_ k__law_tape
  have b__law_tape := F__law_tape.binds (ps := ["_law_script"]) fun _ _ _ _ _ _ us hl => match us, hl with | [_], _ => rfl
  have F__law_pick := fun_mk (st := s__law_pick) l__law_pick c__law_pick_ k__law_pick
  have b__law_pick := F__law_pick.binds (ps := ["_law_tape_here", "_law_many"]) fun _ _ _ _ _ _ us hl => match us, hl with | [_, _], _ => rfl
  have F__law_some := fun_mk (st := s__law_some) l__law_some c__law_some_ k__law_some
  have b__law_some := F__law_some.binds (ps := ["_law_tape_here", "_law_low", "_law_high"]) fun _ _ _ _ _ _ us hl => match us, hl with | [_, _, _], _ => rfl
  have F__law_text := fun_mk (st := s__law_text) l__law_text c__law_text_ k__law_text
  have b__law_text := F__law_text.binds (ps := ["_law_tape_here", "_law_most"]) fun _ _ _ _ _ _ us hl => match us, hl with | [_, _], _ => rfl
  have F__law_same := fun_mk (st := s__law_same) l__law_same c__law_same_ k__law_same
  have b__law_same := F__law_same.binds (ps := ["_law_told_here", "_law_due_here"]) fun _ _ _ _ _ _ us hl => match us, hl with | [_, _], _ => rfl
  have F__law_wide_text := fun_mk (st := s__law_wide_text) l__law_wide_text c__law_wide_text_ k__law_wide_text
  have b__law_wide_text := F__law_wide_text.binds (ps := ["_law_tape_here"]) fun _ _ _ _ _ _ us hl => match us, hl with | [_], _ => rfl
  have F__law_least := fun_mk (st := s__law_least) l__law_least c__law_least_ k__law_least
  have b__law_least := F__law_least.binds (ps := ["_law_text_here"]) fun _ _ _ _ _ _ us hl => match us, hl with | [_], _ => rfl
  have F__law_width := fun_mk (st := s__law_width) l__law_width c__law_width_ k__law_width
  have b__law_width := F__law_width.binds (ps := ["_law_tape_here", "_law_text_here"]) fun _ _ _ _ _ _ us hl => match us, hl with | [_, _], _ => rfl
  have F__law_due := fun_mk (st := s__law_due) l__law_due c__law_due_ k__law_due
  have b__law_due := F__law_due.binds (ps := ["_law_text_here", "_law_width_here"]) fun _ _ _ _ _ _ us hl => match us, hl with | [_, _], _ => rfl
  have F__law_told := fun_mk (st := s__law_told) l__law_told c__law_told_ k__law_told
  have b__law_told := F__law_told.binds (ps := ["_law_text_here", "_law_width_here"]) fun _ _ _ _ _ _ us hl => match us, hl with | [_, _], _ => rfl
  have F__law_base := fun_mk (st := s__law_base) l__law_base c__law_base_ k__law_base
  have b__law_base := F__law_base.binds (ps := ["_law_text_here", "_law_width_here"]) fun _ _ _ _ _ _ us hl => match us, hl with | [_, _], _ => rfl
  have F__law_no_text := fun_mk (st := s__law_no_text) l__law_no_text c__law_no_text_ k__law_no_text
  have b__law_no_text := F__law_no_text.binds (ps := ["_law_tape_here", "_law_text_here"]) fun _ _ _ _ _ _ us hl => match us, hl with | [_, _], _ => rfl
  have F_law := fun_mk (st := s_law) l_law c_law_ k_law
  have F_iT := fun_mk (st := s_iT) l_iT c_iT_ k_iT
  have b_iT := F_iT.binds (ps := ["self", "at"]) fun _ _ _ _ _ _ us hl => match us, hl with | [_, _], _ => rfl
  have XT : XC K mg "BadText" "at" CT f_iT := ⟨PySem.W.mg_of X G aT, ⟨⟨_, _, _, _, _, _, _, _, _, _, _, _, _, _, _, xT_, rfl⟩, saT, eT, tT, kpT⟩, inT, tIT, noT, ⟨iT, gaT, ggT, eT, klT, gt, tk, mrT⟩, hdT⟩
  have F_iW := fun_mk (st := s_iW) l_iW c_iW_ k_iW
  have b_iW := F_iW.binds (ps := ["self", "width"]) fun _ _ _ _ _ _ us hl => match us, hl with | [_, _], _ => rfl
  have XW : XC K mg "BadWidth" "width" CW f_iW := ⟨PySem.W.mg_of X G aW, ⟨⟨_, _, _, _, _, _, _, _, _, _, _, _, _, _, _, xW_, rfl⟩, saW, eW, tW, kpW⟩, inW, tIW, noW, ⟨iW, gaW, ggW, eW, klW, gt, tk, mrW⟩, hdW⟩
  have F_iO := fun_mk (st := s_iO) l_iO c_iO_ k_iO
  have b_iO := F_iO.binds (ps := ["self", "least"]) fun _ _ _ _ _ _ us hl => match us, hl with | [_, _], _ => rfl
  have XO : XC K mg "TooWide" "least" CO f_iO := ⟨PySem.W.mg_of X G aO, ⟨⟨_, _, _, _, _, _, _, _, _, _, _, _, _, _, _, xO_, rfl⟩, saO, eO, tO, kpO⟩, inO, tIO, noO, ⟨iO, gaO, ggO, eO, klO, gt, tk, mrO⟩, hdO⟩
  have x4 : EX4 K CT CW CO CE := ⟨exm_mk eT iT tT sTT, exm_mk eT iT tT sWT, exm_mk eW iW tW sWW, exm_mk eT iT tT sOT, exm_mk eW iW tW sOW, exm_mk eO iO tO sOO, exm_mk eE iE tE sTE, exm_mk eE iE tE sWE, kit_two (kit_no sTT iW tW sTW) (kit_no sTT iO tO sTO), kit_two (kit_no sWW iT tT sWT) (kit_no sWW iO tO sWO), kit_two (kit_no sOO iT tT sOT) (kit_no sOO iW tW sOW), kit_ve vT, kit_ve vW⟩
  refine ⟨PySem.W.fnOf "law" "law" (defArgs s_law) (defBody s_law) (defScope s_law) .none kV_law dc_law pm_law an_law cd_law ct_law, fun s v => .of_eq rfl, fun base _ _ => ?_⟩
  have xT : XI l.prog w K mg base "BadText" "at" CT := ⟨f_iT, _, XT, ok_iT F_iT, b_iT⟩
  have xW : XI l.prog w K mg base "BadWidth" "width" CW := ⟨f_iW, _, XW, ok_iW F_iW, b_iW⟩
  have xO : XI l.prog w K mg base "TooWide" "least" CO := ⟨f_iO, _, XO, ok_iO F_iO, b_iO⟩
  have c_is_integer : Cal l.prog w K mg base 1 "is_integer" spIsInt := ⟨f_is_integer, _, _, ok_is_integer F_is_integer m_isinstance m_int m_bool, PySem.W.mg_of X G a_is_integer, k_is_integer, b_is_integer⟩
  have c_is_within : Cal l.prog w K mg base 2 "is_within" spWithin := ⟨f_is_within, _, _, ok_is_within F_is_within c_is_integer, PySem.W.mg_of X G a_is_within, k_is_within, b_is_within⟩
  have c_has_percent : Cal l.prog w K mg base 1 "has_percent" spPercent := ⟨f_has_percent, _, _, ok_has_percent F_has_percent g_PERCENT m_ord, PySem.W.mg_of X G a_has_percent, k_has_percent, b_has_percent⟩
  have c_is_text : Cal l.prog w K mg base 2 "is_text" spIsText := ⟨f_is_text, _, _, ok_is_text F_is_text m_isinstance m_str m_len m_all c_has_percent, PySem.W.mg_of X G a_is_text, k_is_text, b_is_text⟩
  have c_breaks_of : Cal l.prog w K mg base 1 "breaks_of" spBreaks := ⟨f_breaks_of, _, _, ok_breaks_of F_breaks_of m_enumerate, PySem.W.mg_of X G a_breaks_of, k_breaks_of, b_breaks_of⟩
  have c_wider : Cal l.prog w K mg base 1 "wider" spWider := ⟨f_wider, _, _, ok_wider F_wider m_max m_len, PySem.W.mg_of X G a_wider, k_wider, b_wider⟩
  have D_difference : FnOk l.prog w K mg base CX0 1 f_difference _ ["lines"] spDiff := ok_difference F_difference m_abs m_len
  have c_two_lines : CalX l.prog w K mg base 4 "two_lines" (spTwo CT CW CO) := ⟨f_two_lines, _, _, ok_two_lines F_two_lines m_len m_min g_MOST_WIDTH xT xW xO c_is_text c_is_within c_breaks_of c_wider D_difference (PySem.W.mg_of X G a_difference) b_difference, PySem.W.mg_of X G a_two_lines, k_two_lines, b_two_lines⟩
  have c__law_tape : Cal l.prog w K mg base 1 "_law_tape" (spTape K) := ⟨f__law_tape, _, _, ok_tape F__law_tape m_abs m_int, PySem.W.mg_of X G a__law_tape, k__law_tape, b__law_tape⟩
  have c__law_pick : Cal l.prog w K mg base 1 "_law_pick" spPick := ⟨f__law_pick, _, _, ok_pick F__law_pick m_len m_int, PySem.W.mg_of X G a__law_pick, k__law_pick, b__law_pick⟩
  have c__law_some : Cal l.prog w K mg base 2 "_law_some" spSome := ⟨f__law_some, _, _, ok_some F__law_some c__law_pick, PySem.W.mg_of X G a__law_some, k__law_some, b__law_some⟩
  have c__law_text : Cal l.prog w K mg base 3 "_law_text" spText := ⟨f__law_text, _, _, ok_text F__law_text m_range m_len c__law_pick c__law_some, PySem.W.mg_of X G a__law_text, k__law_text, b__law_text⟩
  have c__law_same : Cal l.prog w K mg base 3 "_law_same" (spSame 2) := ⟨f__law_same, _, _, ok_same2 F__law_same m_isinstance m_tuple m_bool m_str m_int m_len m_all m_range (PySem.W.mg_of X G a__law_same) k__law_same b__law_same, PySem.W.mg_of X G a__law_same, k__law_same, b__law_same⟩
  have c__law_wide_text : Cal l.prog w K mg base 4 "_law_wide_text" spWide := ⟨f__law_wide_text, _, _, ok_wide_text F__law_wide_text m_range m_len c__law_pick c__law_some c__law_text, PySem.W.mg_of X G a__law_wide_text, k__law_wide_text, b__law_wide_text⟩
  have c__law_least : Cal l.prog w K mg base 1 "_law_least" spLeast := ⟨f__law_least, _, _, ok_least F__law_least m_range m_len m_min m_max, PySem.W.mg_of X G a__law_least, k__law_least, b__law_least⟩
  have c__law_width : Cal l.prog w K mg base 3 "_law_width" spWidth := ⟨f__law_width, _, _, ok_width F__law_width m_len m_min m_max c__law_pick c__law_some c__law_least, PySem.W.mg_of X G a__law_width, k__law_width, b__law_width⟩
  have c__law_due : Cal l.prog w K mg base 2 "_law_due" spDue := ⟨f__law_due, _, _, ok_due F__law_due m_len m_range m_abs c__law_least, PySem.W.mg_of X G a__law_due, k__law_due, b__law_due⟩
  have c__law_told : Cal l.prog w K mg base 5 "_law_told" spTold := ⟨f__law_told, _, _, ok_told F__law_told m_isinstance xT xW xO g_CE x4 c_two_lines, PySem.W.mg_of X G a__law_told, k__law_told, b__law_told⟩
  have c__law_base : Cal l.prog w K mg base 5 "_law_base" spBase := ⟨f__law_base, _, _, ok_base F__law_base m_isinstance m_ValueError xT xW g_CE x4 c_two_lines, PySem.W.mg_of X G a__law_base, k__law_base, b__law_base⟩
  have c__law_no_text : Cal l.prog w K mg base 2 "_law_no_text" spNoText := ⟨f__law_no_text, _, _, ok_no_text F__law_no_text m_len c__law_pick, PySem.W.mg_of X G a__law_no_text, k__law_no_text, b__law_no_text⟩
  exact ok_law F_law c__law_tape c__law_pick c__law_wide_text c__law_least c__law_width c__law_due c__law_same c__law_told c__law_base c__law_no_text
end Sea
open PySem PySem.W PyProof.Rows
set_option maxRecDepth 100000 in
set_option maxHeartbeats 0 in
theorem PySem.Challenge.cw_seamfast_k04_two_lines_holds : PySem.Challenge.rw_seamfast_k04_two_lines.Holds := by
  w_on; o_law; k_head; (case hw => w_witness2)
  k_fill
  refine L2.walk_of (l := PySem.Challenge.rw_seamfast_k04_two_lines) (n := 63) (k := 6) (x := "_law_script") (CX := fun _ => L2.CX0) (sp := fun w => Sea.spLaw _) rfl (by decide) rfl ⟨rfl, by decide, by decide⟩ (fun w h Y => PySem.W.kIn_of Y) ?F (fun _ _ a ns hl _ hS => ⟨a, ns, rfl, hS, hl, fun _ => rfl⟩) (fun _ _ _ _ _ h => h)
  case F =>
    intro w mg fa h KX G hmg
    refine' Sea.all_mk KX G hmg ?a_is_integer ?l_is_integer ?c_is_integer_ ?k_is_integer ?a_is_within ?l_is_within ?c_is_within_ ?k_is_within ?a_has_percent ?l_has_percent ?c_has_percent_ ?k_has_percent ?a_is_text ?l_is_text ?c_is_text_ ?k_is_text ?a_breaks_of ?l_breaks_of ?c_breaks_of_ ?k_breaks_of ?a_wider ?l_wider ?c_wider_ ?k_wider ?a_difference ?l_difference ?c_difference_ ?k_difference ?a_two_lines ?l_two_lines ?c_two_lines_ ?k_two_lines ?a__law_tape ?l__law_tape ?c__law_tape_ ?k__law_tape ?a__law_pick ?l__law_pick ?c__law_pick_ ?k__law_pick ?a__law_some ?l__law_some ?c__law_some_ ?k__law_some ?a__law_text ?l__law_text ?c__law_text_ ?k__law_text ?a__law_same ?l__law_same ?c__law_same_ ?k__law_same ?a__law_wide_text ?l__law_wide_text ?c__law_wide_text_ ?k__law_wide_text ?a__law_least ?l__law_least ?c__law_least_ ?k__law_least ?a__law_width ?l__law_width ?c__law_width_ ?k__law_width ?a__law_due ?l__law_due ?c__law_due_ ?k__law_due ?a__law_told ?l__law_told ?c__law_told_ ?k__law_told ?a__law_base ?l__law_base ?c__law_base_ ?k__law_base ?a__law_no_text ?l__law_no_text ?c__law_no_text_ ?k__law_no_text ?a_law ?l_law ?c_law_ ?k_law ?aE ?eE ?iE ?tE ?aT ?xT_ ?saT ?eT ?vT ?tT ?kpT ?inT ?tIT ?noT ?iT ?gaT ?ggT ?klT ?mrT ?hdT ?l_iT ?c_iT_ ?k_iT ?aW ?xW_ ?saW ?eW ?vW ?tW ?kpW ?inW ?tIW ?noW ?iW ?gaW ?ggW ?klW ?mrW ?hdW ?l_iW ?c_iW_ ?k_iW ?aO ?xO_ ?saO ?eO ?vO ?tO ?kpO ?inO ?tIO ?noO ?iO ?gaO ?ggO ?klO ?mrO ?hdO ?l_iO ?c_iO_ ?k_iO ?gt ?tk ?sTT ?sTW ?sTO ?sWT ?sWW ?sWO ?sOT ?sOW ?sOO ?sTE ?sWE ?gP ?gM ?z_isinstance ?z_int ?z_bool ?z_str ?z_len ?z_ord ?z_all ?z_enumerate ?z_max ?z_min ?z_abs ?z_range ?z_tuple ?z_ValueError
    (case a_is_integer => k_is)
    (case l_is_integer => k_is)
    (case c_is_integer_ => k_is)
    (case k_is_integer => k_is)
    (case a_is_within => k_is)
    (case l_is_within => k_is)
    (case c_is_within_ => k_is)
    (case k_is_within => k_is)
    (case a_has_percent => k_is)
    (case l_has_percent => k_is)
    (case c_has_percent_ => k_is)
    (case k_has_percent => k_is)
    (case a_is_text => k_is)
    (case l_is_text => k_is)
    (case c_is_text_ => k_is)
    (case k_is_text => k_is)
    (case a_breaks_of => k_is)
    (case l_breaks_of => k_is)
    (case c_breaks_of_ => k_is)
    (case k_breaks_of => k_is)
    (case a_wider => k_is)
    (case l_wider => k_is)
    (case c_wider_ => k_is)
    (case k_wider => k_is)
    (case a_difference => k_is)
    (case l_difference => k_is)
    (case c_difference_ => k_is)
    (case k_difference => k_is)
    (case a_two_lines => k_is)
    (case l_two_lines => k_is)
    (case c_two_lines_ => k_is)
    (case k_two_lines => k_is)
    (case a__law_tape => k_is)
    (case l__law_tape => k_is)
    (case c__law_tape_ => k_is)
    (case k__law_tape => k_is)
    (case a__law_pick => k_is)
    (case l__law_pick => k_is)
    (case c__law_pick_ => k_is)
    (case k__law_pick => k_is)
    (case a__law_some => k_is)
    (case l__law_some => k_is)
    (case c__law_some_ => k_is)
    (case k__law_some => k_is)
    (case a__law_text => k_is)
    (case l__law_text => k_is)
    (case c__law_text_ => k_is)
    (case k__law_text => k_is)
    (case a__law_same => k_is)
    (case l__law_same => k_is)
    (case c__law_same_ => k_is)
    (case k__law_same => k_is)
    (case a__law_wide_text => k_is)
    (case l__law_wide_text => k_is)
    (case c__law_wide_text_ => k_is)
    (case k__law_wide_text => k_is)
    (case a__law_least => k_is)
    (case l__law_least => k_is)
    (case c__law_least_ => k_is)
    (case k__law_least => k_is)
    (case a__law_width => k_is)
    (case l__law_width => k_is)
    (case c__law_width_ => k_is)
    (case k__law_width => k_is)
    (case a__law_due => k_is)
    (case l__law_due => k_is)
    (case c__law_due_ => k_is)
    (case k__law_due => k_is)
    (case a__law_told => k_is)
    (case l__law_told => k_is)
    (case c__law_told_ => k_is)
    (case k__law_told => k_is)
    (case a__law_base => k_is)
    (case l__law_base => k_is)
    (case c__law_base_ => k_is)
    (case k__law_base => k_is)
    (case a__law_no_text => k_is)
    (case l__law_no_text => k_is)
    (case c__law_no_text_ => k_is)
    (case k__law_no_text => k_is)
    (case a_law => k_is)
    (case l_law => k_is)
    (case c_law_ => k_is)
    (case k_law => k_is)
    (case aE => k_is)
    (case eE => k_is)
    (case iE => k_is)
    (case tE => k_is)
    (case aT => k_is)
    (case xT_ => k_is)
    (case saT => k_is)
    (case eT => k_is)
    (case vT => k_is)
    (case tT => k_is)
    (case kpT => k_is)
    (case inT => k_is)
    (case tIT => k_is)
    (case noT => k_is)
    (case iT => k_is)
    (case gaT => k_is)
    (case ggT => k_is)
    (case klT => k_is)
    (case mrT => k_is)
    (case hdT => k_is)
    (case l_iT => k_is)
    (case c_iT_ => k_is)
    (case k_iT => k_is)
    (case aW => k_is)
    (case xW_ => k_is)
    (case saW => k_is)
    (case eW => k_is)
    (case vW => k_is)
    (case tW => k_is)
    (case kpW => k_is)
    (case inW => k_is)
    (case tIW => k_is)
    (case noW => k_is)
    (case iW => k_is)
    (case gaW => k_is)
    (case ggW => k_is)
    (case klW => k_is)
    (case mrW => k_is)
    (case hdW => k_is)
    (case l_iW => k_is)
    (case c_iW_ => k_is)
    (case k_iW => k_is)
    (case aO => k_is)
    (case xO_ => k_is)
    (case saO => k_is)
    (case eO => k_is)
    (case vO => k_is)
    (case tO => k_is)
    (case kpO => k_is)
    (case inO => k_is)
    (case tIO => k_is)
    (case noO => k_is)
    (case iO => k_is)
    (case gaO => k_is)
    (case ggO => k_is)
    (case klO => k_is)
    (case mrO => k_is)
    (case hdO => k_is)
    (case l_iO => k_is)
    (case c_iO_ => k_is)
    (case k_iO => k_is)
    (case gt => k_is)
    (case tk => k_is)
    (case sTT => k_is)
    (case sTW => k_is)
    (case sTO => k_is)
    (case sWT => k_is)
    (case sWW => k_is)
    (case sWO => k_is)
    (case sOT => k_is)
    (case sOW => k_is)
    (case sOO => k_is)
    (case sTE => k_is)
    (case sWE => k_is)
    (case gP => k_is)
    (case gM => k_is)
    (case z_isinstance => k_is)
    (case z_int => k_is)
    (case z_bool => k_is)
    (case z_str => k_is)
    (case z_len => k_is)
    (case z_ord => k_is)
    (case z_all => k_is)
    (case z_enumerate => k_is)
    (case z_max => k_is)
    (case z_min => k_is)
    (case z_abs => k_is)
    (case z_range => k_is)
    (case z_tuple => k_is)
    (case z_ValueError => k_is)
