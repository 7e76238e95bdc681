import PyProof.Rows.All
import Wide.All
import OpenK.AllK
import Wide.FinOn
import HandS.ForMost
import HandS.Style
import PySem.Challenge.RW_eachheight_k04_outcomes_and_crash_result
import HandS.TupSets
import KE.KeyNested
import KE.KDictKeyed
import KE.SortData
import HandS.Words
import HandS.Deep
import HandS.TupAny
import PyProof.Rows.SortWalk
import KE.GoesEnum
import HandS.Walk
import HandS.Conv
import HandS.Flow
import HandS.NoneIn
import PyProof.ReprRoads
import PyProof.StrLawsRepr
import HandS.MakeKwOnly
set_option Elab.async false
set_option linter.all false
set_option maxRecDepth 100000
set_option maxHeartbeats 4000000
namespace Eh
open PySem PySem.Spec PyProof.Rows L2
def topS (i : Nat) : Stmt := PySem.Challenge.pw_eachheight_k04_outcomes_and_crash_result.main.body.getD i (.Pass ⟨0, 0, 0, 0⟩)
abbrev sIndex : Stmt := topS 1
abbrev sOuts : Stmt := topS 3
abbrev sLOuts : Stmt := topS 4
abbrev sCrash : Stmt := topS 5
abbrev sLCrash : Stmt := topS 6
abbrev sPicked : Stmt := topS 7
abbrev sDeck : Stmt := topS 9
abbrev sDraw : Stmt := topS 10
abbrev sPick : Stmt := topS 11
abbrev sNames : Stmt := topS 12
abbrev sRefs : Stmt := topS 13
abbrev sTarget : Stmt := topS 14
abbrev sCase : Stmt := topS 15
abbrev sTrans : Stmt := topS 16
abbrev sCrashes : Stmt := topS 17
abbrev sUnsafe : Stmt := topS 18
abbrev sRandom : Stmt := topS 19
abbrev sSpec : Stmt := topS 20
abbrev sValues : Stmt := topS 21
abbrev sOutcomes : Stmt := topS 22
abbrev sCrashed : Stmt := topS 23
abbrev sHeld : Stmt := topS 24
abbrev sRight : Stmt := topS 25
abbrev sLaw : Stmt := topS 26
end Eh
set_option Elab.async false
set_option linter.all false
set_option maxRecDepth 100000
set_option maxHeartbeats 4000000
namespace Eh
open PySem PySem.Spec PyProof.Rows L2
theorem scDeck : FnScope ["_law_script", "_law_cells", "_law_stir", "_law_cell"] ["_law_script"] (defScope sDeck) := ⟨rfl, rfl, rfl, by decide +kernel, rfl, by decide +kernel, by decide +kernel⟩
theorem scDraw : FnScope ["_law_deck_here", "_law_many", "_law_cell", "_law_number"] ["_law_deck_here", "_law_many"] (defScope sDraw) := ⟨rfl, rfl, rfl, by decide +kernel, rfl, by decide +kernel, by decide +kernel⟩
theorem scPick : FnScope ["_law_deck_here", "_law_some"] ["_law_deck_here", "_law_some"] (defScope sPick) := ⟨rfl, rfl, rfl, by decide +kernel, rfl, by decide +kernel, by decide +kernel⟩
/-- the deck at p: its cells at c; at most m draws so far -/
def Deck (H : Hp) (p c : Addr) (m : Nat) : Prop := ∃ (ns : List Int) (st d : Int), H p = some (.lst [.ref c, .int st, .int d]) ∧ H c = some (.lst (ns.map V.int)) ∧ p ≠ c ∧ ns.length ≤ 63 ∧ 0 ≤ d ∧ d ≤ (m : Int)
/-- all but p and c is kept -/
def Kp (p c : Addr) (H H' : Hp) : Prop := ∀ b o, b ≠ p → b ≠ c → H b = some o → H' b = some o
theorem Kp.refl (p c : Addr) (H : Hp) : Kp p c H H := fun _ _ _ _ h => h
theorem Kp.trans {p c : Addr} {H H1 H2 : Hp} (a : Kp p c H H1) (b : Kp p c H1 H2) : Kp p c H H2 := fun x o h1 h2 h => b x o h1 h2 (a x o h1 h2 h)
theorem Kp.of_same {p c : Addr} {H H' : Hp} (s : Same H H') : Kp p c H H' := fun b o _ _ h => s b o h
theorem Deck.of_same {H H' : Hp} {p c : Addr} {m : Nat} (d : Deck H p c m) (s : Same H H') : Deck H' p c m := by
  obtain ⟨ns, st, k, h1, h2, r⟩ := d
  exact ⟨ns, st, k, s _ _ h1, s _ _ h2, r⟩
theorem Deck.mono {H : Hp} {p c : Addr} {m n : Nat} (d : Deck H p c m) (h : m ≤ n) : Deck H p c n := by
  obtain ⟨ns, st, k, h1, h2, h3, h4, h5, h6⟩ := d
  exact ⟨ns, st, k, h1, h2, h3, h4, h5, by omega⟩
theorem Deck.nep {H : Hp} {p c q : Addr} {m : Nat} (d : Deck H p c m) (h : H q = none) : q ≠ p ∧ q ≠ c := by
  obtain ⟨ns, st, k, h1, h2, r⟩ := d
  exact ⟨(ne_of_none h1 h).symm, (ne_of_none h2 h).symm⟩
theorem same_upd {H : Hp} {p : Addr} {o : HO} (h : H p = none) : Same H (upd H p o) := fun b x e => by
  rw [upd_ne (ne_of_none e h)]
  exact e
def spDraw : Sp := fun vs H Q _ => ∃ (p c : Addr) (m : Nat) (many : Int), vs = [.ref p, .int many] ∧ Deck H p c m ∧ m < 1000000 ∧ 0 < many ∧ many < 1073741824 ∧
  ∀ (H' : Hp) (r : Int), Kp p c H H' → Deck H' p c (m + 1) → 0 ≤ r → r < many → Q (.int r) H'
section
variable {P : Program} {w : World} {K : PySem.W.Frag} {mg : Str → Option Value} {base : Heap}
theorem nil_shaped : SeqAt.shaped (.list []) = true := by decide +kernel
theorem dpa_ints {K : PySem.W.Frag} {H : Hp} : ∀ ns : List Int, DpAll K H (ns.map V.int) (ns.map PyData.int)
  | [] => .nil
  | n :: r => .cons (.int n) (dpa_ints r)
theorem lay_ints : ∀ ns : List Int, PyData.canLayAll0 (ns.map PyData.int) = true
  | [] => by simp [PyData.canLayAll0]
  | n :: r => by simp [PyData.canLayAll0, PyData.canLay0, lay_ints r]
theorem depth_ints : ∀ ns : List Int, PyData.depthAll (ns.map PyData.int) = 0
  | [] => by simp [PyData.depthAll]
  | n :: r => by simp [PyData.depthAll, PyData.depth, depth_ints r]
theorem shaped_ints (ns : List Int) : SeqAt.shaped (.list (ns.map PyData.int)) = true := by
  unfold SeqAt.shaped
  simp [PyData.canLay0, PyData.depth, lay_ints ns, depth_ints ns]
theorem eqv_ints_nil (ns : List Int) (z : Int) : PyData.eqv (.list ((ns ++ [z]).map PyData.int)) (.list []) = false := by
  cases ns <;> simp [PyData.eqv, PyData.eqvAll]
theorem emod_bd (a : Int) {b : Int} (h : 0 < b) : 0 ≤ a % b ∧ a % b < b := ⟨Int.emod_nonneg a (by omega), Int.emod_lt_of_pos a h⟩
theorem ok_draw {f : Addr} {fd : FuncData} {k : Nat} (F : Fun K "_law_draw" "_law_draw" sDraw f fd) : FnOk P w K mg base CX0 (k + 1) f fd ["_law_deck_here", "_law_many"] spDraw := by
  refine F.ok scDraw (fun vs H Q E h => ?_) (fun cdv A outer s H vs Q E hr h => ?_)
  · obtain ⟨p, c, m, many, rfl, _⟩ := h
    rfl
  · obtain ⟨p, c, m, many, rfl, ⟨ns, st, d, h1, h2, npc, hl, hd0, hdm⟩, hm, hn0, hn1, q⟩ := h
    have hu : (cxOf CX0 P w K mg base ["_law_deck_here", "_law_many", "_law_cell", "_law_number"] "_law_draw" (defScope sDraw) f cdv A outer s H E).nox.A.units + 64 < cLine := hr.units
    refine ⟨_, pss_cons (ps_asg (pe_op op_add (pe_ix ix_list (pv 0) pe_int (fun _ _ => rfl)) pe_int) (pg_sub (pv 0) pe_int set_list))
      (pss_cons (ps_set (i := 2) scDraw.nd rfl (.inl rfl) (pe_ix ix_list (pv 0) pe_int (fun _ _ => rfl)))
      (pss_cons (ps_if (pt_cmpR (op_neD hu) (pe_ix ix_list (pv 0) pe_int (fun _ _ => rfl)) (pe_lst pa_nil) (nomark _))
        (pss_cons (ps_set (i := 2) scDraw.nd rfl (.inl rfl) (pe_bm0 PySem.F.plainAttrs_list PySem.F.slot_list_pop PySem.F.type_list_pop mt_pop (pe_ix ix_list (pv 0) pe_int (fun _ _ => rfl))))
        (pss_cons (ps_if (pt_cmpR op_ge (pv 2) (pe_op op_pow pe_int pe_int) (nomark _))
          (pss_cons (ps_expr (pe_bm PySem.F.plainAttrs_list PySem.F.slot_list_append PySem.F.type_list_append mt_append (pe_ix ix_list (pv 0) pe_int (fun _ _ => rfl)) (pa_cons (pe_op op_fdiv (pv 2) (pv 1)) pa_nil)))
          (pss_one (ps_ret (pe_op op_mod (pv 2) (pv 1))))) pss_nil)
        (pss_one (ps_set (i := 2) scDraw.nd rfl (.inl rfl) (pe_op op_add (pv 2) (pe_ix ix_list (pv 0) pe_int (fun _ _ => rfl)))))))
        pss_nil)
      (pss_cons (ps_set (i := 3) scDraw.nd rfl (.inl rfl) (pe_op op_mod (pe_op op_mul (pe_op op_add (pe_op op_add (pe_op op_mod (pv 2) pe_int) (pe_op op_mul (pe_op op_mul pe_int (pe_ix ix_list (pv 0) pe_int (fun _ _ => rfl))) (pe_ix ix_list (pv 0) pe_int (fun _ _ => rfl)))) pe_int) pe_int) pe_int))
      (pss_cons (ps_set (i := 3) scDraw.nd rfl (.inl rfl) (pe_op op_mod (pe_op op_add (pe_op op_add (pe_op op_mul (pv 3) (pv 3)) (pe_op op_mul pe_int (pe_ix ix_list (pv 0) pe_int (fun _ _ => rfl)))) pe_int) pe_int))
      (pss_one (ps_ret (pe_op op_mod (pe_op op_fdiv (pe_op op_mod (pe_op op_mul (pv 3) pe_int) pe_int) pe_int) (pv 1)))))))), ?_⟩
    have at0 : ∀ (a b e : V), atI [a, b, e] 0 = some a := fun a b e => atI_nat (j := 0) rfl
    have at1 : ∀ (a b e : V), atI [a, b, e] 1 = some b := fun a b e => atI_nat (j := 1) rfl
    have at2 : ∀ (a b e : V), atI [a, b, e] 2 = some e := fun a b e => atI_nat (j := 2) rfl
    refine ⟨_, rfl, p, _, 2, .int d, rfl, rfl, SqL.of h1, at2 _ _ _, d, 1, rfl, rfl, _, rfl, p, _, 2, 2, rfl, rfl, h1, rfl, ?_⟩
    have k1 : Kp p c H (upd H p (.lst [.ref c, .int st, .int (d + 1)])) := fun b o n1 _ e => by rw [upd_ne n1]; exact e
    have a1 : (upd H p (.lst [.ref c, .int st, .int (d + 1)])) p = some (.lst [.ref c, .int st, .int (d + 1)]) := upd_same
    have a2 : (upd H p (.lst [.ref c, .int st, .int (d + 1)])) c = some (.lst (ns.map V.int)) := by rw [upd_ne npc.symm]; exact h2
    show tSeq _ _ _ _ (upd H p (.lst [.ref c, .int st, .int (d + 1)]))
    generalize upd H p (.lst [.ref c, .int st, .int (d + 1)]) = H1 at k1 a1 a2 ⊢
    have fin : ∀ (H' : Hp) (r : Int) (ns' : List Int), Kp p c H1 H' → H' p = some (.lst [.ref c, .int st, .int (d + 1)]) → H' c = some (.lst (ns'.map V.int)) → ns'.length ≤ 63 → 0 ≤ r → r < many → Q (.int r) H' :=
      fun H' r ns' k e1 e2 e3 r0 r1 => q H' r (k1.trans k) ⟨ns', st, d + 1, e1, e2, npc, e3, by omega, by omega⟩ r0 r1
    have m1 : CMul 92821 (d + 1) := .inl ⟨by decide, by decide⟩
    have m2 : CMul (92821 * (d + 1)) (d + 1) := .inr ⟨by omega, by omega⟩
    have m3 : ∀ x : Int, CMul x 39373 := fun x => .inr ⟨by decide, by decide⟩
    have m4 : ∀ x : Int, CMul (x % 2147483647) (x % 2147483647) := fun x => by
      have := emod_bd x (b := 2147483647) (by decide)
      exact .inl ⟨by omega, by omega⟩
    have m5 : CMul 40692 (d + 1) := .inl ⟨by decide, by decide⟩
    have m6 : ∀ x : Int, CMul x 69621 := fun x => .inr ⟨by decide, by decide⟩
    refine ⟨_, rfl, p, _, 1, .int st, rfl, rfl, SqL.of a1, at1 _ _ _, ?_⟩
    refine ⟨_, rfl, p, _, 0, .ref c, rfl, rfl, SqL.of a1, at0 _ _ _, Nat.zero_le _, fun l hl => ?_⟩
    have b1 : (upd H1 l (.lst [])) p = some (.lst [.ref c, .int st, .int (d + 1)]) := same_upd hl _ _ a1
    have b2 : (upd H1 l (.lst [])) c = some (.lst (ns.map V.int)) := same_upd hl _ _ a2
    have kl : Kp p c H1 (upd H1 l (.lst [])) := .of_same (same_upd hl)
    have b3 : (upd H1 l (.lst [])) l = some (.lst []) := upd_same
    generalize upd H1 l (.lst []) = H2 at b1 b2 b3 kl ⊢
    refine ⟨_, _, .lst (SqL.of b2) (dpa_ints ns), .lst (SqL.of b3) .nil, shaped_ints ns, nil_shaped, _, rfl, ?_⟩
    rcases List.eq_nil_or_concat ns with rfl | ⟨is, z, e⟩
    · refine iteF ?_
      refine ⟨_, rfl, _, _, rfl, rfl, (by show (0 : Int) < 2147483587; decide), _, rfl, p, _, 2, .int (d + 1), rfl, rfl, SqL.of b1, at2 _ _ _, _, _, rfl, rfl, m1, _, rfl, p, _, 2, .int (d + 1), rfl, rfl, SqL.of b1, at2 _ _ _, _, _, rfl, rfl, m2,
        _, _, rfl, rfl, _, _, rfl, rfl, _, _, rfl, rfl, m3 _, _, _, rfl, rfl, (by show (0 : Int) < 2147483647; decide), ?_⟩
      refine ⟨_, rfl, _, rfl, _, _, rfl, rfl, m4 _, _, rfl, p, _, 2, .int (d + 1), rfl, rfl, SqL.of b1, at2 _ _ _, _, _, rfl, rfl, m5, _, _, rfl, rfl, _, _, rfl, rfl, _, _, rfl, rfl, (by show (0 : Int) < 2147483563; decide), ?_⟩
      refine ⟨_, rfl, _, _, rfl, rfl, m6 _, _, _, rfl, rfl, (by show (0 : Int) < 2147483587; decide), _, _, rfl, rfl, ⟨by decide, by decide⟩, _, rfl, _, many, rfl, rfl, hn0, ?_⟩
      exact fin _ _ _ kl b1 b2 (Nat.zero_le _) (emod_bd _ hn0).1 (emod_bd _ hn0).2
    · rw [List.concat_eq_append] at e
      subst e
      rw [eqv_ints_nil]
      refine iteT ?_
      have b2' : H2 c = some (.lst (is.map V.int ++ [V.int z])) := by rw [b2, List.map_append]; rfl
      have lst1 : (is.map V.int ++ [V.int z])[(is.map V.int ++ [V.int z]).length - 1]? = some (V.int z) := by simp
      have his : is.length + 1 ≤ 63 := by simpa using hl
      refine ⟨_, rfl, p, _, 0, .ref c, rfl, rfl, SqL.of b1, at0 _ _ _, .inl ⟨rfl, _, SqL.of b2⟩, c, _, _, rfl, rfl, b2', lst1, ?_⟩
      have d1 : (upd H2 c (.lst (is.map V.int ++ [V.int z]).dropLast)) p = some (.lst [.ref c, .int st, .int (d + 1)]) := by rw [upd_ne npc]; exact b1
      have d2 : (upd H2 c (.lst (is.map V.int ++ [V.int z]).dropLast)) c = some (.lst (is.map V.int)) := by rw [upd_same, List.dropLast_concat]
      have d3 : Kp p c H1 (upd H2 c (.lst (is.map V.int ++ [V.int z]).dropLast)) := kl.trans fun b o _ n2 e => by rw [upd_ne n2]; exact e
      generalize upd H2 c (.lst (is.map V.int ++ [V.int z]).dropLast) = H3 at d1 d2 d3 ⊢
      refine ⟨_, rfl, 10, 18, rfl, rfl, ⟨by decide, by decide, by decide⟩, z, _, rfl, rfl, _, rfl, ite2 (fun _ => ?_) (fun _ => ?_)⟩
      · refine ⟨_, rfl, p, _, 0, .ref c, rfl, rfl, SqL.of d1, at0 _ _ _, .inl ⟨rfl, _, SqL.of d2⟩, _, rfl, _, rfl, z, many, rfl, rfl, ⟨hn0, hn1⟩, c, _, _, rfl, rfl, d2, small1000 (by simp; omega), ?_⟩
        have e2 : (upd H3 c (.lst (is.map V.int ++ [V.int (z / many)]))) c = some (.lst ((is ++ [z / many]).map V.int)) := by rw [upd_same, List.map_append]; rfl
        refine ⟨_, rfl, _, rfl, z, many, rfl, rfl, hn0, ?_⟩
        exact fin _ _ _ (d3.trans fun b o _ n2 e => by rw [upd_ne n2]; exact e) (by rw [upd_ne npc]; exact d1) e2 (by simp; omega) (emod_bd _ hn0).1 (emod_bd _ hn0).2
      · refine ⟨_, rfl, _, rfl, p, _, 1, .int st, rfl, rfl, SqL.of d1, at1 _ _ _, z, st, rfl, rfl, ?_⟩
        refine ⟨_, rfl, _, _, rfl, rfl, (by show (0 : Int) < 2147483587; decide), _, rfl, p, _, 2, .int (d + 1), rfl, rfl, SqL.of d1, at2 _ _ _, _, _, rfl, rfl, m1, _, rfl, p, _, 2, .int (d + 1), rfl, rfl, SqL.of d1, at2 _ _ _, _, _, rfl, rfl, m2,
          _, _, rfl, rfl, _, _, rfl, rfl, _, _, rfl, rfl, m3 _, _, _, rfl, rfl, (by show (0 : Int) < 2147483647; decide), ?_⟩
        refine ⟨_, rfl, _, rfl, _, _, rfl, rfl, m4 _, _, rfl, p, _, 2, .int (d + 1), rfl, rfl, SqL.of d1, at2 _ _ _, _, _, rfl, rfl, m5, _, _, rfl, rfl, _, _, rfl, rfl, _, _, rfl, rfl, (by show (0 : Int) < 2147483563; decide), ?_⟩
        refine ⟨_, rfl, _, _, rfl, rfl, m6 _, _, _, rfl, rfl, (by show (0 : Int) < 2147483587; decide), _, _, rfl, rfl, ⟨by decide, by decide⟩, _, rfl, _, many, rfl, rfl, hn0, ?_⟩
        exact fin _ _ _ d3 d1 d2 (by omega) (emod_bd _ hn0).1 (emod_bd _ hn0).2
def spDeck (K : PySem.W.Frag) : Sp := fun vs H Q _ => ∃ (a : Addr) (ns : List Int), vs = [.ref a] ∧ SqL K H a (ns.map V.int) ∧ ns.length ≤ 63 ∧
  ∀ (H' : Hp) (p c : Addr), Same H H' → H p = none → H c = none → Deck H' p c 0 → Q (.ref p) H'
theorem cut63 {xs : List V} (h : xs.length ≤ 63) : cutV xs none (some 63) = xs := by
  unfold cutV
  rw [HT.sIx_none, show HT.sIx xs.length xs.length (some (63 : Int)) = min 63 xs.length from HT.sIx_nat xs.length xs.length 63]
  show List.take (min 63 xs.length - 0) (xs.drop 0) = xs
  rw [List.drop_zero]
  exact List.take_of_length_le (by omega)
theorem get_ints {ns : List Int} {i : Nat} {y : V} (h : (ns.map V.int)[i]? = some y) : ∃ z, ns[i]? = some z ∧ y = V.int z := by
  rw [List.getElem?_map] at h
  cases e : ns[i]? with
  | none => rw [e] at h; cases h
  | some z => rw [e] at h; exact ⟨z, rfl, (Option.some.inj h).symm⟩
theorem ok_deck {f : Addr} {fd : FuncData} {k : Nat} (F : Fun K "_law_deck" "_law_deck" sDeck f fd) (ml : mg "list" = none) : FnOk P w K mg base CX0 (k + 1) f fd ["_law_script"] (spDeck K) := by
  refine F.ok scDeck (fun vs H Q E h => ?_) (fun cdv A outer s H vs Q E hr h => ?_)
  · obtain ⟨a, ns, rfl, _⟩ := h
    rfl
  · obtain ⟨a, ns, rfl, hS, hl, q⟩ := h
    refine ⟨_, pss_cons (ps_par (i := 1) (j := 2) rfl scDeck.nd rfl rfl (by decide) rfl rfl (pa_cons (pe_callTy call_list_of (by rfl) ml (by decide +kernel) (pa_cons (pe_slice sl_list (pv 0) po_none (po_some pe_int)) pa_nil)) (pa_cons pe_int pa_nil)) rfl)
      (pss_cons (ps_for PassesOwn.never rfl (pi_list (pv 1)) (pg_name (i := 3) scDeck.nd rfl (.inl rfl))
        (pss_one (ps_set (i := 2) scDeck.nd rfl (.inl rfl) (pe_op op_mod (pe_op op_add (pe_op op_add (pe_op op_mul (pv 2) pe_int) (pe_op op_mod (pv 3) pe_int)) pe_int) pe_int))))
      (pss_one (ps_ret (pe_lst (pa_cons (pe_revL (pv 1)) (pa_cons (pv 2) (pa_cons pe_int pa_nil))))))), ?_⟩
    refine ⟨_, rfl, 63, rfl, a, ns.map V.int, rfl, hS, fun l0 hl0 => ?_⟩
    have s0 : Same H (upd H l0 (.lst (cutV (ns.map V.int) none (some 63)))) := same_upd hl0
    have e0 : (upd H l0 (.lst (cutV (ns.map V.int) none (some 63)))) l0 = some (.lst (ns.map V.int)) := by rw [upd_same, cut63 (by simpa using hl)]
    generalize upd H l0 (.lst (cutV (ns.map V.int) none (some 63))) = H1 at s0 e0 ⊢
    refine ⟨l0, _, rfl, .inl (SqL.of e0), fun l1 hl1 => ?_⟩
    have s1 : Same H (upd H1 l1 (.lst (ns.map V.int))) := s0.trans (same_upd hl1)
    have e1 : (upd H1 l1 (.lst (ns.map V.int))) l1 = some (.lst (ns.map V.int)) := upd_same
    generalize upd H1 l1 (.lst (ns.map V.int)) = H2 at s1 e1 ⊢
    refine ⟨_, _, rfl, ?_⟩
    refine ⟨_, rfl, l1, rfl, ⟨_, SqL.of e1⟩, for_list (K := K) (a := l1) (xs := ns.map V.int) (fun i σ H' => ∃ (st : Int) (v : Option V), σ = [some (.ref a), some (.ref l1), some (.int st), v] ∧ 0 ≤ st ∧ st < 2147483648 ∧ H' = H2)
      ⟨52361, none, rfl, by decide, by decide, rfl⟩ (fun i σ H' _ ⟨_, _, _, _, _, e⟩ => by rw [e]; exact SqL.of e1) ?_ ?_⟩
    · rintro i y σ H' hi ⟨st, v, rfl, g0, g1, rfl⟩
      obtain ⟨z, hz, rfl⟩ := get_ints hi
      have m1 : CMul st 48271 := .inr ⟨by decide, by decide⟩
      refine ⟨_, rfl, _, _, rfl, rfl, m1, _, rfl, _, _, rfl, rfl, (by show (0 : Int) < 2147483563; decide), _, _, rfl, rfl, _, _, rfl, rfl, _, _, rfl, rfl, (by show (0 : Int) < 2147483629; decide), ?_⟩
      have bd := emod_bd (st * 48271 + z % 2147483563 + 19) (b := 2147483629) (by decide)
      exact ⟨_, _, rfl, bd.1, by omega, rfl⟩
    · rintro σ H' ⟨st, v, rfl, g0, g1, rfl⟩
      refine ⟨_, rfl, l1, _, rfl, SqL.of e1, fun c hc => ?_⟩
      refine ⟨_, rfl, by show 3 ≤ sizeLine; decide, fun p hp => ?_⟩
      have ncp : p ≠ c := fun e => by rw [e, upd_same] at hp; cases hp
      refine q _ p c ((s1.trans (same_upd hc)).trans (same_upd hp)) ?_ (s1.free hc) ⟨ns.reverse, st, 0, upd_same, ?_, ncp, by simpa using hl, by decide, by decide⟩
      · exact ((s1.trans (same_upd hc)).free hp)
      · rw [upd_ne ncp.symm, upd_same, List.map_reverse]
theorem Kp.seqL {K : PySem.W.Frag} {p c a : Addr} {H H' : Hp} {xs : List V} (k : Kp p c H H') (h1 : a ≠ p) (h2 : a ≠ c) (h : SqL K H a xs) : SqL K H' a xs := by
  rcases h with (h | ⟨o, h⟩) | h
  · exact .inl (.inl (k _ _ h1 h2 h))
  · exact .inl (.inr ⟨o, k _ _ h1 h2 h⟩)
  · exact .inr h
theorem Kp.seqT {K : PySem.W.Frag} {p c a : Addr} {H H' : Hp} {xs : List V} (k : Kp p c H H') (h1 : a ≠ p) (h2 : a ≠ c) (h : SqT K H a xs) : SqT K H' a xs := by
  rcases h with (h | ⟨o, h⟩) | h
  · exact .inl (.inl (k _ _ h1 h2 h))
  · exact .inl (.inr ⟨o, k _ _ h1 h2 h⟩)
  · exact .inr h
theorem Deck.neT {H : Hp} {p c a : Addr} {m : Nat} {xs : List V} (d : Deck H p c m) (h : Rd H a (.tup xs)) : a ≠ p ∧ a ≠ c := by
  obtain ⟨ns, st, k, h1, h2, r⟩ := d
  refine ⟨fun e => ?_, fun e => ?_⟩ <;> subst e <;> rcases h with h | ⟨o, h⟩
  · rw [h1] at h; cases h
  · rw [h1] at h; cases h
  · rw [h2] at h; cases h
  · rw [h2] at h; cases h
theorem Deck.keepT {K : PySem.W.Frag} {p c a : Addr} {H H' : Hp} {m : Nat} {xs : List V} (d : Deck H p c m) (k : Kp p c H H') (h : SqT K H a xs) : SqT K H' a xs := by
  rcases h with h | h
  · obtain ⟨n1, n2⟩ := d.neT h
    exact k.seqT n1 n2 (.inl h)
  · exact .inr h
/-- an item of the list or tuple -/
def spPick (K : PySem.W.Frag) : Sp := fun vs H Q _ => ∃ (p c a : Addr) (m : Nat) (xs : List V), vs = [.ref p, .ref a] ∧ Deck H p c m ∧ m < 1000000 ∧ ((SqL K H a xs ∧ a ≠ p ∧ a ≠ c) ∨ SqT K H a xs) ∧ 0 < xs.length ∧ xs.length < 1000000 ∧
  ∀ (H' : Hp) (i : Nat) (v : V), Kp p c H H' → Deck H' p c (m + 1) → xs[i]? = some v → Q v H'
theorem ok_pick {f fD : Addr} {fd fdD : FuncData} {k : Nat} (F : Fun K "_law_pick" "_law_pick" sPick f fd) (FD : Fun K "_law_draw" "_law_draw" sDraw fD fdD) (bD : Binds K fdD ["_law_deck_here", "_law_many"] []) (gD : mg "_law_draw" = some (.ref fD)) (ml : mg "len" = none) :
    FnOk P w K mg base CX0 (k + 2) f fd ["_law_deck_here", "_law_some"] (spPick K) := by
  have GD : FnOk P w K mg base CX0 (k + 1) fD fdD ["_law_deck_here", "_law_many"] spDraw := ok_draw FD
  refine F.ok scPick (fun vs H Q E h => ?_) (fun cdv A outer s H vs Q E hr h => ?_)
  · obtain ⟨p, c, a, m, xs, rfl, _⟩ := h
    rfl
  · obtain ⟨p, c, a, m, xs, rfl, hd, hm, hS, l0, l1, q⟩ := h
    refine ⟨_, pss_one (ps_ret (pe_ix ix_seq (pv 1) (pe_call GD hr (by rfl) gD FD.kp bD .nil pass0 (pa_cons (pv 0) (pa_cons (pe_callB call_len_seq (by rfl) ml PySem.boot_len (pa_cons (pv 1) pa_nil)) pa_nil))) (fun _ _ => rfl))), ?_⟩
    refine ⟨_, rfl, _, rfl, _, rfl, a, xs, rfl, hS.imp (·.1) id, p, c, m, (xs.length : Int), rfl, hd, hm, by omega, by omega, fun H' r k d r0 r1 => ?_⟩
    obtain ⟨j, rfl⟩ : ∃ j : Nat, r = (j : Int) := ⟨r.toNat, by omega⟩
    have hj : j < xs.length := by omega
    have hx : xs[j]? = some xs[j] := List.getElem?_eq_getElem hj
    rcases hS with hS | hS
    · exact .inl ⟨a, xs, (j : Int), _, rfl, rfl, k.seqL hS.2.1 hS.2.2 hS.1, atI_nat hx, q H' j _ k d hx⟩
    · exact .inr (.inl ⟨a, xs, (j : Int), _, rfl, rfl, hd.keepT k hS, atI_nat hx, q H' j _ k d hx⟩)
end
end Eh
set_option Elab.async false
set_option linter.all false
set_option maxRecDepth 100000
set_option maxHeartbeats 4000000
/-! Small questions that a set asks of nested keys. -/
namespace NS
open PySem PyProof.Rows
section
variable {P : Program} {w : World} {A : Around} {E : Value → Shared → Prop} {s : Shared}
theorem all_mem {h : Heap} : ∀ {ks : List NestedKey} {vs : List Value} {n : Nat}, NestedAll h ks vs → NestedKey.depthAll ks ≤ n → ∀ v ∈ vs, ∃ k, NestedIs h k v ∧ k.depth ≤ n ∧ k ∈ ks
  | _, _, _, .nil, _, v, hv => by cases hv
  | _, _, n, .cons (k := k) (ks := ks) h1 h2, hd, v, hv => by
    rw [NestedKey.depthAll] at hd
    rcases List.mem_cons.mp hv with rfl | hv
    · exact ⟨k, h1, by omega, List.mem_cons_self⟩
    · obtain ⟨k', a, b, c⟩ := all_mem h2 (n := n) (by omega) v hv
      exact ⟨k', a, b, List.mem_cons_of_mem _ c⟩
/-- a nested key is of no class statement -/
theorem ofAClass_nest : ∀ (n : Nat) (k : NestedKey) (v : Value) (s : Shared) (Q : Bool → Shared → Prop), NestedIs s.heap k v → k.depth ≤ n → Q false s → wpAny (model P w) A (ofAClassStatement n v) Q E s
  | n, k, .none, s, Q, _, _, q => by cases n <;> exact wpAny_pure q
  | n, k, .bool _, s, Q, _, _, q => by cases n <;> exact wpAny_pure q
  | n, k, .int _ _, s, Q, _, _, q => by cases n <;> exact wpAny_pure q
  | n, k, .str _ _, s, Q, _, _, q => by cases n <;> exact wpAny_pure q
  | n, k, .float _ _, s, Q, x, _, _ => by cases x
  | n, k, .bytes _ _, s, Q, x, _, _ => by cases x
  | n, k, .ellipsis, s, Q, x, _, _ => by cases x
  | n, k, .notImplemented, s, Q, x, _, _ => by cases x
  | n, k, .type _, s, Q, x, _, _ => by cases x
  | n, k, .builtin _, s, Q, x, _, _ => by cases x
  | 0, k, .ref b, s, Q, x, hd, _ => by
    cases x with
    | tup h1 h2 h3 h4 => rw [NestedKey.depth] at hd; omega
  | n + 1, k, .ref b, s, Q, x, hd, q => by
    cases x with
    | @tup _ o vs m ks h1 h2 h3 h4 =>
      rw [NestedKey.depth] at hd
      have hT : s.TypeIs (.ref b) "tuple" := ⟨o, h1, h2⟩
      have all := all_mem h4 (n := n) (by omega)
      unfold ofAClassStatement
      refine wpAny_bind (wpAny_typeOf hT ?_)
      dsimp only
      have e : (("tuple" : String) == "tuple") = true := by decide
      simp only [e, if_true, Bool.not_true, Bool.false_eq_true, if_false]
      try refine wpAny_bind (wpAny_pure ?_)
      try simp only [Bool.not_true, Bool.false_eq_true, if_false]
      show wpAny _ _ (seqItems? (.ref b) >>= _) _ _ s
      refine wpAny_bind (wpAny_seqItems h1 h3 ?_)
      dsimp only
      refine wpAny_bind ?_
      show wpAny _ _ (forIn vs _ _) _ _ s
      rw [← Array.forIn_toList]
      refine wpAny_forIn_list _ (fun rest r s' => r.1 = none ∧ s' = s ∧ ∀ v ∈ rest, ∃ k, NestedIs s.heap k v ∧ k.depth ≤ n ∧ k ∈ ks) _ ?_ ?_ _ _ ⟨rfl, rfl, all⟩
      · rintro v rest r s' ⟨hr, rfl, hall⟩
        obtain ⟨k', x', d', _⟩ := hall v List.mem_cons_self
        refine wpAny_bind (ofAClass_nest n k' v s' _ x' d' ?_)
        simp only [Bool.false_eq_true, if_false]
        exact wpAny_pure ⟨rfl, rfl, fun u hu' => hall u (List.mem_cons_of_mem _ hu')⟩
      · rintro ⟨r1, r2⟩ s' ⟨hr, rfl, _⟩
        simp only at hr
        subst hr
        exact wpAny_pure q
theorem at_pos {α : Type} {M : Model} {c : Prop} [Decidable c] {x y : Sem α} {Q : α → Shared → Prop} (hc : c) (h : wpAny M A x Q E s) : wpAny M A (if c then x else y) Q E s := by
  rw [if_pos hc]
  exact h
theorem at_neg {α : Type} {M : Model} {c : Prop} [Decidable c] {x y : Sem α} {Q : α → Shared → Prop} (hc : ¬ c) (h : wpAny M A y Q E s) : wpAny M A (if c then x else y) Q E s := by
  rw [if_neg hc]
  exact h
mutual
/-- no text stands in the key: its hash is the value's own -/
def byVal : NestedKey → Bool
  | .none => true
  | .num _ => true
  | .text _ => false
  | .tup ks => byVals ks
def byVals : List NestedKey → Bool
  | [] => true
  | k :: ks => byVal k && byVals ks
end
theorem byVals_all : ∀ ks : List NestedKey, byVals ks = ks.all byVal
  | [] => rfl
  | k :: ks => by rw [byVals, List.all_cons, byVals_all ks]
/-- the keys of a tuple's items, item by item -/
theorem hashBy_nest : ∀ (n : Nat) (k : NestedKey) (v : Value) (s : Shared) (Q : Bool → Shared → Prop), NestedIs s.heap k v → k.depth ≤ n → Q (byVal k) s → wpAny (model P w) A (hashByValue n v) Q E s
  | n, k, .none, s, Q, x, _, q => by
    cases x
    cases n <;> exact wpAny_pure q
  | n, k, .bool _, s, Q, x, _, q => by
    cases x
    cases n <;> exact wpAny_pure q
  | n, k, .int _ _, s, Q, x, _, q => by
    cases x
    cases n <;> exact wpAny_pure q
  | n, k, .str _ _, s, Q, x, _, q => by
    cases x
    cases n <;> exact wpAny_pure q
  | n, k, .float _ _, s, Q, x, _, _ => by cases x
  | n, k, .bytes _ _, s, Q, x, _, _ => by cases x
  | n, k, .ellipsis, s, Q, x, _, _ => by cases x
  | n, k, .notImplemented, s, Q, x, _, _ => by cases x
  | n, k, .type _, s, Q, x, _, _ => by cases x
  | n, k, .builtin _, s, Q, x, _, _ => by cases x
  | 0, k, .ref b, s, Q, x, hd, _ => by
    cases x with
    | tup h1 h2 h3 h4 => rw [NestedKey.depth] at hd; omega
  | n + 1, k, .ref b, s, Q, x, hd, q => by
    cases x with
    | @tup _ o vs m ks h1 h2 h3 h4 =>
      rw [NestedKey.depth] at hd
      have hT : s.TypeIs (.ref b) "tuple" := ⟨o, h1, h2⟩
      rw [byVal] at q
      unfold hashByValue
      refine wpAny_bind (wpAny_specialOf hT F.slot_tuple_hash.lookup ?_)
      show wpAny _ _ (seqItems? (.ref b) >>= _) _ _ s
      refine wpAny_bind (wpAny_seqItems h1 h3 ?_)
      refine wpAny_bind ?_
      show wpAny _ _ (forIn vs _ _) _ _ s
      rw [← Array.forIn_toList]
      refine wpAny_forIn_list _ (fun rest r s' => r.1 = none ∧ s' = s ∧ ∃ ls, NestedAll s.heap ls rest ∧ NestedKey.depthAll ls ≤ n ∧ byVals ls = byVals ks) _ ?_ ?_ _ _ ⟨rfl, rfl, ks, h4, by omega, rfl⟩
      · rintro v rest r s' ⟨hr, rfl, ls, hall, hdep, hby⟩
        cases hall with
        | @cons k' _ ls' _ x1 x2 =>
          rw [NestedKey.depthAll] at hdep
          rw [byVals] at hby
          refine wpAny_bind (hashBy_nest n k' v s' _ x1 (by omega) ?_)
          cases hb : byVal k' with
          | true =>
            rw [hb, Bool.true_and] at hby
            simp only [Bool.not_true, Bool.false_eq_true, if_false]
            exact wpAny_pure ⟨rfl, rfl, ls', x2, by omega, hby⟩
          | false =>
            rw [hb, Bool.false_and] at hby
            simp only [Bool.not_false, if_true]
            rw [← hby] at q
            exact wpAny_pure (wpAny_pure q)
      · rintro ⟨r1, r2⟩ s' ⟨hr, rfl, ls, hall, hdep, hby⟩
        simp only at hr
        subst hr
        cases hall
        rw [← hby] at q
        exact wpAny_pure q
/-- a search among nested keys shows nothing -/
theorem seen_nest {k : NestedKey} {b : Addr} {Q : Bool → Shared → Prop} (hk : (nestedKind P w).is s.heap k b) {ys : List Value} (hy : ∀ y ∈ ys, ∃ k' c, y = Value.ref c ∧ (nestedKind P w).is s.heap k' c) (h : Q false s) :
    wpAny (model P w) A (searchCouldBeSeen (.ref b) ys) Q E s := by
  unfold searchCouldBeSeen
  refine wpAny_bind ?_
  refine wpAny_forIn_list _ (fun rest r s' => r.1 = none ∧ s' = s ∧ ∀ y ∈ rest, ∃ k' c, y = Value.ref c ∧ (nestedKind P w).is s.heap k' c) _ ?_ ?_ _ _ ⟨rfl, rfl, hy⟩
  · rintro v rest r s' ⟨hr, rfl, hall⟩
    obtain ⟨k', c, rfl, hc⟩ := hall v List.mem_cons_self
    have rest' : ∀ y ∈ rest, ∃ k' c, y = Value.ref c ∧ (nestedKind P w).is s'.heap k' c := fun u hu' => hall u (List.mem_cons_of_mem _ hu')
    dsimp only
    by_cases hv : (b == c || (carriedByValue (.ref b) && carriedByValue (.ref c))) = true
    · exact at_pos hv (wpAny_pure ⟨rfl, rfl, rest'⟩)
    · refine at_neg hv ?_
      refine wpAny_bind ((nestedKind P w).quiet hk ?_)
      simp only [Bool.not_true, Bool.false_eq_true, if_false]
      refine wpAny_bind ((nestedKind P w).quiet hc ?_)
      simp only [Bool.not_true, Bool.false_eq_true, if_false]
      refine wpAny_bind (ofAClass_nest 8 k _ s' _ hk.1 hk.2 ?_)
      simp only [Bool.false_eq_true, if_false]
      refine wpAny_bind (ofAClass_nest 8 k' _ s' _ hc.1 hc.2 ?_)
      simp only [Bool.false_eq_true, if_false]
      exact wpAny_pure ⟨rfl, rfl, rest'⟩
  · rintro ⟨r1, r2⟩ s' ⟨hr, rfl, _⟩
    simp only at hr
    subst hr
    exact wpAny_pure h
end
end NS
set_option Elab.async false
set_option linter.all false
set_option maxRecDepth 100000
set_option maxHeartbeats 4000000
/-! Sets of nested keys: the search. -/
namespace NS
open PySem PySem.Spec PyProof.Rows L2
section
variable {P : Program} {w : World} {A : Around} {E : Value → Shared → Prop} {s : Shared}
abbrev kh (P : Program) (w : World) (k : NestedKey) : Int := (nestedKind P w).hash k
abbrev IsN (P : Program) (w : World) (h : Heap) (k : NestedKey) (a : Addr) : Prop := (nestedKind P w).is h k a
def entries (P : Program) (w : World) (L : List (Addr × NestedKey)) : List (Int × Value) := L.map fun p => (kh P w p.2, Value.ref p.1)
/-- the set at a holds the keys of L, at their addresses -/
structure SetN (P : Program) (w : World) (h : Heap) (a : Addr) (L : List (Addr × NestedKey)) (es : Array (Int × Value)) (ep : Nat) (t : SetTable) : Prop where
  ob : ∃ o, h.get? a = some o ∧ o.ExactSet ∧ o.data = .set es ep t
  rows : es.toList = entries P w L
  tab : TabOk t (L.map fun p => kh P w p.2)
  nd : (L.map (·.2)).Nodup
  key : ∀ p ∈ L, IsN P w h p.2 p.1
  plain : t.plain = L.all fun p => byVal p.2
  led : w.params.followText "set-order" = true ∨ t.led = true
  room : L.length * 5 < t.mask * 3
  few : L.length < 64
/-- the k-th state of a search for h -/
def pr (t : SetTable) (h : Int) (k : Nat) : SetTable.Probe := nth t.mask (runAt t.mask (SetTable.bits h % (t.mask + 1)) (SetTable.bits h)) k
theorem pr_start (t : SetTable) (h : Int) : t.probeStart h = pr t h 0 := rfl
theorem pr_way (t : SetTable) (h : Int) (k : Nat) : (pr t h k).j = way t.mask h k := rfl
theorem pr_add (t : SetTable) (h : Int) (c q : Nat) : nth t.mask (pr t h c) q = pr t h (c + q) := (nth_add t.mask c _ q).symm
theorem no_dummy (m : Nat) : ∀ (n : Nat) (p : SetTable.Probe), p.dummy = none → (nth m p n).dummy = none
  | 0, _, h => h
  | n + 1, p, h => no_dummy m n (adv m p) (by
    unfold adv
    split <;> exact h)
variable {a : Addr} {L : List (Addr × NestedKey)} {es : Array (Int × Value)} {ep : Nat} {t : SetTable}
theorem SetN.size (R : SetN P w s.heap a L es ep t) : es.size = L.length := by
  rw [← Array.length_toList, R.rows, entries, List.length_map]
theorem SetN.fits (R : SetN P w s.heap a L es ep t) : t.fits es.size = true := by
  have h1 := R.tab.sz
  have h2 := R.size
  have h3 := R.room
  rw [List.length_map] at h1
  unfold SetTable.fits SetTable.fill
  rw [R.tab.dm, Bool.and_eq_true, beq_iff_eq, decide_eq_true_eq]
  refine ⟨by omega, ?_⟩
  show t.place.size + 0 ≤ t.mask
  omega
theorem SetN.entry (R : SetN P w s.heap a L es ep t) {i : Nat} {p : Addr × NestedKey} (h : L[i]? = some p) : es[i]? = some (kh P w p.2, Value.ref p.1) := by
  rw [← Array.getElem?_toList, R.rows, entries, List.getElem?_map, h]
  rfl
theorem SetN.hash_at (R : SetN P w s.heap a L es ep t) {i : Nat} {p : Addr × NestedKey} (h : L[i]? = some p) : (es[i]?.map (·.1)).getD 0 = kh P w p.2 := by
  rw [R.entry h]
  rfl
theorem SetN.steady (R : SetN P w s.heap a L es ep t) : ¬ t.gaveWay = true := by
  unfold SetTable.gaveWay
  rw [mask_odd R.tab.mok]
  decide
/-- what stands at a filled slot -/
theorem SetN.at_slot (R : SetN P w s.heap a L es ep t) {i j : Nat} (h : t.place.toList[i]? = some j) : ∃ p, L[i]? = some p ∧ p ∈ L := by
  have h1 : i < t.place.toList.length := (List.getElem?_eq_some_iff.mp h).1
  have h2 := R.tab.sz
  rw [List.length_map] at h2
  rw [Array.length_toList, h2] at h1
  exact ⟨L[i], List.getElem?_eq_getElem h1, List.getElem_mem h1⟩
/-- the probe's answer from the c-th state on -/
theorem probe_at (R : SetN P w s.heap a L es ep t) {h : Int} {K c : Nat} (hf : K < 10 * SetTable.turns t.mask) (hK : way t.mask h K ∉ t.place.toList) (hb : ∀ k, k < K → way t.mask h k ∈ t.place.toList) (hc : c ≤ K) :
    (∃ q i p, c + q < K ∧ t.place.toList[i]? = some (way t.mask h (c + q)) ∧ L[i]? = some p ∧ kh P w p.2 = h ∧ (∀ (q' i' : Nat) (p' : Addr × NestedKey), q' < q → t.place.toList[i']? = some (way t.mask h (c + q')) → L[i']? = some p' → kh P w p'.2 ≠ h) ∧
      t.probe (fun i => (es[i]?.map (·.1)).getD 0) h (pr t h c) = some (.candidate (way t.mask h (c + q)) i (pr t h (c + q + 1)))) ∨
    ((∀ (q' i' : Nat) (p' : Addr × NestedKey), c + q' < K → t.place.toList[i']? = some (way t.mask h (c + q')) → L[i']? = some p' → kh P w p'.2 ≠ h) ∧ t.probe (fun i => (es[i]?.map (·.1)).getD 0) h (pr t h c) = some (.empty (way t.mask h K) none)) := by
  have ej : ∀ q, (nth t.mask (pr t h c) q).j = way t.mask h (c + q) := fun q => congrArg SetTable.Probe.j (pr_add t h c q)
  have spec := go_spec t R.tab.ris R.tab.dm (fun i => (es[i]?.map (·.1)).getD 0) h (10 * SetTable.turns t.mask) (K - c) (pr t h c) (no_dummy _ _ _ rfl) (by omega)
    (fun q hq => by rw [ej]; exact hb (c + q) (by omega)) (by rw [ej, show c + (K - c) = K by omega]; exact hK)
  rcases spec with ⟨q, i, hq, hi, hh, hn, hp⟩ | ⟨hn, hp⟩
  · left
    rw [ej] at hi
    obtain ⟨p, hpi, _⟩ := R.at_slot hi
    refine ⟨q, i, p, by omega, hi, hpi, (R.hash_at hpi).symm.trans hh, fun q' i' p' h1 h2 h3 h4 => hn q' i' h1 (by rw [ej]; exact h2) ((R.hash_at h3).trans h4), ?_⟩
    rw [← ej, show c + q + 1 = c + (q + 1) from rfl, ← pr_add]
    exact hp
  · right
    refine ⟨fun q' i' p' h1 h2 h3 h4 => hn q' i' (by omega) (by rw [ej]; exact h2) ((R.hash_at h3).trans h4), ?_⟩
    have e : way t.mask h K = (nth t.mask (pr t h c) (K - c)).j := by rw [ej, show c + (K - c) = K by omega]
    rw [e]
    exact hp
/-- what is behind a candidate that is another key, or the key -/
theorem met_at (R : SetN P w s.heap a L es ep t) {x : Addr} {k : NestedKey} (hx : IsN P w s.heap k x) (hu : A.units + 8 < cLine) {p : Addr × NestedKey} {i f j : Nat} {next : SetTable.Probe} {h : Int} {Q : SetFound → Shared → Prop}
    (hi : t.place.toList[i]? = some j) (hp : L[i]? = some p) (hin : p.2 = k → Q (.there none) s) (hout : p.2 ≠ k → wpAny (model P w) A (setSearchFrom a (.ref x) h true f (some next)) Q E s) :
    wpAny (model P w) A (searchRest a (.ref x) h true f es t j i next) Q E s := by
  obtain ⟨o, ho, hex, hd⟩ := R.ob
  have hm : p ∈ L := List.mem_of_getElem? hp
  unfold searchRest
  rw [R.entry hp]
  dsimp only
  refine wpAny_bind (wpAny_holding ((nestedKind P w).eqBool hu (R.key p hm) hx ?_))
  refine wpAny_bind (wpAny_setState_of ho hd R.fits ?_)
  dsimp only
  by_cases e : p.2 = k
  · exact at_pos (by simp [e]) (wpAny_pure (hin e))
  · refine at_neg (by simp [e]) ?_
    try refine wpAny_bind (wpAny_pure ?_)
    rw [sameMem]
    dsimp only
    have sl : t.slot j = .live i := slot_live R.tab.ris hi
    simp only [if_true, sl, R.entry hp]
    refine wpAny_bind (wpAny_isSame_ref_self (wpAny_bind (wpAny_pure ?_)))
    simp only [if_true]
    exact at_neg (by simp [e]) (hout e)
/-- the search, from its c-th state on -/
theorem find_at (R : SetN P w s.heap a L es ep t) {x : Addr} {k : NestedKey} (hx : IsN P w s.heap k x) (hu : A.units + 8 < cLine) {K : Nat} (hf : K < 10 * SetTable.turns t.mask) (hK : way t.mask (kh P w k) K ∉ t.place.toList) (hb : ∀ c, c < K → way t.mask (kh P w k) c ∈ t.place.toList) {Q : SetFound → Shared → Prop}
    (hin : k ∈ L.map (·.2) → Q (.there none) s) (hout : k ∉ L.map (·.2) → Q (.free (way t.mask (kh P w k) K) false) s) :
    ∀ (f c : Nat) (stand : Option SetTable.Probe), stand.getD (t.probeStart (kh P w k)) = pr t (kh P w k) c → c ≤ K → K - c < f →
      (∀ (i : Nat) (p : Addr × NestedKey), L[i]? = some p → p.2 = k → ∃ c', c ≤ c' ∧ c' < K ∧ t.place.toList[i]? = some (way t.mask (kh P w k) c')) →
      wpAny (model P w) A (setSearchFrom a (.ref x) (kh P w k) true f stand) Q E s
  | 0, _, _, _, _, hf, _ => absurd hf (Nat.not_lt_zero _)
  | f + 1, c, stand, hst, hc, hlt, hre => by
    obtain ⟨o, ho, hex, hd⟩ := R.ob
    rw [setSearchFrom_succ]
    refine wpAny_bind (wpAny_setState_of ho hd R.fits ?_)
    dsimp only
    refine at_neg R.steady ?_
    try refine wpAny_bind (wpAny_pure ?_)
    rw [hst]
    rcases probe_at R hf hK hb hc with ⟨q, i, p, hq, hi, hp, hh, hno, hpr⟩ | ⟨hno, hpr⟩
    · rw [hpr]
      dsimp only
      have rest := met_at (E := E) (Q := Q) R hx hu (f := f) (h := kh P w k) (next := pr t (kh P w k) (c + q + 1)) hi hp (fun e => hin (List.mem_map.mpr ⟨p, List.mem_of_getElem? hp, e⟩)) (fun ne => by
        refine find_at R hx hu hf hK hb hin hout f (c + q + 1) _ rfl (by omega) (by omega) fun i0 p0 h0 k0 => ?_
        obtain ⟨c', a1, a2, a3⟩ := hre i0 p0 h0 k0
        refine ⟨c', ?_, a2, a3⟩
        rcases Nat.lt_trichotomy c' (c + q) with z | z | z
        · exact absurd (congrArg (kh P w) k0) (hno (c' - c) i0 p0 (by omega) (by rw [show c + (c' - c) = c' by omega]; exact a3) h0)
        · rw [z] at a3
          have s0 := slot_live R.tab.ris a3
          rw [slot_live R.tab.ris hi] at s0
          injection s0 with s0
          rw [← s0, hp] at h0
          exact absurd ((congrArg Prod.snd (Option.some.inj h0)).trans k0) ne
        · omega)
      by_cases hl : t.led = true
      · refine at_neg (by simp [hl]) ?_
        try refine wpAny_bind (wpAny_pure ?_)
        exact rest
      · refine at_pos (by simp [hl]) ?_
        refine wpAny_bind (seen_nest hx (fun y hy => ?_) ?_)
        · obtain ⟨e, he, rfl⟩ := List.mem_map.mp hy
          have he2 : e ∈ es.toList := by
            have z : e ∈ es ∧ e.1 = kh P w k := by simpa using he
            simpa using z.1
          rw [R.rows] at he2
          obtain ⟨p2, hp2, rfl⟩ := List.mem_map.mp he2
          exact ⟨p2.2, p2.1, rfl, R.key p2 hp2⟩
        · refine at_neg (by decide) ?_
          try refine wpAny_bind (wpAny_pure ?_)
          exact rest
    · rw [hpr]
      dsimp only
      refine wpAny_pure (hout fun hm => ?_)
      obtain ⟨p0, h0, k0⟩ := List.mem_map.mp hm
      obtain ⟨i0, hi0, e0⟩ := List.getElem_of_mem h0
      have h00 : L[i0]? = some p0 := by rw [List.getElem?_eq_getElem hi0, e0]
      obtain ⟨c', a1, a2, a3⟩ := hre i0 p0 h00 k0
      exact hno (c' - c) i0 p0 (by omega) (by rw [show c + (c' - c) = c' by omega]; exact a3) h00 (congrArg (kh P w) k0)
end
end NS
set_option Elab.async false
set_option linter.all false
set_option maxRecDepth 100000
set_option maxHeartbeats 4000000
/-! Sets of nested keys: one put in. -/
namespace NS
open PySem PySem.Spec PyProof.Rows L2
theorem pick_range {α : Type} (L : List α) : (List.range L.length).filterMap (fun i => L[i]?) = L := by
  have key : ∀ n, n ≤ L.length → (List.range n).filterMap (fun i => L[i]?) = L.take n := by
    intro n
    induction n with
    | zero => intro _; rfl
    | succ n ih =>
      intro hn
      have hl : n < L.length := hn
      rw [List.range_succ, List.filterMap_append, ih (Nat.le_of_lt hl), List.take_succ, List.getElem?_eq_getElem hl, List.filterMap_cons_some (List.getElem?_eq_getElem hl)]
      rfl
  rw [key L.length (Nat.le_refl _), List.take_length]
/-- rows picked in another order -/
theorem order_map {α β : Type} (g : α → β) (L : List α) (es : Array β) (order : Array Nat) (hr : es.toList = L.map g) (hp : order.toList.Perm (List.range L.length)) :
    ∃ L2 : List α, (order.filterMap (es[·]?)).toList = L2.map g ∧ L2.Perm L ∧ ∀ (f : β → Int), (L2.map fun p => f (g p)) = order.toList.map fun i => (es.map f).getD i 0 := by
  have ent : ∀ i : Nat, es[i]? = (L[i]?).map g := fun i => by rw [← Array.getElem?_toList, hr, List.getElem?_map]
  have key : ∀ l : List Nat, (∀ i ∈ l, i < L.length) → l.filterMap (fun i => es[i]?) = (l.filterMap fun i => L[i]?).map g ∧ ∀ (f : β → Int), ((l.filterMap fun i => L[i]?).map fun p => f (g p)) = l.map fun i => (es.map f).getD i 0 := by
    intro l
    induction l with
    | nil => exact fun _ => ⟨rfl, fun _ => rfl⟩
    | cons i l ih =>
      intro hl
      have hi := hl i List.mem_cons_self
      obtain ⟨e1, e2⟩ := ih fun j hj => hl j (List.mem_cons_of_mem _ hj)
      have ei : L[i]? = some L[i] := List.getElem?_eq_getElem hi
      have es' : es[i]? = some (g L[i]) := by rw [ent, ei]; rfl
      refine ⟨?_, fun f => ?_⟩
      · rw [List.filterMap_cons_some es', List.filterMap_cons_some ei, List.map_cons, e1]
      · rw [List.filterMap_cons_some ei, List.map_cons, List.map_cons, e2 f]
        have e5 : (es.map f)[i]? = some (f (g L[i])) := by rw [Array.getElem?_map, es']; rfl
        simp [Array.getD_eq_getD_getElem?, e5]
  obtain ⟨e1, e2⟩ := key order.toList fun i hi => List.mem_range.mp (hp.mem_iff.mp hi)
  refine ⟨order.toList.filterMap fun i => L[i]?, by first | (rw [Array.toList_filterMap]; exact e1) | simpa using e1, ?_, e2⟩
  have h := hp.filterMap fun i => L[i]?
  rw [pick_range] at h
  exact h
theorem tab_unplain {t : SetTable} {hs : List Int} {b : Bool} (T : TabOk t hs) : TabOk { t with plain := b } hs := ⟨T.ris, T.dm, T.sz, T.mok, T.bd, T.reach⟩
section
variable {P : Program} {w : World} {A : Around} {E : Value → Shared → Prop} {s : Shared} {a : Addr} {L : List (Addr × NestedKey)} {es : Array (Int × Value)} {ep : Nat} {t : SetTable}
theorem isN_same {h h' : Heap} {k : NestedKey} {b : Addr} {o : Obj} (hb : IsN P w h k b) (ho : h.get? a = some o) (hd : o.data = .set es ep t) (hs : Heap.SameBut a h h') : IsN P w h' k b :=
  nestedKind_stays.stays (fun c o' vs n hc hv => (hs.2 c fun z => by
    rw [z, ho] at hc
    cases hc
    rw [hd] at hv
    cases hv).trans hc) hb
theorem find_all (R : SetN P w s.heap a L es ep t) {x : Addr} {k : NestedKey} (hx : IsN P w s.heap k x) (hu : A.units + 8 < cLine) {Q : SetFound → Shared → Prop} (hin : k ∈ L.map (·.2) → Q (.there none) s)
    (hout : ∀ K, k ∉ L.map (·.2) → way t.mask (kh P w k) K ∉ t.place.toList → (∀ c, c < K → way t.mask (kh P w k) c ∈ t.place.toList) → Q (.free (way t.mask (kh P w k) K) false) s) :
    wpAny (model P w) A (setSearch a (.ref x) (kh P w k) true) Q E s := by
  have room := R.room
  obtain ⟨K, hf, hK, hb⟩ := R.tab.first (by rw [List.length_map]; omega) (kh P w k)
  have few : K < 100000 := by
    have : 10 * SetTable.turns t.mask ≤ 1420 := by
      unfold SetTable.turns
      rcases R.tab.mok with e | e | e <;> omega
    omega
  unfold setSearch
  refine find_at R hx hu hf hK hb hin (fun hn => hout K hn hK hb) 100000 0 none rfl (Nat.zero_le _) (by omega) fun i p hp hk => ?_
  have hi : (L.map fun p => kh P w p.2)[i]? = some (kh P w k) := by rw [List.getElem?_map, hp, ← hk]; rfl
  have hl : i < t.place.toList.length := by
    have h1 := (List.getElem?_eq_some_iff.mp hp).1
    have h2 := R.tab.sz
    rw [List.length_map] at h2
    rw [Array.length_toList, h2]
    exact h1
  obtain ⟨c, hc, e⟩ := R.tab.before hK hi (List.getElem?_eq_getElem hl)
  exact ⟨c, Nat.zero_le _, hc, by rw [List.getElem?_eq_getElem hl, e]⟩
/-- the table laid anew, larger -/
theorem grow_at {o : Obj} (ho : s.heap.get? a = some o) (hex : o.ExactSet) (hd : o.data = .set es ep t) (hrows : es.toList = entries P w L) (hsz : t.place.size = es.size) (hdm : t.dummies = #[]) (hfl : es.size ≤ t.mask)
    (nd : (L.map (·.2)).Nodup) (hk : ∀ p ∈ L, IsN P w s.heap p.2 p.1) (pl : t.plain = L.all fun p => byVal p.2) (ld : w.params.followText "set-order" = true ∨ t.led = true) (few : L.length < 64) {wanted M : Nat}
    (hw : SetTable.sizeAbove wanted - 1 = M) (hM : MaskOk M) (hw2 : SetTable.sizeAbove wanted ≤ 128) (hn : L.length * 5 < M * 3) {Q : Unit → Shared → Prop}
    (hQ : ∀ h' L' es' ep' t', Heap.SameBut a s.heap h' → SetN P w h' a L' es' ep' t' → L'.Perm L → Q () { s with heap := h' }) : wpAny (model P w) A (setRelay a wanted) Q E s := by
  have hsl : es.size = L.length := by rw [← Array.length_toList, hrows, entries, List.length_map]
  have fits : t.fits es.size = true := by
    unfold SetTable.fits SetTable.fill
    rw [hdm, Bool.and_eq_true, beq_iff_eq, decide_eq_true_eq]
    refine ⟨hsz, ?_⟩
    show t.place.size + 0 ≤ t.mask
    omega
  obtain ⟨t', order, e, hp, T, em, el, ep', ed⟩ := relaid_ok t (hs := es.map (·.1)) (wanted := wanted) hw hM (by rw [Array.size_map, hsl]; omega)
  rw [Array.size_map, hsl] at hp
  obtain ⟨L2, r1, r2, r3⟩ := order_map (fun p : Addr × NestedKey => (kh P w p.2, Value.ref p.1)) L es order hrows hp
  rw [← r3 (·.1)] at T
  have hs2 : (order.filterMap (es[·]?)).size = es.size := by rw [← Array.length_toList, r1, List.length_map, r2.length_eq, hsl]
  rw [setRelay_eq]
  refine wpAny_bind (wpAny_setState_of ho hd fits ?_)
  dsimp only
  refine at_neg (by rw [sizeLine_eq]; omega) ?_
  try refine wpAny_bind (wpAny_pure ?_)
  rw [e]
  dsimp only
  refine wpAny_bind ?_
  refine at_neg (by rw [hs2]; simp) ?_
  try refine wpAny_bind (wpAny_pure ?_)
  refine wpAny_pure ?_
  dsimp only
  refine wpAny_storeSet_of ho hd ?_ (by rw [hs2, hsl, sizeLine_eq]; omega)
  have sb : Heap.SameBut a s.heap (s.heap.update a (Obj.putSet (order.filterMap (es[·]?)) t')) := Heap.SameBut.update ..
  refine hQ _ L2 (order.filterMap (es[·]?)) (ep + 1) t' sb ⟨⟨_, store_at ho hd, ⟨hex.1, hex.2.1, hex.2.2⟩, rfl⟩, r1, T, (r2.map (·.2)).nodup_iff.mpr nd, fun p hpm => isN_same (hk p (r2.mem_iff.mp hpm)) ho hd sb, ?_, by rw [el]; exact ld, ?_, by rw [r2.length_eq]; exact few⟩ r2
  · rw [ep', pl, Bool.eq_iff_iff, List.all_eq_true, List.all_eq_true]
    exact ⟨fun h p hp => h p (r2.mem_iff.mp hp), fun h p hp => h p (r2.mem_iff.mpr hp)⟩
  · rw [r2.length_eq, em]
    exact hn
end
end NS
set_option Elab.async false
set_option linter.all false
set_option maxRecDepth 100000
set_option maxHeartbeats 4000000
/-! Sets of nested keys: adding. -/
namespace NS
open PySem PySem.Spec PyProof.Rows L2
section
variable {P : Program} {w : World} {A : Around} {E : Value → Shared → Prop} {s : Shared} {a : Addr} {L : List (Addr × NestedKey)} {es : Array (Int × Value)} {ep : Nat} {t : SetTable}
theorem entries_put (L : List (Addr × NestedKey)) (p : Nat) (x : Addr) (k : NestedKey) : entries P w (L.take p ++ (x, k) :: L.drop p) = (entries P w L).take p ++ (kh P w k, Value.ref x) :: (entries P w L).drop p := by
  unfold entries
  rw [List.map_append, List.map_cons, List.map_take, List.map_drop]
/-- behind the place found: the new table t1 (its plain flag set right), the rows es1 -/
theorem put_in (R : SetN P w s.heap a L es ep t) {x : Addr} {k : NestedKey} (hx : IsN P w s.heap k x) (few : L.length + 1 < 64) (hm : k ∉ L.map (·.2)) {o : Obj} (ho : s.heap.get? a = some o) (hex : o.ExactSet) (hd : o.data = .set es ep t)
    {t1 : SetTable} {es1 : Array (Int × Value)} {L1 : List (Addr × NestedKey)} (pm : L1.Perm ((x, k) :: L)) (hes : es1.toList = entries P w L1) (T : TabOk t1 (L1.map fun p => kh P w p.2)) (em : t1.mask = t.mask) (pl : t1.plain = L1.all fun p => byVal p.2)
    (ld : w.params.followText "set-order" = true ∨ t1.led = true) {Q : Bool → Shared → Prop}
    (hQ : ∀ h' L' es' ep' t', Heap.SameBut a s.heap h' → SetN P w h' a L' es' ep' t' → L'.Perm ((x, k) :: L) → Q true { s with heap := h' }) :
    wpAny (model P w) A (do
      storeSet a es1 t1
      if t1.tooFull = true then setRelay a (SetTable.grown (es.size + 1))
      pure true) Q E s := by
  have room := R.room
  have len : L1.length = L.length + 1 := pm.length_eq
  have sz1 : es1.size = L.length + 1 := by rw [← Array.length_toList, hes, entries, List.length_map, len]
  have nd1 : (L1.map (·.2)).Nodup := by
    refine (pm.map (·.2)).nodup_iff.mpr ?_
    rw [List.map_cons]
    exact List.nodup_cons.mpr ⟨hm, R.nd⟩
  refine wpAny_bind (wpAny_storeSet_of ho hd ?_ (by rw [sz1, sizeLine_eq]; omega))
  have sb : Heap.SameBut a s.heap (s.heap.update a (Obj.putSet es1 t1)) := Heap.SameBut.update ..
  have ho1 := store_at (es' := es1) (t' := t1) ho hd
  generalize s.heap.update a (Obj.putSet es1 t1) = h1 at sb ho1 ⊢
  have keys : ∀ p ∈ L1, IsN P w h1 p.2 p.1 := fun p hp => by
    rcases List.mem_cons.mp (pm.mem_iff.mp hp) with e | hp
    · rw [e]; exact isN_same hx ho hd sb
    · exact isN_same (R.key p hp) ho hd sb
  have psz : t1.place.size = L.length + 1 := by rw [T.sz, List.length_map, len]
  have full : t1.tooFull = decide ((L.length + 1) * 5 ≥ t1.mask * 3) := by
    unfold SetTable.tooFull SetTable.fill
    rw [T.dm, psz]
    rfl
  by_cases hf : t1.tooFull = true
  · rw [full, decide_eq_true_eq] at hf
    have two : (t.mask = 7 ∧ L.length = 4) ∨ (t.mask = 31 ∧ L.length = 18) := by
      rcases R.tab.mok with e | e | e
      · left; rw [em, e] at hf; rw [e] at room; exact ⟨e, by omega⟩
      · right; rw [em, e] at hf; rw [e] at room; exact ⟨e, by omega⟩
      · exfalso; rw [em, e] at hf; omega
    have go : ∀ M, SetTable.sizeAbove (SetTable.grown (L.length + 1)) - 1 = M → MaskOk M → SetTable.sizeAbove (SetTable.grown (L.length + 1)) ≤ 128 → (L.length + 1) * 5 < M * 3 →
        wpAny (model P w) A (setRelay a (SetTable.grown (es.size + 1))) (fun _ s' => wpAny (model P w) A (pure true) Q E s') E { s with heap := h1 } := fun M g1 g2 g3 g4 => by
      rw [R.size]
      refine grow_at (s := { s with heap := h1 }) ho1 ⟨hex.1, hex.2.1, hex.2.2⟩ rfl hes (by rw [psz, sz1]) T.dm (by rw [sz1, em]; rcases two with ⟨e, e2⟩ | ⟨e, e2⟩ <;> omega) nd1 keys pl ld (by rw [len]; exact few) g1 g2 g3 (by rw [len]; exact g4) ?_
      intro h2 L2 es2 ep2 t2 sb2 R2 pm2
      exact wpAny_pure (hQ h2 L2 es2 ep2 t2 (sb.trans sb2) R2 (pm2.trans pm))
    have fin : wpAny (model P w) A (setRelay a (SetTable.grown (es.size + 1))) (fun _ s' => wpAny (model P w) A (pure true) Q E s') E { s with heap := h1 } := by
      rcases two with ⟨_, e2⟩ | ⟨_, e2⟩
      · exact go 31 (by rw [e2, size_20]) (.inr (.inl rfl)) (by rw [e2, size_20]; decide) (by omega)
      · exact go 127 (by rw [e2, size_76]) (.inr (.inr rfl)) (by rw [e2, size_76]; decide) (by omega)
    rw [← decide_eq_true_eq (p := (L.length + 1) * 5 ≥ t1.mask * 3), ← full] at hf
    first
      | exact wpAny_bind (at_pos hf fin)
      | exact at_pos hf (wpAny_bind fin)
  · have q := hQ h1 L1 es1 (ep + 1) t1 sb ⟨⟨_, ho1, ⟨hex.1, hex.2.1, hex.2.2⟩, rfl⟩, hes, T, nd1, keys, pl, ld, by
      rw [full, decide_eq_true_eq] at hf
      rw [len]
      omega, by rw [len]; exact few⟩ pm
    first
      | exact at_neg hf (wpAny_pure q)
      | exact wpAny_bind (at_neg hf (wpAny_pure (wpAny_pure q)))
      | exact at_neg hf (wpAny_bind (wpAny_pure (wpAny_pure q)))
theorem all_perm {L1 L2 : List (Addr × NestedKey)} (h : L1.Perm L2) : (L1.all fun p => byVal p.2) = L2.all fun p => byVal p.2 := by
  rw [Bool.eq_iff_iff, List.all_eq_true, List.all_eq_true]
  exact ⟨fun q p hp => q p (h.mem_iff.mpr hp), fun q p hp => q p (h.mem_iff.mp hp)⟩
/-- one key put in -/
theorem add_key (R : SetN P w s.heap a L es ep t) {x : Addr} {k : NestedKey} (hx : IsN P w s.heap k x) (hu : A.units + 8 < cLine) (few : L.length + 1 < 64) {Q : Bool → Shared → Prop}
    (hQ : ∀ b h' L' es' ep' t', Heap.SameBut a s.heap h' → SetN P w h' a L' es' ep' t' → (k ∈ L.map (·.2) → L' = L) → (k ∉ L.map (·.2) → L'.Perm ((x, k) :: L)) → Q b { s with heap := h' }) :
    wpAny (model P w) A (setAddHashed a (.ref x) (kh P w k)) Q E s := by
  obtain ⟨o, ho, hex, hd⟩ := R.ob
  unfold setAddHashed
  refine wpAny_holding ?_
  rw [show (100000 : Nat) = 99999 + 1 from rfl, setAddHashedIn_succ]
  refine wpAny_bind (wpAny_setState_of ho hd R.fits ?_)
  dsimp only
  refine at_neg (by simp [byScan, Value.scannable]) ?_
  try refine wpAny_bind (wpAny_pure ?_)
  refine wpAny_bind (find_all R hx hu (fun hm => ?_) fun K hm hK hb => ?_)
  · dsimp only
    exact wpAny_pure (hQ false s.heap L es ep t (Heap.SameBut.refl a s.heap) R (fun _ => rfl) fun z => absurd hm z)
  · dsimp only
    refine wpAny_bind (wpAny_setState_of ho hd R.fits ?_)
    dsimp only
    obtain ⟨q1, q2, q3, q4, q5, q6, q7, q8, q9⟩ := R.tab.put hK hb
    generalize hpt : t.put (way t.mask (kh P w k) K) = pt at q1 q3 q4 q5 q6 q7 q8 q9 ⊢
    obtain ⟨t1, p⟩ := pt
    dsimp only at q1 q3 q4 q5 q6 q7 q8 q9 ⊢
    subst q1
    generalize hpp : SetTable.below t.place (way t.mask (kh P w k) K) = p at q2 q3 ⊢
    have pm := put_perm L p (x, k)
    have hes : (SetTable.insertAt es p (kh P w k, Value.ref x)).toList = entries P w (L.take p ++ (x, k) :: L.drop p) := by
      rw [SetTable.toList_insertAt, entries_put, R.rows]
    have hhs : (L.take p ++ (x, k) :: L.drop p).map (fun p => kh P w p.2) = (L.map fun p => kh P w p.2).take p ++ kh P w k :: (L.map fun p => kh P w p.2).drop p := by
      rw [List.map_append, List.map_cons, List.map_take, List.map_drop]
    rw [← hhs] at q3
    generalize SetTable.insertAt es p (kh P w k, Value.ref x) = es1 at hes ⊢
    generalize L.take p ++ (x, k) :: L.drop p = L1 at pm q3 hes
    have allL : (L1.all fun p => byVal p.2) = (byVal k && L.all fun p => byVal p.2) := by rw [all_perm pm, List.all_cons]
    have led1 : w.params.followText "set-order" = true ∨ t1.led = true := by rw [q5]; exact R.led
    have go : ∀ t2 : SetTable, TabOk t2 (L1.map fun p => kh P w p.2) → t2.mask = t.mask → (t2.plain = L1.all fun p => byVal p.2) → (w.params.followText "set-order" = true ∨ t2.led = true) → wpAny (model P w) A (do
        storeSet a es1 t2
        if t2.tooFull = true then setRelay a (SetTable.grown (es.size + 1))
        pure true) Q E s := fun t2 T em pl ld => put_in R hx few hm ho hex hd pm hes T em pl ld fun h' L' es' ep' t' sb R' pm' => hQ true h' L' es' ep' t' sb R' (fun z => absurd z hm) fun _ => pm'
    by_cases hp1 : t1.plain = true
    · have hpl : (L.all fun p => byVal p.2) = true := by rw [← R.plain, ← q6]; exact hp1
      have last : ∀ b : Bool, b = byVal k → wpAny (model P w) A (do
          storeSet a es1 (if b = true then t1 else { t1 with plain := false })
          if (if b = true then t1 else { t1 with plain := false }).tooFull = true then setRelay a (SetTable.grown (es.size + 1))
          pure true) Q E s := fun b hb' => by
        cases b with
        | true => exact go t1 q3 q4 (by rw [hp1, allL, ← hb', hpl]; rfl) led1
        | false => exact go { t1 with plain := false } (tab_unplain q3) q4 (by rw [allL, ← hb']; rfl) led1
      first
        | (refine wpAny_bind ?_; refine at_pos hp1 ?_; refine hashBy_nest 8 k _ s _ hx.1 hx.2 ?_; exact last _ rfl)
        | (refine at_pos hp1 (wpAny_bind (hashBy_nest 8 k _ s _ hx.1 hx.2 ?_)); exact last _ rfl)
    · have hpl : (L.all fun p => byVal p.2) = false := by
        rw [← R.plain, ← q6]
        simpa using hp1
      have last := go t1 q3 q4 (by rw [allL, hpl, Bool.and_false]; simpa using hp1) led1
      first
        | (refine wpAny_bind ?_; refine at_neg hp1 ?_; refine wpAny_pure ?_; exact last)
        | (refine at_neg hp1 (wpAny_bind (wpAny_pure ?_)); exact last)
        | (refine at_neg hp1 ?_; exact last)
end
end NS
set_option Elab.async false
set_option linter.all false
set_option maxRecDepth 100000
set_option maxHeartbeats 4000000
/-! Sets of nested keys: set(list). -/
namespace NS
open PySem PySem.Spec PyProof.Rows L2
/-- L is what a set has of the first i of ks -/
structure Has (ks : List (Addr × NestedKey)) (i : Nat) (L : List (Addr × NestedKey)) : Prop where
  sub : ∀ p ∈ L, p ∈ ks.take i
  all : ∀ p ∈ ks.take i, p.2 ∈ L.map (·.2)
  len : L.length ≤ i
theorem Has.next {ks L L' : List (Addr × NestedKey)} {i : Nat} {x : Addr × NestedKey} (g : Has ks i L) (h : ks[i]? = some x) (c1 : x.2 ∈ L.map (·.2) → L' = L) (c2 : x.2 ∉ L.map (·.2) → L'.Perm (x :: L)) : Has ks (i + 1) L' := by
  have tk := take_next h
  rcases Classical.em (x.2 ∈ L.map (·.2)) with c | c
  · rw [c1 c]
    refine ⟨fun p hp => by rw [tk]; exact List.mem_append_left _ (g.sub p hp), fun p hp => ?_, Nat.le_succ_of_le g.len⟩
    rw [tk] at hp
    rcases List.mem_append.mp hp with z | z
    · exact g.all p z
    · rw [List.mem_singleton.mp z]; exact c
  · have pm := c2 c
    refine ⟨fun p hp => ?_, fun p hp => ?_, ?_⟩
    · rw [tk]
      rcases List.mem_cons.mp (pm.mem_iff.mp hp) with e | z
      · rw [e]; exact List.mem_append_right _ (List.mem_singleton.mpr rfl)
      · exact List.mem_append_left _ (g.sub p z)
    · rw [(pm.map (·.2)).mem_iff, List.map_cons]
      rw [tk] at hp
      rcases List.mem_append.mp hp with z | z
      · exact List.mem_cons_of_mem _ (g.all p z)
      · rw [List.mem_singleton.mp z]; exact List.mem_cons_self
    · rw [pm.length_eq, List.length_cons]
      exact Nat.succ_le_succ g.len
section
variable {P : Program} {w : World} {A : Around} {E : Value → Shared → Prop} {s : Shared}
theorem isN_keep {h h' : Heap} {k : NestedKey} {b : Addr} (x : IsN P w h k b) (hk : ∀ c o, h.get? c = some o → h'.get? c = some o) : IsN P w h' k b := nestedKind_stays.stays (fun c o _ _ hc _ => hk c o hc) x
theorem SetN.keep {h h' : Heap} {a : Addr} {L : List (Addr × NestedKey)} {es : Array (Int × Value)} {ep : Nat} {t : SetTable} (R : SetN P w h a L es ep t) (ha : ∀ o, h.get? a = some o → h'.get? a = some o) (hk : ∀ p ∈ L, IsN P w h' p.2 p.1) : SetN P w h' a L es ep t := by
  obtain ⟨o, ho, r⟩ := R.ob
  exact ⟨⟨o, ha o ho, r⟩, R.rows, R.tab, R.nd, hk, R.plain, R.led, R.room, R.few⟩
abbrev freshT (w : World) : SetTable := .fresh 0 0 (!w.params.followText "set-order")
abbrev freshO (w : World) : Obj := { cls := .type "set", dict := none, data := .set #[] 0 (freshT w) }
theorem setN_fresh {h : Heap} {a : Addr} (ho : h.get? a = some (freshO w)) : SetN P w h a [] #[] 0 (freshT w) where
  ob := ⟨_, ho, ⟨rfl, rfl, rfl⟩, rfl⟩
  rows := rfl
  tab := ⟨List.Pairwise.nil, rfl, rfl, .inl rfl, fun x hx => (by cases hx), fun i h j hi => (by simp at hi)⟩
  nd := List.nodup_nil
  key := fun p hp => (by cases hp)
  plain := rfl
  led := by
    show _ ∨ (!w.params.followText "set-order") = true
    cases w.params.followText "set-order"
    · exact .inr rfl
    · exact .inl rfl
  room := by
    show 0 * 5 < 7 * 3
    decide
  few := by
    show 0 < 64
    decide
/-- the loop of set.update over nested keys -/
theorem update_keys {I : Addr} {fp wr : List Addr} {G : Array GenState → Array GenState → Prop} {n : Nat} {Pv : Nat → Value → Prop} {St : Nat → Shared → Prop} {R : Result → Shared → Prop}
    (W : WalksS P w A.in1 I fp wr G n Pv St) (S : Addr) (hSf : S ∉ fp) (ks : List (Addr × NestedKey)) (hn : n = ks.length) (few : ks.length < 64) (hval : ∀ i v, Pv i v → ∃ p, ks[i]? = some p ∧ v = .ref p.1)
    (h0 : Heap) (hk : ∀ p ∈ ks, IsN P w h0 p.2 p.1) (hS0 : h0.get? S = none) (hw0 : ∀ b ∈ wr, h0.get? b = none) (hu : A.in1.units + 8 < cLine) :
    ∀ (k i : Nat) (s : Shared), n - i = k → i ≤ n → St i s → (∀ b o, h0.get? b = some o → s.heap.get? b = some o) → (∃ L es ep t, SetN P w s.heap S L es ep t ∧ Has ks i L) →
      (∀ s' L es ep t, Moved (S :: wr) G s s' → SetN P w s'.heap S L es ep t → Has ks n L → (∀ b o, h0.get? b = some o → s'.heap.get? b = some o) → R (.ok (.ret .none)) s') →
      codeAny (model P w) A (.builtin "set.update.loop" ⟨[.ref S, .ref I], []⟩) R s := by
  have nSw : S ∉ wr := fun h => hSf (W.sub _ h)
  have wide : ∀ b ∈ wr, b ∈ S :: wr := fun b hb => List.mem_cons_of_mem _ hb
  have still : ∀ {s s' : Shared}, Moved wr G s s' → (∀ b o, h0.get? b = some o → s.heap.get? b = some o) → ∀ b o, h0.get? b = some o → s'.heap.get? b = some o := fun hm kp b o e =>
    hm.heap b o (fun hb => by rw [hw0 b hb] at e; cases e) (kp b o e)
  intro k
  induction k with
  | zero =>
    intro i s hk' hi hst kp ⟨L, es, ep, t, hS, g⟩ hR
    obtain rfl : i = n := by omega
    refine codeAny_builtin F.entry_set_update_loop ?_
    rw [Around.under_plainId F.plain_set_update_loop _]
    show wpAny _ A.in1 (pyNext (.ref I) >>= _) _ _ s
    refine wpAny_bind (W.done s _ _ hst fun s' hm => ?_)
    show wpAny _ A.in1 (ret Value.none) _ _ s'
    have kp' := still hm kp
    exact wpAny_pure (hR s' L es ep t (hm.mono wide) (hS.keep (fun o e => hm.heap S o nSw e) fun p hp => isN_keep (hk p (List.mem_of_mem_take (g.sub p hp))) kp') g kp')
  | succ k ih =>
    intro i s hk' hi hst kp ⟨L, es, ep, t, hS, g⟩ hR
    have lt : i < n := by omega
    refine codeAny_builtin F.entry_set_update_loop ?_
    rw [Around.under_plainId F.plain_set_update_loop _]
    show wpAny _ A.in1 (pyNext (.ref I) >>= _) _ _ s
    refine wpAny_bind (W.item i s _ _ lt hst fun v s' hP hst' hm => ?_)
    obtain ⟨p, hp, rfl⟩ := hval i v hP
    have kp' := still hm kp
    have hS' : SetN P w s'.heap S L es ep t := hS.keep (fun o e => hm.heap S o nSw e) fun q hq => isN_keep (hk q (List.mem_of_mem_take (g.sub q hq))) kp'
    have hx : IsN P w s'.heap p.2 p.1 := isN_keep (hk p (List.mem_of_getElem? hp)) kp'
    show wpAny _ A.in1 (holding [Value.ref p.1] (setAdd S (.ref p.1)) >>= _) _ _ s'
    refine wpAny_bind (wpAny_holding ?_)
    unfold setAdd
    refine wpAny_holding ?_
    refine wpAny_bind ((nestedKind P w).pyHash hu hx ?_)
    refine add_key (s := { s' with toks := s'.toks + (nestedKind P w).draws p.2 }) hS' hx hu (by have := g.len; omega) fun b h' L' es' ep' t' sb hS2 c1 c2 => ?_
    have kp2 : ∀ b o, h0.get? b = some o → h'.get? b = some o := fun b o e => (sb.2 b (fun z => by rw [z, hS0] at e; cases e)).trans (kp' b o e)
    refine wpAny_pure ⟨plainId_quiet F.plain_set_update_loop _, ih (i + 1) _ (by omega) lt (W.frame _ s' _ _ hst' (Nat.le_add_right _ _) fun b hb o e => ?_) kp2 ⟨L', es', ep', t', hS2, g.next hp c1 c2⟩ fun s'' L2 es2 ep2 t2 hm'' hS'' g'' kp'' => ?_⟩
    · rw [sb.2 b (fun h : b = S => hSf (by rw [← h]; exact hb))]
      exact e
    · refine hR s'' L2 es2 ep2 t2 (Moved.trans W.gtrans ((hm.mono wide).then_heap (Nat.le_add_right _ _) fun b o hb e => ?_) hm'') hS'' g'' kp''
      rw [sb.2 b (fun h : b = S => hb (by rw [h]; exact List.mem_cons_self))]
      exact e
end
end NS
set_option Elab.async false
set_option linter.all false
set_option maxRecDepth 100000
set_option maxHeartbeats 4000000
namespace NS
open PySem PySem.Spec PyProof.Rows L2
section
variable {P : Program} {w : World} {A : Around} {E : Value → Shared → Prop} {s : Shared}
theorem gone {h : Heap} {b : Addr} (hb : h.objs.size ≤ b) : h.get? b = none := by
  cases q : h.get? b with
  | none => rfl
  | some o => exact absurd (Nat.lt_of_lt_of_le (Heap.lt_size q) hb) (Nat.lt_irrefl _)
/-- set(xs), xs a list of tuples that are nested keys -/
theorem call_set_keys {l : Addr} {items : Array Value} (ks : List (Addr × NestedKey)) {Q : Value → Shared → Prop} (hh : A.handled = none) (hl : s.heap.IsList l items) (hit : items.toList = ks.map fun p => Value.ref p.1)
    (hk : ∀ p ∈ ks, IsN P w s.heap p.2 p.1) (few : ks.length < 64) (hu : A.units + 3 + 8 < cLine)
    (h : ∀ (h' : Heap) (tk : Nat) L es ep t, SetN P w h' s.heap.objs.size L es ep t → Has ks ks.length L → (∀ b o, s.heap.get? b = some o → h'.get? b = some o) → Q (.ref s.heap.objs.size) { s with heap := h', toks := tk }) :
    wpAny (model P w) A (call (.type "set") [.ref l]) Q E s := by
  have isz : items.size = ks.length := by rw [← Array.length_toList, hit, List.length_map]
  obtain ⟨c, tl, hmro⟩ := F.called_set.mro
  have hmade := F.called_set.made
  have hsub := F.called_set.sub
  refine wpAny_call (codeAny_of_tree ?_)
  show wpAny _ _ (callAny (.type "set") _) _ _ _
  refine wpAny_pure ⟨Code.quiet_builtin _ (by decide +kernel), codeAny_builtin F.entry_type_call ?_⟩
  rw [Around.under_plain (weight_type_call_type "set" [.ref l] []) rfl]
  have h1 := F.called_set.notType
  have h2 := F.called_set.canCreate
  have hct := F.typeCall_set_1 (.ref l)
  repeat (any_goals (first | assumption | wp_step))
  refine codeAny_mono (code_set_led1 (.ref l) (E := E) (Q₁ := fun obj s₁ => obj = .ref s.heap.objs.size ∧ s₁ = { s with heap := s.heap.push (freshO w) }) ⟨rfl, rfl⟩) fun r s₁ hr => ?_
  cases r with
  | error e => exact hr
  | ok fl =>
    cases fl with
    | ret obj =>
      obtain ⟨rfl, rfl⟩ := hr
      have hS : (s.heap.push (freshO w)).get? s.heap.objs.size = some (freshO w) := Heap.get?_push_size _ rfl
      have hT : Shared.TypeIs { s with heap := s.heap.push (freshO w) } (.ref s.heap.objs.size) "set" := ⟨_, hS, rfl⟩
      have hli := F.called_set.init.lookup
      have hbi := F.called_set.init.bind (.ref s.heap.objs.size)
      repeat (any_goals (first | assumption | wp_step))
      refine codeAny_mono (codeAny_call_builtin (R := wants (fun r s₂ => r = .none ∧ ∃ h' tk L es ep t, s₂ = { s with heap := h', toks := tk } ∧ SetN P w h' s.heap.objs.size L es ep t ∧ Has ks ks.length L ∧
          (∀ b o, s.heap.get? b = some o → h'.get? b = some o)) E) F.called_set.init.plain F.entry_set_init (check_set_init_1 hT ?_)) fun r₂ s₂ hr₂ => ?_
      · obtain ⟨ol, hol, hcl, nl, hdl⟩ := hl
        obtain ⟨ocls, odict, odata, oslots⟩ := ol
        simp only at hcl hdl
        subst hcl
        subst hdl
        have hol' : (s.heap.push (freshO w)).get? l = some { cls := .type "list", dict := odict, data := .seq items nl, slots := oslots } := Heap.get?_push_of_some _ hol
        have hsls := F.sub_list_set
        have hslf := F.sub_list_frozenset
        have hne : (Value.type "list" == Value.type "dict") = false := by decide
        have hl1 : (s.heap.push (freshO w)).IsList l items := ⟨_, hol', rfl, nl, rfl⟩
        have lS : l < s.heap.objs.size := Heap.lt_size hol
        unfold Builtin.«set.__init__» noKeywords Builtin.Frozenset.updateFrom
        generalize hPI : pyIter = PI
        wp_walk
        subst hPI
        refine wpAny_pyIter_list hl1 ?_
        refine wpAny_bind (wpAny_runValue ?_)
        have hh3 : A.in1.in1.in1.handled = none := by simp [hh]
        have nI : l ≠ (s.heap.push (freshO w)).objs.size := by
          rw [Heap.size_push]; exact Nat.ne_of_lt (Nat.lt_succ_of_lt lS)
        have nS : s.heap.objs.size ∉ [(s.heap.push (freshO w)).objs.size, l] := by
          rw [Heap.size_push]; simp only [List.mem_cons, List.mem_singleton, List.not_mem_nil, or_false, not_or]
          exact ⟨Nat.ne_of_lt (Nat.lt_succ_self _), Nat.ne_of_gt lS⟩
        have hval : ∀ (i : Nat) (v : Value), items[i]? = some v → ∃ p, ks[i]? = some p ∧ v = .ref p.1 := fun i v hv => by
          have q : items.toList[i]? = some v := by rw [Array.getElem?_toList]; exact hv
          rw [hit, List.getElem?_map] at q
          cases hq : ks[i]? with
          | none => rw [hq] at q; cases q
          | some p =>
            rw [hq] at q
            exact ⟨p, rfl, (Option.some.inj q).symm⟩
        refine update_keys ((Walks.list hh3 _ l nI items).toS) s.heap.objs.size nS ks isz few hval s.heap hk (gone (Nat.le_refl _)) (fun b hb => gone (by
            rw [List.mem_singleton.mp hb, Heap.size_push]
            exact Nat.le_succ _)) hu (items.size - 0) 0 _ (by omega) (Nat.zero_le _)
          ⟨⟨_, Heap.get?_push_size _ rfl, rfl, rfl⟩, (hl1.push _)⟩ (fun b o e => Heap.get?_push_of_some _ (Heap.get?_push_of_some _ e)) ⟨[], #[], 0, _, setN_fresh (Heap.get?_push_of_some _ hS), fun p hp => (by cases hp), fun p hp => (by simp at hp), Nat.le_refl _⟩ ?hR
        case hR =>
          intro s' L es ep t hm hS' g' hkp
          obtain ⟨h', g2, d', tk', os'⟩ := s'
          have eg : g2 = s.gens := hm.gens
          have ed : d' = s.drawn := hm.drawn
          have eo : os' = s.os := hm.os
          subst eg
          subst ed
          subst eo
          show wpAny _ _ _ _ _ _
          refine wpAny_pure ?_
          show wpAny _ _ (ret Value.none) _ _ _
          rw [isz] at g'
          exact wpAny_pure ⟨rfl, h', tk', L, es, ep, t, rfl, hS', g', hkp⟩
      · cases r₂ with
        | error e => exact hr₂
        | ok fl₂ =>
          cases fl₂ with
          | ret r =>
            obtain ⟨rfl, h', tk, L, es, ep, t, rfl, hS', g', hk'⟩ := hr₂
            repeat (any_goals (first | assumption | wp_step))
            exact h _ _ _ _ _ _ hS' g' hk'
          | _ => exact hr₂.elim
    | _ => exact hr.elim
end
end NS
set_option Elab.async false
set_option linter.all false
set_option maxRecDepth 100000
set_option maxHeartbeats 4000000
/-! Sets of nested keys: sorted. -/
namespace NS
open PySem PySem.Spec PyProof.Rows L2
open PySem.W (EachIs AllAlike Sortable dataLe)
mutual
theorem nest_of_reads {h : Heap} : ∀ (k : NestedKey) (v : Value) (as : List Addr), Reads h v k.data as → NestedIs h k v ∧ as = []
  | .none, _, _, r => by
    rw [NestedKey.data] at r
    cases r
    exact ⟨.none, rfl⟩
  | .num i, _, _, r => by
    rw [NestedKey.data] at r
    cases r
    exact ⟨.int _ _, rfl⟩
  | .text x, _, _, r => by
    rw [NestedKey.data] at r
    cases r
    exact ⟨.text _ _, rfl⟩
  | .tup ks, _, _, r => by
    rw [NestedKey.data] at r
    cases r with
    | tuple h1 h2 h3 h4 =>
      obtain ⟨a, b⟩ := nest_of_readsAll ks _ _ h4
      exact ⟨.tup h1 h2 h3 a, b⟩
theorem nest_of_readsAll {h : Heap} : ∀ (ks : List NestedKey) (vs : List Value) (as : List Addr), ReadsAll h vs (NestedKey.datas ks) as → NestedAll h ks vs ∧ as = []
  | [], _, _, r => by
    rw [NestedKey.datas] at r
    cases r
    exact ⟨.nil, rfl⟩
  | k :: ks, _, _, r => by
    rw [NestedKey.datas] at r
    cases r with
    | cons h1 h2 =>
      obtain ⟨a, rfl⟩ := nest_of_reads k _ _ h1
      obtain ⟨b, rfl⟩ := nest_of_readsAll ks _ _ h2
      exact ⟨.cons a b, rfl⟩
end
mutual
theorem data_depth : ∀ k : NestedKey, k.data.depth = k.depth
  | .none => by simp [NestedKey.data, NestedKey.depth, PyData.depth]
  | .num i => by simp [NestedKey.data, NestedKey.depth, PyData.depth]
  | .text x => by simp [NestedKey.data, NestedKey.depth, PyData.depth]
  | .tup ks => by
    rw [NestedKey.data, NestedKey.depth, PyData.depth, datas_depth ks]
theorem datas_depth : ∀ ks : List NestedKey, PyData.depthAll (NestedKey.datas ks) = NestedKey.depthAll ks
  | [] => by simp [NestedKey.datas, NestedKey.depthAll, PyData.depthAll]
  | k :: ks => by
    rw [NestedKey.datas, NestedKey.depthAll, PyData.depthAll, data_depth k, datas_depth ks]
end
/-- refs that stand for rows -/
theorem each_refs : ∀ (L1 : List (Addr × NestedKey)) (T : Addr × NestedKey → Prop), (∀ q ∈ L1, T q) → EachIs (fun v (q : Addr × NestedKey) => v = Value.ref q.1 ∧ T q) (L1.map fun q => Value.ref q.1) L1
  | [], _, _ => .nil
  | q :: r, T, h => .cons ⟨rfl, h q List.mem_cons_self⟩ (each_refs r T fun p hp => h p (List.mem_cons_of_mem _ hp))
theorem refs_each {R : Addr × NestedKey → Prop} : ∀ {vs : List Value} {L1 : List (Addr × NestedKey)}, EachIs (fun v (q : Addr × NestedKey) => v = Value.ref q.1 ∧ R q) vs L1 → vs = L1.map fun q => Value.ref q.1
  | _, _, .nil => rfl
  | _, _, .cons h t => by rw [List.map_cons, ← h.1, ← refs_each t]
/-- values that are the rows' addresses, in some order -/
theorem rows_of {L : List (Addr × NestedKey)} : ∀ vs : List Value, (∀ v ∈ vs, ∃ q ∈ L, v = Value.ref q.1) → ∃ L1 : List (Addr × NestedKey), vs = L1.map (fun q => Value.ref q.1) ∧ ∀ q ∈ L1, q ∈ L
  | [], _ => ⟨[], rfl, fun q hq => (by cases hq)⟩
  | v :: vs, hv => by
    obtain ⟨q, hq, e⟩ := hv v List.mem_cons_self
    obtain ⟨L1, e1, hs⟩ := rows_of vs fun u hu => hv u (List.mem_cons_of_mem _ hu)
    refine ⟨q :: L1, by rw [List.map_cons, e, e1], fun r hr => ?_⟩
    rcases List.mem_cons.mp hr with z | z
    · rw [z]; exact hq
    · exact hs r z
section
variable {P : Program} {w : World} {A : Around} {E : Value → Shared → Prop} {s : Shared}
theorem sorted_keys {a : Addr} {L : List (Addr × NestedKey)} {es : Array (Int × Value)} {ep : Nat} {t : SetTable} {Q : Value → Shared → Prop} (R : SetN P w s.heap a L es ep t) (hh : A.handled = none) (hu : A.units + 12 < cLine)
    (hrd : ∀ q ∈ L, Reads s.heap (.ref q.1) q.2.data []) (hal : ∀ q ∈ L, ∀ r ∈ L, PySem.W.alike q.2.data r.2.data = true) (hne : ∀ q ∈ L, ∃ x r, q.2.data = .tuple (x :: r))
    (hQ : ∀ s' p (out : Array Value) (c : Nat) (L1 : List (Addr × NestedKey)), (∀ b o, s.heap.get? b = some o → s'.heap.get? b = some o) → s'.gens = s.gens → s'.os = s.os → s.heap.objs.size ≤ p →
      s'.heap.get? p = some (seqObj "list" out c) → L1.Perm L → out.toList = (L1.mergeSort (dataLe false fun q : Addr × NestedKey => q.2.data)).map (fun q => Value.ref q.1) → Q (.ref p) s') :
    wpAny (model P w) A (call (.builtin "sorted") [.ref a]) Q E s := by
  obtain ⟨o, ho, hex, hd⟩ := R.ob
  have size := R.size
  have few := R.few
  refine Calls.call_function_entry kind_sorted plain_sorted entry_sorted (args_sorted1 _) ?_
  unfold Builtin.«sorted»
  refine wpAny_bind (m := checkCount "sorted" 1 1 _) (wpAny_pure ?_)
  refine wpAny_bind (collect_set (A := A.in1) hh ⟨o, ho, hex.1, hd⟩ R.fits (by unfold scanBound; omega) R.tab.ris R.led fun s1 vs k1 hz g1 o1 pm => ?_)
  have hes : es.toList.map (·.2) = L.map fun q => Value.ref q.1 := by
    rw [R.rows, entries, List.map_map]
    rfl
  rw [hes] at pm
  obtain ⟨L1, e1, sub⟩ := rows_of (L := L) vs fun v hv => by
    obtain ⟨q, hq, e⟩ := List.mem_map.mp (pm.mem_iff.mp hv)
    exact ⟨q, hq, e.symm⟩
  have er0 : EachIs (fun v (q : Addr × NestedKey) => v = Value.ref q.1 ∧ q ∈ L) vs L1 := by
    rw [e1]
    exact each_refs L1 (fun q => q ∈ L) sub
  have one : ∀ q ∈ L, ∀ r ∈ L, q.1 = r.1 → q = r := fun q hq r hr e => by
    have a1 := R.key q hq
    have a2 := R.key r hr
    rw [e] at a1
    exact Prod.ext e ((nestedKind P w).inj a1 a2)
  have perm : L1.Perm L := by
    have nL : L.Nodup := nodup_of_map R.nd
    have nref : (L.map fun q => Value.ref q.1).Nodup := List.pairwise_map.mpr (List.Pairwise.imp_of_mem (fun {q r} hq hr ne e => by
      injection e with e
      exact ne (one q hq r hr e)) nL)
    rw [e1] at pm
    have n1 : L1.Nodup := nodup_of_map (pm.nodup_iff.mpr nref)
    refine (List.perm_ext_iff_of_nodup n1 nL).mpr fun q => ⟨sub q, fun hq => ?_⟩
    obtain ⟨r, hr, e⟩ := List.mem_map.mp (pm.mem_iff.mpr (List.mem_map.mpr ⟨q, hq, rfl⟩))
    injection e with e
    rw [← one r (sub r hr) q hq e]
    exact hr
  have vl : vs.length < 64 := by rw [e1, List.length_map, perm.length_eq]; exact few
  refine wpAny_bind (wpAny_newList ?_ (by rw [sizeLine_eq]; omega))
  have hoL : (s1.heap.push (seqObj "list" vs.toArray 0)).get? s1.heap.objs.size = some (seqObj "list" vs.toArray 0) := Heap.get?_push_size _ rfl
  have rd : ∀ q ∈ L, Reads (s1.heap.push (seqObj "list" vs.toArray 0)) (.ref q.1) q.2.data [] := fun q hq => PyProof.Rows.Reads.keeps (fun b u e => Heap.get?_push_of_some _ (k1 b u e)) (hrd q hq)
  refine wpAny_bind (wpAny_holding (PySem.W.list_sort_data (s := { s1 with heap := s1.heap.push (seqObj "list" vs.toArray 0) }) (vs := vs) (bs := L1) (enc := fun q : Addr × NestedKey => q.2.data) (R := fun v q => v = Value.ref q.1 ∧ q ∈ L) hoL ?_ ?_ ?_ ?_ ?_ ?_ fun out lo eo => ?_))
  · exact er0
  · exact er0.mono fun v q ⟨ev, hq⟩ => ⟨[], by rw [ev]; exact rd q hq, by simp⟩
  · intro d hd' d' hd2
    obtain ⟨q, hq, rfl⟩ := List.mem_map.mp hd'
    obtain ⟨r, hr, rfl⟩ := List.mem_map.mp hd2
    exact hal q (sub q hq) r (sub r hr)
  · refine .inl fun d hd' => ?_
    obtain ⟨q, hq, rfl⟩ := List.mem_map.mp hd'
    exact hne q (sub q hq)
  · rw [perm.length_eq, sizeLine_eq]
    omega
  · intro q hq
    have h8 := (R.key q (sub q hq)).2
    have hd8 : q.2.data.depth ≤ 8 := by rw [data_depth]; exact h8
    show A.units + 1 + 1 + q.2.data.depth < cLine
    omega
  · obtain ⟨c, hc⟩ := sortedHeap_at (vs := vs) (out := List.toArray out) hoL
    refine wpAny_pure ⟨_, rfl, hQ _ s1.heap.objs.size (List.toArray out) c L1 (fun b u e => ?_) g1 o1 hz hc perm (by rw [List.toList_toArray]; exact refs_each eo)⟩
    have q := k1 b u e
    have lt := Heap.lt_size q
    show (sortedHeap (s1.heap.push (seqObj "list" vs.toArray 0)) s1.heap.objs.size vs (List.toArray out)).get? b = some u
    rw [sortedHeap_old (Nat.ne_of_lt lt) (by rw [size_push']; exact Nat.lt_succ_of_lt lt)]
    exact Heap.get?_push_of_some _ q
end
end NS
set_option Elab.async false
set_option linter.all false
set_option maxRecDepth 100000
set_option maxHeartbeats 4000000
/-! Sets of nested keys and their sorted lists, as words of the hand layer. -/
namespace NS
open PySem PySem.Spec PyProof.Rows L2
open PySem.W (EachIs AllAlike Sortable dataLe)
/-- the set at a, but for the keys' own objects -/
structure SetN0 (P : Program) (w : World) (h : Heap) (a : Addr) (L : List (Addr × NestedKey)) : Prop where
  ex : ∃ (es : Array (Int × Value)) (ep : Nat) (t : SetTable), (∃ o, h.get? a = some o ∧ o.ExactSet ∧ o.data = .set es ep t) ∧ es.toList = entries P w L ∧ TabOk t (L.map fun p => kh P w p.2) ∧ (L.map (·.2)).Nodup ∧
    (t.plain = L.all fun p => byVal p.2) ∧ (w.params.followText "set-order" = true ∨ t.led = true) ∧ L.length * 5 < t.mask * 3 ∧ L.length < 64
def SetNO (P : Program) (w : World) (a : Addr) (L : List (Addr × NestedKey)) : HO := .ext fun h => SetN0 P w h a L
theorem SetN.bare {P : Program} {w : World} {h : Heap} {a : Addr} {L : List (Addr × NestedKey)} {es : Array (Int × Value)} {ep : Nat} {t : SetTable} (R : SetN P w h a L es ep t) : SetN0 P w h a L :=
  ⟨es, ep, t, R.ob, R.rows, R.tab, R.nd, R.plain, R.led, R.room, R.few⟩
theorem SetN0.full {P : Program} {w : World} {h : Heap} {a : Addr} {L : List (Addr × NestedKey)} (R : SetN0 P w h a L) (hk : ∀ p ∈ L, IsN P w h p.2 p.1) : ∃ es ep t, SetN P w h a L es ep t := by
  obtain ⟨es, ep, t, h1, h2, h3, h4, h5, h6, h7, h8⟩ := R.ex
  exact ⟨es, ep, t, h1, h2, h3, h4, hk, h5, h6, h7, h8⟩
theorem setNO_new {P : Program} {w : World} {H : Hp} {h : Heap} {a : Addr} {L : List (Addr × NestedKey)} (R : SetN0 P w h a L) : ObjOk P w H h a (SetNO P w a L) := by
  have ⟨es, ep, t, ⟨o, ho, r⟩, q⟩ := R.ex
  refine ⟨R, ⟨o, ho⟩, fun h1 h2 p k => ?_⟩
  have ⟨es', ep', t', ⟨o', ho', r'⟩, q'⟩ := SetN0.ex p
  exact ⟨es', ep', t', ⟨o', k o' ho', r'⟩, q'⟩
theorem refs_back : ∀ {ks : List (Addr × NestedKey)} {us : List Value}, Vals (ks.map fun p => V.ref p.1) us → us = ks.map fun p => Value.ref p.1
  | [], _, .nil => rfl
  | p :: ks, _, .cons r t => by
    cases r
    rw [refs_back t]
    rfl
theorem refs_on : ∀ (ks : List (Addr × NestedKey)), Vals (ks.map fun p => V.ref p.1) (ks.map fun p => Value.ref p.1)
  | [] => .nil
  | p :: ks => .cons rfl (refs_on ks)
/-- the keys stand as tuples in the abstract heap -/
def KeysAt (K : PySem.W.Frag) (H : Hp) (L : List (Addr × NestedKey)) : Prop := ∀ p ∈ L, Dp K H (.ref p.1) p.2.data ∧ p.2.depth ≤ 8
section
variable {X : Cx}
theorem reads_keys {pins : List (Addr × Obj)} {σ : L2.St} {H : Hp} {s : Shared} {L : List (Addr × NestedKey)} (I : Inv X pins σ H s) (h : KeysAt X.K H L) : ∀ p ∈ L, Reads s.heap (.ref p.1) p.2.data [] ∧ IsN X.prog X.w s.heap p.2 p.1 := fun p hp => by
  obtain ⟨as, r⟩ := Dp.reads I _ _ (.ref p.1) (h p hp).1 rfl
  obtain ⟨n, e⟩ := nest_of_reads _ _ _ r
  rw [e] at r
  exact ⟨r, n, (h p hp).2⟩
/-- set(xs), xs a list of tuples (of texts, ints, None, tuples) -/
def rSetOfN (K : PySem.W.Frag) (P : Program) (w : World) : List V → Hp → VK → Prop := fun xs H Q => ∃ (l : Addr) (ks : List (Addr × NestedKey)), xs = [V.ref l] ∧ SqL K H l (ks.map fun p => V.ref p.1) ∧ KeysAt K H ks ∧ ks.length < 64 ∧
  ∀ a L, H a = none → (∀ p ∈ L, p ∈ ks) → (∀ p ∈ ks, p.2 ∈ L.map (·.2)) → (L.map (·.2)).Nodup → Q (.ref a) (upd H a (SetNO P w a L))
theorem cr_setOfN (hc : X.calm = true) (hu : X.A.units + 64 < cLine) : CallR X (.type "set") (rSetOfN X.K X.prog X.w) := by
  intro pins s σ H xs us Q I r h
  obtain ⟨l, ks, rfl, hl, hk, hf, q⟩ := h
  rw [Vals.ref1 r]
  obtain ⟨its, rv, pl, hz⟩ := I.list hl
  have hn : H s.heap.objs.size = none := I.hok.fresh (Nat.le_refl _)
  refine call_set_keys (P := X.prog) (w := X.w) ks (I.ok.hd hc) pl.isList (by simpa using refs_back rv) (fun p hp => (reads_keys I hk p hp).2) hf (by omega) fun h' tk L es ep t R g k => ?_
  refine ⟨.ref s.heap.objs.size, upd H s.heap.objs.size (SetNO X.prog X.w s.heap.objs.size L), I.laid (t' := tk) k (Nat.le_refl _) (setNO_new R.bare), rfl, q _ L hn (fun p hp => ?_) (fun p hp => ?_) R.nd⟩
  · exact List.mem_of_mem_take (g.sub p hp)
  · exact g.all p (by rw [List.take_length]; exact hp)
/-- sorted(set): the rows in the data's order -/
def rSortedN (K : PySem.W.Frag) (P : Program) (w : World) : List V → Hp → VK → Prop := fun vs H Q => ∃ (a : Addr) (L : List (Addr × NestedKey)), vs = [V.ref a] ∧ H a = some (SetNO P w a L) ∧ KeysAt K H L ∧ (∀ q ∈ L, ∀ r ∈ L, PySem.W.alike q.2.data r.2.data = true) ∧ (∀ q ∈ L, ∃ x r, q.2.data = .tuple (x :: r)) ∧
  ∀ (L1 : List (Addr × NestedKey)) (p : Addr), L1.Perm L → (L1.map (·.2)).Nodup → L1.length < 64 → H p = none → Q (.ref p) (upd H p (.lst ((L1.mergeSort (dataLe false fun q : Addr × NestedKey => q.2.data)).map fun q => V.ref q.1)))
theorem cr_sortedN (hc : X.calm = true) (hu : X.A.units + 64 < cLine) : CallR X (.builtin "sorted") (rSortedN X.K X.prog X.w) := by
  intro pins s σ H vs us Q I r h
  obtain ⟨a, L, rfl, ha, hk, hal, hne, q⟩ := h
  have R0 : SetN0 X.prog X.w s.heap a L := (I.hok a _ ha).1
  obtain ⟨es, ep, t, R⟩ := R0.full fun p hp => (reads_keys I hk p hp).2
  rw [Vals.ref1 r]
  refine sorted_keys R (I.ok.hd hc) (by omega) (fun p hp => (reads_keys I hk p hp).1) hal hne fun s' p out c L1 k g o hp hg pm hout => ?_
  have few : L1.length < 64 := by rw [pm.length_eq]; exact R.few
  have hlen : ((L1.mergeSort (dataLe false fun q : Addr × NestedKey => q.2.data)).map fun q => V.ref q.1).length ≤ sizeLine := by rw [List.length_map, List.length_mergeSort, sizeLine_eq]; omega
  have hn : H p = none := I.hok.fresh hp
  have hv : Vals ((L1.mergeSort (dataLe false fun q : Addr × NestedKey => q.2.data)).map fun q => V.ref q.1) out.toList := by rw [hout]; exact refs_on _
  have J : Inv X pins σ (upd H p (.lst ((L1.mergeSort (dataLe false fun q : Addr × NestedKey => q.2.data)).map fun q => V.ref q.1))) { s with heap := s'.heap, gens := s'.gens, drawn := s'.drawn, toks := s'.toks } :=
    I.call (ch := []) (Un.laid k hp hn) (I.hok.laid k hp ⟨hlen, out.toList, c, hv, hg⟩) (by rw [g]; exact I.bare) (fun _ z => nomatch z)
  have e : s' = { s with heap := s'.heap, gens := s'.gens, drawn := s'.drawn, toks := s'.toks } := by
    cases s'
    cases s
    cases o
    rfl
  rw [e]
  exact ⟨.ref p, _, J, rfl, q L1 p pm ((pm.map (·.2)).nodup_iff.mpr R.nd) few hn⟩
end
end NS
set_option Elab.async false
set_option linter.all false
set_option maxRecDepth 100000
set_option maxHeartbeats 4000000
/-! The sorted rows are told by their keys alone. -/
namespace NS
open PySem PySem.Spec PyProof.Rows L2
open PySem.W (EachIs AllAlike Sortable dataLe alike)
mutual
theorem eqv_beq : ∀ a b : NestedKey, PyData.eqv a.data b.data = NestedKey.beq a b
  | .none, .none => by simp [NestedKey.data, PyData.eqv, NestedKey.beq]
  | .num a, .num b => by
    rw [NestedKey.data, NestedKey.data, PyData.eqv, NestedKey.beq]
    first | rfl | exact Bool.beq_eq_decide_eq a b
  | .text a, .text b => by
    rw [NestedKey.data, NestedKey.data, PyData.eqv, NestedKey.beq]
    first | rfl | exact Bool.beq_eq_decide_eq a b
  | .tup a, .tup b => by
    rw [NestedKey.data, NestedKey.data, PyData.eqv, NestedKey.beq]
    exact eqvs_beq a b
  | .none, .num _ => by simp [NestedKey.data, PyData.eqv, NestedKey.beq]
  | .none, .text _ => by simp [NestedKey.data, PyData.eqv, NestedKey.beq]
  | .none, .tup _ => by simp [NestedKey.data, PyData.eqv, NestedKey.beq]
  | .num _, .none => by simp [NestedKey.data, PyData.eqv, NestedKey.beq]
  | .num _, .text _ => by simp [NestedKey.data, PyData.eqv, NestedKey.beq]
  | .num _, .tup _ => by simp [NestedKey.data, PyData.eqv, NestedKey.beq]
  | .text _, .none => by simp [NestedKey.data, PyData.eqv, NestedKey.beq]
  | .text _, .num _ => by simp [NestedKey.data, PyData.eqv, NestedKey.beq]
  | .text _, .tup _ => by simp [NestedKey.data, PyData.eqv, NestedKey.beq]
  | .tup _, .none => by simp [NestedKey.data, PyData.eqv, NestedKey.beq]
  | .tup _, .num _ => by simp [NestedKey.data, PyData.eqv, NestedKey.beq]
  | .tup _, .text _ => by simp [NestedKey.data, PyData.eqv, NestedKey.beq]
theorem eqvs_beq : ∀ a b : List NestedKey, PyData.eqvAll (NestedKey.datas a) (NestedKey.datas b) = NestedKey.beqAll a b
  | [], [] => by simp [NestedKey.datas, PyData.eqvAll, NestedKey.beqAll]
  | [], _ :: _ => by simp [NestedKey.datas, PyData.eqvAll, NestedKey.beqAll]
  | _ :: _, [] => by simp [NestedKey.datas, PyData.eqvAll, NestedKey.beqAll]
  | a :: as, b :: bs => by
    rw [NestedKey.datas, NestedKey.datas, PyData.eqvAll, NestedKey.beqAll, eqv_beq a b, eqvs_beq as bs]
end
abbrev O2 : KeyOrd := listOrd itemOrd
theorem lex_more (x : List (Int ⊕ List Nat)) (z : Int ⊕ List Nat) : lexLt itemOrd x (x ++ [z]) = true := by
  have h := PySem.W.lex_pre x [] [z]
  rw [List.append_nil] at h
  rw [h]
  rfl
/-- alike data of one rank are one -/
theorem toks_inj {a b : NestedKey} (h : alike a.data b.data = true) (e : PySem.W.keyToks a.data = PySem.W.keyToks b.data) : a = b := by
  cases q : PyData.eqv a.data b.data with
  | true => exact NestedKey.eq_of_beq a b (by rw [← eqv_beq]; exact q)
  | false =>
    have z := (PySem.W.toks_eqv a.data b.data h).2 q [] [.inl 0]
    rw [List.append_nil, e, lex_more] at z
    have i := O2.irrefl (PySem.W.keyToks b.data)
    have i' : lexLt itemOrd (PySem.W.keyToks b.data) (PySem.W.keyToks b.data) = false := i
    rw [i'] at z
    cases z
def kle (a b : NestedKey) : Bool := dataLe false NestedKey.data a b
theorem kle_anti {a b : NestedKey} (h : alike a.data b.data = true) (h1 : kle a b = true) (h2 : kle b a = true) : a = b := by
  refine toks_inj h (O2.total _ _ ?_ ?_)
  · have z : (!O2.blt (PySem.W.keyToks a.data) (PySem.W.keyToks b.data)) = true := h2
    simpa using z
  · have z : (!O2.blt (PySem.W.keyToks b.data) (PySem.W.keyToks a.data)) = true := h1
    simpa using z
theorem kle_trans (a b c : NestedKey) : kle a b = true → kle b c = true → kle a c = true := (PySem.W.sortLe_total O2 false fun k : NestedKey => PySem.W.keyToks k.data).trans a b c
theorem kle_total (a b : NestedKey) : (kle a b || kle b a) = true := Bool.or_eq_true_iff.mpr ((PySem.W.sortLe_total O2 false fun k : NestedKey => PySem.W.keyToks k.data).total a b)
theorem sorted_one {α : Type} {le : α → α → Bool} : ∀ (l m : List α), l.Perm m → l.Pairwise (fun a b => le a b = true) → m.Pairwise (fun a b => le a b = true) → (∀ a ∈ l, ∀ b ∈ l, le a b = true → le b a = true → a = b) → l = m
  | [], m, h, _, _, _ => (List.nil_perm.mp h).symm
  | a :: l, [], h, _, _, _ => absurd h.length_eq (by simp)
  | a :: l, b :: m, h, h1, h2, an => by
    have e : a = b := by
      rcases List.mem_cons.mp (h.mem_iff.mp List.mem_cons_self) with z | z
      · exact z
      · rcases List.mem_cons.mp (h.mem_iff.mpr List.mem_cons_self) with y | y
        · exact y.symm
        · exact an a List.mem_cons_self b (List.mem_cons_of_mem _ y) ((List.pairwise_cons.mp h1).1 b y) ((List.pairwise_cons.mp h2).1 a z)
    subst e
    rw [sorted_one l m (List.Perm.cons_inv h) (List.pairwise_cons.mp h1).2 (List.pairwise_cons.mp h2).2 fun x hx y hy => an x (List.mem_cons_of_mem _ hx) y (List.mem_cons_of_mem _ hy)]
abbrev rowsSorted (L : List (Addr × NestedKey)) : List (Addr × NestedKey) := L.mergeSort (dataLe false fun q : Addr × NestedKey => q.2.data)
theorem rows_pair (L : List (Addr × NestedKey)) : ((rowsSorted L).map (·.2)).Pairwise (fun a b => kle a b = true) := by
  rw [List.pairwise_map]
  exact List.pairwise_mergeSort (le := dataLe false fun q : Addr × NestedKey => q.2.data) (fun a b c => kle_trans a.2 b.2 c.2) (fun a b => kle_total a.2 b.2) L
/-- the keys' order depends on the keys alone -/
theorem rows_one {L M : List (Addr × NestedKey)} (n1 : (L.map (·.2)).Nodup) (n2 : (M.map (·.2)).Nodup) (same : ∀ k, k ∈ L.map (·.2) ↔ k ∈ M.map (·.2)) (al : ∀ q ∈ L, ∀ r ∈ L, alike q.2.data r.2.data = true) : (rowsSorted L).map (·.2) = (rowsSorted M).map (·.2) := by
  have p1 : ((rowsSorted L).map (·.2)).Perm (L.map (·.2)) := (List.mergeSort_perm L _).map _
  have p2 : ((rowsSorted M).map (·.2)).Perm (M.map (·.2)) := (List.mergeSort_perm M _).map _
  have p : (L.map (·.2)).Perm (M.map (·.2)) := (List.perm_ext_iff_of_nodup n1 n2).mpr same
  refine sorted_one _ _ (p1.trans (p.trans p2.symm)) (rows_pair L) (rows_pair M) fun a ha b hb h1 h2 => ?_
  obtain ⟨q, hq, rfl⟩ := List.mem_map.mp (p1.mem_iff.mp ha)
  obtain ⟨r, hr, rfl⟩ := List.mem_map.mp (p1.mem_iff.mp hb)
  exact kle_anti (al q hq r hr) h1 h2
end NS
set_option Elab.async false
set_option linter.all false
set_option maxRecDepth 100000
set_option maxHeartbeats 4000000
/-! tuple(sorted(set(xs))) of nested keys. -/
namespace NS
open PySem PySem.Spec PyProof.Rows L2
open PySem.W (dataLe alike)
mutual
theorem dp_same {K : PySem.W.Frag} {H H' : Hp} (e : Same H H') (ht : ∀ a xs, SqT K H a xs → SqT K H' a xs) : ∀ (d : PyData) (v : V), Dp K H v d → Dp K H' v d
  | .none, _, h => by cases h; exact .non
  | .bool b, _, h => by cases h; exact .bl b
  | .int i, _, h => by cases h; exact .int i
  | .str x, _, h => by cases h; exact .str x
  | .list ds, _, h => by
    cases h with
    | lst a c => exact .lst (e.seq a) (dp_sames e ht ds _ c)
  | .tuple ds, _, h => by
    cases h with
    | tup a c => exact .tup (ht _ _ a) (dp_sames e ht ds _ c)
  | .dict kvs, _, h => by cases h
theorem dp_sames {K : PySem.W.Frag} {H H' : Hp} (e : Same H H') (ht : ∀ a xs, SqT K H a xs → SqT K H' a xs) : ∀ (ds : List PyData) (vs : List V), DpAll K H vs ds → DpAll K H' vs ds
  | [], _, h => by cases h; exact .nil
  | d :: ds, _, h => by
    cases h with
    | cons h1 h2 => exact .cons (dp_same e ht d _ h1) (dp_sames e ht ds _ h2)
end
theorem sqT_same {K : PySem.W.Frag} {H H' : Hp} {a : Addr} {xs : List V} (e : Same H H') (h : SqT K H a xs) : SqT K H' a xs := by
  rcases h with (h | ⟨o, h⟩) | h
  · exact .inl (.inl (e _ _ h))
  · exact .inl (.inr ⟨o, e _ _ h⟩)
  · exact .inr h
theorem KeysAt.same {K : PySem.W.Frag} {H H' : Hp} {L : List (Addr × NestedKey)} (h : KeysAt K H L) (e : Same H H') : KeysAt K H' L := fun p hp => ⟨dp_same e (fun a xs => sqT_same e) _ _ (h p hp).1, (h p hp).2⟩
/-- each key once -/
def once : List NestedKey → List NestedKey
  | [] => []
  | k :: ks => if k ∈ once ks then once ks else k :: once ks
theorem mem_once {x : NestedKey} : ∀ ks : List NestedKey, x ∈ once ks ↔ x ∈ ks
  | [] => Iff.rfl
  | k :: ks => by
    rw [once, List.mem_cons, ← mem_once ks]
    by_cases h : k ∈ once ks
    · rw [if_pos h]
      exact ⟨.inr, fun z => z.elim (fun e => by rw [e]; exact h) id⟩
    · rw [if_neg h, List.mem_cons]
theorem once_nodup : ∀ ks : List NestedKey, (once ks).Nodup
  | [] => List.nodup_nil
  | k :: ks => by
    rw [once]
    by_cases h : k ∈ once ks
    · rw [if_pos h]; exact once_nodup ks
    · rw [if_neg h]; exact List.nodup_cons.mpr ⟨h, once_nodup ks⟩
/-- the keys of a list, each once, ascending -/
def canon (ks : List NestedKey) : List NestedKey := (rowsSorted ((once ks).map fun k => (0, k))).map (·.2)
theorem canon_is {L : List (Addr × NestedKey)} {ks : List NestedKey} (nd : (L.map (·.2)).Nodup) (h : ∀ k, k ∈ L.map (·.2) ↔ k ∈ ks) (al : ∀ q ∈ L, ∀ r ∈ L, alike q.2.data r.2.data = true) : (rowsSorted L).map (·.2) = canon ks := by
  have e : ((once ks).map fun k => ((0 : Addr), k)).map (·.2) = once ks := by
    rw [List.map_map]
    exact List.map_id _
  refine rows_one nd (by rw [e]; exact once_nodup ks) (fun k => ?_) al
  rw [e, mem_once]
  exact h k
def rTupOf (K : PySem.W.Frag) : List V → Hp → VK → Prop := fun xs H Q => ∃ p ys, xs = [.ref p] ∧ ((SqL K H p ys ∧ ∀ l, H l = none → Q (.ref l) (upd H l (.tup ys))) ∨ (SqT K H p ys ∧ Q (.ref p) H))
theorem up_same {H : Hp} {p : Addr} {o : HO} (h : H p = none) : Same H (upd H p o) := fun b x e => by
  rw [upd_ne (fun z => by rw [z, h] at e; cases e)]
  exact e
/-- what tuple(sorted(set(xs))) gives -/
theorem set_sorted_tuple {K : PySem.W.Frag} {P : Program} {w : World} {H : Hp} {l : Addr} {ks : List (Addr × NestedKey)} {Q : VK} (hl : SqL K H l (ks.map fun p => V.ref p.1)) (hk : KeysAt K H ks) (few : ks.length < 64)
    (al : ∀ q ∈ ks, ∀ r ∈ ks, alike q.2.data r.2.data = true) (ne : ∀ q ∈ ks, ∃ x r, q.2.data = .tuple (x :: r))
    (q : ∀ (H' : Hp) (r : Addr) (L2 : List (Addr × NestedKey)), Same H H' → L2.map (·.2) = canon (ks.map (·.2)) → (∀ p ∈ L2, p ∈ ks) → SqT K H' r (L2.map fun p => V.ref p.1) → Q (.ref r) H') :
    rSetOfN K P w [.ref l] H fun y H2 => rSortedN K P w [y] H2 fun z H3 => rTupOf K [z] H3 Q := by
  refine ⟨l, ks, rfl, hl, hk, few, fun a L na sub all nd => ?_⟩
  have s1 : Same H (upd H a (SetNO P w a L)) := up_same na
  refine ⟨a, L, rfl, upd_same, (fun p hp => hk.same s1 p (sub p hp)), fun q hq r hr => al q (sub q hq) r (sub r hr), fun q hq => ne q (sub q hq), fun L1 p pm nd1 f1 np => ?_⟩
  have s2 : Same (upd H a (SetNO P w a L)) (upd (upd H a (SetNO P w a L)) p (.lst ((rowsSorted L1).map fun q => V.ref q.1))) := up_same np
  refine ⟨p, _, rfl, .inl ⟨SqL.of upd_same, fun r nr => q _ r (rowsSorted L1) (s1.trans (s2.trans (up_same nr))) ?_ (fun x hx => sub x (pm.mem_iff.mp ((List.mergeSort_perm L1 _).mem_iff.mp hx))) (SqT.of upd_same)⟩⟩
  refine canon_is nd1 (fun k => ?_) fun x hx y hy => al x (sub x (pm.mem_iff.mp hx)) y (sub y (pm.mem_iff.mp hy))
  rw [(pm.map (·.2)).mem_iff]
  constructor
  · intro h
    obtain ⟨x, hx, rfl⟩ := List.mem_map.mp h
    exact List.mem_map.mpr ⟨x, sub x hx, rfl⟩
  · intro h
    obtain ⟨x, hx, rfl⟩ := List.mem_map.mp h
    exact all x hx
end NS
set_option Elab.async false
set_option linter.all false
set_option maxRecDepth 100000
set_option maxHeartbeats 4000000
/-! k04: the program's own defs. -/
namespace Eh
open PySem PySem.Spec PyProof.Rows L2
section
variable {P : Program} {w : World} {K : PySem.W.Frag} {mg : Str → Option Value} {base : Heap}
theorem sqT_of {K : PySem.W.Frag} {H H' : Hp} {a : Addr} {xs : List V} (e : Same H H') (h : SqT K H a xs) : SqT K H' a xs := NS.sqT_same e h
theorem scPicked : FnScope ["values", "references", "reference"] ["values", "references"] (defScope sPicked) := ⟨rfl, rfl, rfl, by decide +kernel, rfl, by decide +kernel, by decide +kernel⟩
/-- the values at the references -/
def at_ (vals : List Int) (ns : List Nat) : List Int := ns.map fun n => vals.getD n 0
def spPicked (K : PySem.W.Frag) : Sp := fun us H Q _ => ∃ (va rf : Addr) (vals : List Int) (ns : List Nat), us = [.ref va, .ref rf] ∧ SqT K H va (vals.map V.int) ∧ SqT K H rf (ns.map fun n : Nat => V.int n) ∧ (∀ n ∈ ns, n < vals.length) ∧ ns.length < 1000 ∧
  ∀ H' r, Same H H' → SqT K H' r ((at_ vals ns).map V.int) → Q (.ref r) H'
theorem atI_get {vals : List Int} {n : Nat} (h : n < vals.length) : atI (vals.map V.int) (n : Nat) = some (V.int (vals.getD n 0)) := by
  refine atI_nat ?_
  rw [List.getElem?_map, List.getElem?_eq_getElem h, List.getD_eq_getElem?_getD, List.getElem?_eq_getElem h]
  rfl
theorem ok_picked {f : Addr} {fd : FuncData} {k : Nat} (F : Fun K "_picked" "_picked" sPicked f fd) (mt : mg "tuple" = none) : FnOk P w K mg base CX0 (k + 1) f fd ["values", "references"] (spPicked K) := by
  refine F.ok scPicked (fun us H Q E h => ?_) (fun cdv A outer s H us Q E hr h => ?_)
  · obtain ⟨va, rf, vals, ns, rfl, _⟩ := h
    rfl
  · obtain ⟨va, rf, vals, ns, rfl, hv, hn, hb, hz, q⟩ := h
    refine ⟨_, pss_one (ps_ret (pe_callTy call_tuple_of (by rfl) mt (by decide +kernel) (pa_cons (pe_lc (own := [("reference", 2)]) (g := gName 2) (tt := tYes) (te := tOp (rIxT K) (tVar 0) (tVar 2)) rfl scPicked.nd (pi_tup (pv 1)) (blkOk_by (N := ["values", "references", "reference"]) (sc := defScope sPicked) (by decide +kernel))
      (fun _ _ _ _ _ => pg_name (i := 2) scPicked.nd rfl (.inl rfl)) (fun _ _ _ _ _ => pts_nil) (fun _ _ _ _ _ => pe_ix ix_tup (pv 0) (pv 2) (fun _ _ => rfl))) pa_nil))), ?_⟩
    refine ⟨_, rfl, rf, rfl, ⟨_, hn⟩, fun D hD => ?_⟩
    have W := lc_tup (K := K) (a := rf) (xs := ns.map fun n : Nat => V.int n) (g := gName 2) (tt := tYes) (te := tOp (rIxT K) (tVar 0) (tVar 2)) (vs := [2]) (σ := [some (.ref va), some (.ref rf), none]) (H1 := H) (D := D)
      (Qd := fun H' => ∃ p ys, [V.ref D] = [.ref p] ∧ ((SqL K H' p ys ∧ ∀ l, H' l = none → Q (.ref l) (upd H' l (.tup ys))) ∨ (SqT K H' p ys ∧ Q (.ref p) H')))
      (fun n H' => Same H H' ∧ H' D = some (.lst ((at_ vals (ns.take n)).map V.int))) ⟨same_upd hD, upd_same⟩ (fun n H' _ z => sqT_of z.1 hn) ?_ ?_
    · exact W
    · rintro n x H' hx ⟨s1, e1⟩
      rw [List.getElem?_map] at hx
      cases hm : ns[n]? with
      | none => rw [hm] at hx; cases hx
      | some m =>
        rw [hm] at hx
        cases hx
        have hl := (List.getElem?_eq_some_iff.mp hm).1
        refine ⟨rfl, ?_⟩
        dsimp only [tYes]
        rw [if_pos rfl]
        refine ⟨_, rfl, _, rfl, va, _, _, _, rfl, rfl, sqT_of s1 hv, atI_get (hb m (List.mem_of_getElem? hm)), _, e1, ?_, fun b o h => ?_, ?_⟩
        · rw [List.length_map, at_, List.length_map, List.length_take]
          have h3 : 1000 ≤ sizeLine := by decide
          omega
        · rw [upd_ne (fun z => by rw [z, hD] at h; cases h)]
          exact s1 _ _ h
        · rw [upd_same, List.take_succ, hm, at_, at_]
          simp
    · rintro H' ⟨s1, e1⟩
      refine ⟨D, _, rfl, .inl ⟨SqL.of e1, fun r nr => q _ r (s1.trans (same_upd nr)) ?_⟩⟩
      have e : (ns.map fun n : Nat => V.int n).length = ns.length := List.length_map ..
      rw [e, List.take_length]
      exact SqT.of upd_same
end
end Eh
set_option Elab.async false
set_option linter.all false
set_option maxRecDepth 100000
set_option maxHeartbeats 8000000
/-! k04: crash_results. -/
namespace Eh
open PySem PySem.Spec PyProof.Rows L2 NS
mutual
theorem key_keep {K : PySem.W.Frag} {H H' : Hp} (ht : ∀ a xs, SqT K H a xs → SqT K H' a xs) : ∀ (k : NestedKey) (v : V), Dp K H v k.data → Dp K H' v k.data
  | .none, _, h => by rw [NestedKey.data] at h ⊢; cases h; exact .non
  | .num i, _, h => by rw [NestedKey.data] at h ⊢; cases h; exact .int i
  | .text x, _, h => by rw [NestedKey.data] at h ⊢; cases h; exact .str x
  | .tup ks, _, h => by
    rw [NestedKey.data] at h ⊢
    cases h with
    | tup a c => exact .tup (ht _ _ a) (keys_keep ht ks _ c)
theorem keys_keep {K : PySem.W.Frag} {H H' : Hp} (ht : ∀ a xs, SqT K H a xs → SqT K H' a xs) : ∀ (ks : List NestedKey) (vs : List V), DpAll K H vs (NestedKey.datas ks) → DpAll K H' vs (NestedKey.datas ks)
  | [], _, h => by rw [NestedKey.datas] at h ⊢; cases h; exact .nil
  | k :: ks, _, h => by
    rw [NestedKey.datas] at h ⊢
    cases h with
    | cons h1 h2 => exact .cons (key_keep ht k _ h1) (keys_keep ht ks _ h2)
end
theorem sqT_put {K : PySem.W.Frag} {H : Hp} {D a : Addr} {xs ys zs : List V} (hD : H D = some (.lst ys)) (h : SqT K H a xs) : SqT K (upd H D (.lst zs)) a xs := by
  rcases h with (h | ⟨o, h⟩) | h
  · exact .inl (.inl (by rw [upd_ne (fun e => by rw [e, hD] at h; cases h)]; exact h))
  · exact .inl (.inr ⟨o, by rw [upd_ne (fun e => by rw [e, hD] at h; cases h)]; exact h⟩)
  · exact .inr h
/-- a row of the crashes -/
structure CRow where
  pr : Addr
  after : Int
  kp : Addr
  ns : List Nat
def ckey (vals : List Int) (r : CRow) : NestedKey := .tup [.num r.after, .tup ((at_ vals r.ns).map .num)]
def RowAt (K : PySem.W.Frag) (H : Hp) (m : Nat) (r : CRow) : Prop := SqT K H r.pr [.int r.after, .ref r.kp] ∧ SqT K H r.kp (r.ns.map fun n : Nat => V.int n) ∧ (∀ n ∈ r.ns, n < m) ∧ r.ns.length < 1000
theorem nums_dp {K : PySem.W.Frag} {H : Hp} : ∀ l : List Int, DpAll K H (l.map V.int) (NestedKey.datas (l.map .num))
  | [] => by rw [List.map_nil, List.map_nil, NestedKey.datas]; exact .nil
  | n :: l => by rw [List.map_cons, List.map_cons, NestedKey.datas, NestedKey.data]; exact .cons (.int n) (nums_dp l)
theorem nums_depth : ∀ l : List Int, NestedKey.depthAll (l.map .num) = 0
  | [] => by simp [NestedKey.depthAll]
  | n :: l => by rw [List.map_cons, NestedKey.depthAll, nums_depth l, NestedKey.depth]; rfl
theorem ckey_depth (vals : List Int) (r : CRow) : (ckey vals r).depth ≤ 8 := by
  simp [ckey, NestedKey.depth, NestedKey.depthAll, nums_depth]
theorem nums_alike : ∀ l m : List Int, PySem.W.alikeAll (NestedKey.datas (l.map .num)) (NestedKey.datas (m.map .num)) = true
  | [], _ => by rw [List.map_nil, NestedKey.datas, PySem.W.alikeAll]
  | _ :: _, [] => by rw [List.map_cons, List.map_nil, NestedKey.datas, NestedKey.datas, PySem.W.alikeAll]
  | a :: l, b :: m => by
    rw [List.map_cons, List.map_cons, NestedKey.datas, NestedKey.datas, PySem.W.alikeAll, NestedKey.data, NestedKey.data, PySem.W.alike, nums_alike l m]
    rfl
theorem ckey_alike (vals vals' : List Int) (r r' : CRow) : PySem.W.alike (ckey vals r).data (ckey vals' r').data = true := by
  simp [ckey, NestedKey.data, NestedKey.datas, PySem.W.alike, PySem.W.alikeAll, nums_alike]
theorem ckey_ne (vals : List Int) (r : CRow) : ∃ x t, (ckey vals r).data = .tuple (x :: t) := ⟨_, _, by simp only [ckey, NestedKey.data, NestedKey.datas]; rfl⟩
section
variable {P : Program} {w : World} {K : PySem.W.Frag} {mg : Str → Option Value} {base : Heap}
abbrev NC : List Str := ["spec", "config", "mode", "values", "after", "kept"]
theorem scLCrash : FnScope NC ["spec", "config"] (defScope sLCrash) := ⟨rfl, rfl, rfl, by decide +kernel, rfl, by decide +kernel, by decide +kernel⟩
/-- crash_results: the keys, each once, ascending -/
def spCrash (K : PySem.W.Frag) : Sp := fun us H Q _ => ∃ (sp cf va cr rw : Addr) (m : Nat) (x0 x1 x2 : V) (crs : List V) (vals : List Int) (rows : List CRow), us = [.ref sp, .ref cf] ∧ SqT K H sp [x0, x1, x2, .ref cr] ∧ SqT K H cf [.int m, .ref va] ∧ SqT K H va (vals.map V.int) ∧
  SqT K H cr crs ∧ crs[m]? = some (.ref rw) ∧ SqT K H rw (rows.map fun r => V.ref r.pr) ∧ (∀ r ∈ rows, RowAt K H vals.length r) ∧ rows.length < 64 ∧
  ∀ H' r (L2 : List (Addr × NestedKey)), Same H H' → L2.map (·.2) = canon (rows.map (ckey vals)) → KeysAt K H' L2 → SqT K H' r (L2.map fun p => V.ref p.1) → Q (.ref r) H'
def tRes (K : PySem.W.Frag) : TE := tLc (iTup K (tOp (rIxT K) (tOp (rIxT K) (tVar 0) (tC (.int 3))) (tVar 2))) (gTup K 2 (gCons (gName 4) (gCons (gName 5) gNil))) tYes (tTup (tCons (tVar 4) (tCons (tCall (spPicked K) [] (fun _ _ _ => False) (tCons (tVar 3) (tCons (tVar 5) tNil))) tNil))) [4, 5]
theorem psAs {X : Cx} {st : Stmt} (t : TS) (h : PS X st t) : PS X st t := h
theorem res_ok {H : Hp} {sp cf va cr rw : Addr} {m : Nat} {x0 x1 x2 : V} {crs : List V} {vals : List Int} {rows : List CRow} {Q : VK} (h0 : SqT K H sp [x0, x1, x2, .ref cr]) (h2 : SqT K H va (vals.map V.int)) (h3 : SqT K H cr crs) (h4 : crs[m]? = some (.ref rw))
    (h5 : SqT K H rw (rows.map fun r => V.ref r.pr)) (h6 : ∀ r ∈ rows, RowAt K H vals.length r) (h7 : rows.length < 64)
    (q : ∀ H' D (ks : List (Addr × NestedKey)), Same H H' → H' D = some (.lst (ks.map fun p => V.ref p.1)) → ks.map (·.2) = rows.map (ckey vals) → KeysAt K H' ks → Q (.ref D) H') :
    tRes K [some (.ref sp), some (.ref cf), some (.int m), some (.ref va), none, none] H Q := by
  refine ⟨_, rfl, sp, _, 3, .ref cr, rfl, rfl, h0, atI_nat (j := 3) rfl, _, rfl, cr, crs, m, .ref rw, rfl, rfl, h3, atI_nat h4, rw, rfl, ⟨_, h5⟩, fun D hD => ?_⟩
  refine lc_tup (K := K) (a := rw) (xs := rows.map fun r => V.ref r.pr) (g := gTup K 2 (gCons (gName 4) (gCons (gName 5) gNil))) (tt := tYes) (te := tTup (tCons (tVar 4) (tCons (tCall (spPicked K) [] (fun _ _ _ => False) (tCons (tVar 3) (tCons (tVar 5) tNil))) tNil))) (vs := [4, 5])
    (σ := [some (.ref sp), some (.ref cf), some (.int m), some (.ref va), none, none]) (H1 := H) (D := D) (Qd := fun H' => Q (.ref D) H')
    (fun n H' => Same H H' ∧ ∃ ks : List (Addr × NestedKey), H' D = some (.lst (ks.map fun p => V.ref p.1)) ∧ ks.map (·.2) = (rows.take n).map (ckey vals) ∧ KeysAt K H' ks) ⟨same_upd hD, [], upd_same, rfl, fun p hp => (by cases hp)⟩ (fun n H' _ z => sqT_of z.1 h5) ?_ ?_
  · rintro n x H' hx ⟨s1, ks, e1, e2, e3⟩
    rw [List.getElem?_map] at hx
    cases hm : rows[n]? with
    | none => rw [hm] at hx; cases hx
    | some r =>
      rw [hm] at hx
      cases hx
      obtain ⟨r1, r2, r3, r4⟩ := h6 r (List.mem_of_getElem? hm)
      have hn := (List.getElem?_eq_some_iff.mp hm).1
      refine ⟨r.pr, _, rfl, sqT_of s1 r1, rfl, _, _, rfl, _, _, rfl, rfl, rfl, ?_⟩
      dsimp only [tYes]
      rw [if_pos rfl]
      refine ⟨_, rfl, _, rfl, _, rfl, va, r.kp, vals, r.ns, rfl, sqT_of s1 h2, sqT_of s1 r2, r3, r4, fun H2 rr k2 hrr => ⟨by show 2 ≤ sizeLine; decide, fun p np => ?_⟩⟩
      have k3 : Same H2 (upd H2 p (.tup [.int r.after, .ref rr])) := same_upd np
      have dD : H2 D = some (.lst (ks.map fun p => V.ref p.1)) := k2 _ _ e1
      have nD : p ≠ D := fun z => by rw [z, dD] at np; cases np
      have lk : ks.length = n := by
        have z := congrArg List.length e2
        rw [List.length_map, List.length_map, List.length_take] at z
        omega
      refine ⟨_, k3 _ _ dD, ?_, fun b o h => ?_, ks ++ [(p, ckey vals r)], ?_, ?_, fun y hy => ?_⟩
      · rw [List.length_map, lk]
        have h9 : 1000 ≤ sizeLine := by decide
        omega
      · rw [upd_ne (fun z => by rw [z, hD] at h; cases h)]
        exact k3 _ _ (k2 _ _ (s1 _ _ h))
      · rw [upd_same, List.map_append]
        rfl
      · rw [List.map_append, e2, List.take_succ, hm, List.map_append]
        rfl
      · rcases List.mem_append.mp hy with z | z
        · refine ⟨key_keep (fun a xs t => sqT_put (k3 _ _ dD) (sqT_of k3 (sqT_of k2 t))) _ _ (e3 y z).1, (e3 y z).2⟩
        · rw [List.mem_singleton.mp z]
          refine ⟨?_, ckey_depth vals r⟩
          show Dp K _ (.ref p) (ckey vals r).data
          have en : (ckey vals r).data = .tuple [.int r.after, .tuple (NestedKey.datas ((at_ vals r.ns).map .num))] := by simp [ckey, NestedKey.data, NestedKey.datas]
          rw [en]
          refine .tup (SqT.of (by rw [upd_ne nD, upd_same])) (.cons (.int _) (.cons (.tup (sqT_put (k3 _ _ dD) (sqT_of k3 hrr)) (nums_dp _)) .nil))
  · rintro H' ⟨s1, ks, e1, e2, e3⟩
    have e : (rows.map fun r => V.ref r.pr).length = rows.length := List.length_map ..
    rw [e, List.take_length] at e2
    exact q H' D ks s1 e1 e2 e3
/-- listed_crashes: a new list of them, in the order of the spec -/
def spLCrash (K : PySem.W.Frag) : Sp := fun us H Q _ => ∃ (sp cf va cr rw : Addr) (m : Nat) (x0 x1 x2 : V) (crs : List V) (vals : List Int) (rows : List CRow), us = [.ref sp, .ref cf] ∧ SqT K H sp [x0, x1, x2, .ref cr] ∧ SqT K H cf [.int m, .ref va] ∧ SqT K H va (vals.map V.int) ∧
  SqT K H cr crs ∧ crs[m]? = some (.ref rw) ∧ SqT K H rw (rows.map fun r => V.ref r.pr) ∧ (∀ r ∈ rows, RowAt K H vals.length r) ∧ rows.length < 64 ∧
  ∀ H' D (ks : List (Addr × NestedKey)), Same H H' → H' D = some (.lst (ks.map fun p => V.ref p.1)) → ks.map (·.2) = rows.map (ckey vals) → KeysAt K H' ks → Q (.ref D) H'
theorem peAs {X : Cx} {e : Expr} (t : TE) (h : PE X e t) : PE X e t := h
theorem ok_lcrash {f fP : Addr} {fd fdP : FuncData} (F : Fun K "listed_crashes" "listed_crashes" sLCrash f fd) (FP : Fun K "_picked" "_picked" sPicked fP fdP) (bP : Binds K fdP ["values", "references"] []) (gP : mg "_picked" = some (.ref fP)) (mt : mg "tuple" = none) :
    FnOk P w K mg base CX0 2 f fd ["spec", "config"] (spLCrash K) := by
  have GP : FnOk P w K mg base CX0 1 fP fdP ["values", "references"] (spPicked K) := ok_picked FP mt
  refine F.ok scLCrash (fun us H Q E h => ?_) (fun cdv A outer s H us Q E hr h => ?_)
  · obtain ⟨sp, cf, va, cr, rw, m, x0, x1, x2, crs, vals, rows, rfl, _⟩ := h
    rfl
  · obtain ⟨sp, cf, va, cr, rw, m, x0, x1, x2, crs, vals, rows, rfl, h0, h1, h2, h3, h4, h5, h6, h7, q⟩ := h
    refine ⟨_, pss_cons (ps_asg (pv 1) (pg_tup rfl (pgs_cons (pg_name (i := 2) scLCrash.nd rfl (.inl rfl)) (pgs_cons (pg_name (i := 3) scLCrash.nd rfl (.inr rfl)) pgs_nil))))
      (pss_one (ps_ret (peAs (tRes K) (pe_lc (own := [("after", 4), ("kept", 5)]) (g := gTup K 2 (gCons (gName 4) (gCons (gName 5) gNil))) (tt := tYes) (te := tTup (tCons (tVar 4) (tCons (tCall (spPicked K) [] (fun _ _ _ => False) (tCons (tVar 3) (tCons (tVar 5) tNil))) tNil))) rfl scLCrash.nd
        (pi_tup (pe_ix ix_tup (pe_ix ix_tup (pv 0) pe_int (fun _ _ => rfl)) (pv 2) (fun _ _ => rfl))) (blkOk_by (N := NC) (sc := defScope sLCrash) (by decide +kernel))
        (fun _ _ _ _ _ => pg_tup rfl (pgs_cons (pg_name (i := 4) scLCrash.nd rfl (.inl rfl)) (pgs_cons (pg_name (i := 5) scLCrash.nd rfl (.inl rfl)) pgs_nil))) (fun _ _ _ _ _ => pts_nil)
        (fun _ _ _ _ _ => pe_tup (pa_cons (pv 4) (pa_cons (pe_call GP hr (by rfl) gP FP.kp bP .nil pass0 (pa_cons (pv 3) (pa_cons (pv 5) pa_nil))) pa_nil))))))), ?_⟩
    refine ⟨_, rfl, cf, _, rfl, h1, rfl, _, _, rfl, _, _, rfl, rfl, ?_⟩
    dsimp only [tRet]
    change tRes K [some (.ref sp), some (.ref cf), some (.int m), some (.ref va), none, none] H _
    exact res_ok h0 h2 h3 h4 h5 h6 h7 q
theorem scCrash : FnScope ["spec", "config"] ["spec", "config"] (defScope sCrash) := ⟨rfl, rfl, rfl, by decide +kernel, rfl, by decide +kernel, by decide +kernel⟩
theorem ok_crash {f fP fL : Addr} {fd fdP fdL : FuncData} (F : Fun K "crash_results" "crash_results" sCrash f fd) (FL : Fun K "listed_crashes" "listed_crashes" sLCrash fL fdL) (bL : Binds K fdL ["spec", "config"] []) (gL : mg "listed_crashes" = some (.ref fL))
    (FP : Fun K "_picked" "_picked" sPicked fP fdP) (bP : Binds K fdP ["values", "references"] []) (gP : mg "_picked" = some (.ref fP)) (mt : mg "tuple" = none) (ms : mg "set" = none) (mo : mg "sorted" = none) :
    FnOk P w K mg base CX0 3 f fd ["spec", "config"] (spCrash K) := by
  have GL : FnOk P w K mg base CX0 2 fL fdL ["spec", "config"] (spLCrash K) := ok_lcrash FL FP bP gP mt
  refine F.ok scCrash (fun us H Q E h => ?_) (fun cdv A outer s H us Q E hr h => ?_)
  · obtain ⟨sp, cf, va, cr, rw, m, x0, x1, x2, crs, vals, rows, rfl, _⟩ := h
    rfl
  · obtain ⟨sp, cf, va, cr, rw, m, x0, x1, x2, crs, vals, rows, rfl, h0, h1, h2, h3, h4, h5, h6, h7, q⟩ := h
    have hu : (cxOf CX0 P w K mg base ["spec", "config"] "crash_results" (defScope sCrash) f cdv A outer s H E).nox.A.units + 64 < cLine := hr.units
    refine ⟨_, pss_one (ps_ret (pe_callTy call_tuple_of (by rfl) mt (by decide +kernel) (pa_cons (pe_callB (cr_sortedN rfl hu) (by rfl) mo (by decide +kernel) (pa_cons (pe_callTy (cr_setOfN rfl hu) (by rfl) ms (by decide +kernel) (pa_cons (pe_call GL hr (by rfl) gL FL.kp bL .nil pass0 (pa_cons (pv 0) (pa_cons (pv 1) pa_nil))) pa_nil)) pa_nil)) pa_nil))), ?_⟩
    refine ⟨_, rfl, _, rfl, sp, cf, va, cr, rw, m, x0, x1, x2, crs, vals, rows, rfl, h0, h1, h2, h3, h4, h5, h6, h7, fun H1 D ks s1 e1 e2 e3 => ?_⟩
    have len : ks.length = rows.length := by
      have z := congrArg List.length e2
      rwa [List.length_map, List.length_map] at z
    have key : ∀ y ∈ ks, ∃ r ∈ rows, y.2 = ckey vals r := fun y hy => by
      have z : y.2 ∈ rows.map (ckey vals) := by
        rw [← e2]
        exact List.mem_map.mpr ⟨y, hy, rfl⟩
      obtain ⟨r, hr, er⟩ := List.mem_map.mp z
      exact ⟨r, hr, er.symm⟩
    refine set_sorted_tuple (ks := ks) (SqL.of e1) e3 (by rw [len]; exact h7) (fun a ha b hb => ?_) (fun a ha => ?_) fun H2 r L2 s2 m2 sub t2 => ?_
    · obtain ⟨r1, _, er⟩ := key a ha
      obtain ⟨r2, _, er2⟩ := key b hb
      rw [er, er2]
      exact ckey_alike _ _ _ _
    · obtain ⟨r1, _, er⟩ := key a ha
      rw [er]
      exact ckey_ne _ _
    · rw [e2] at m2
      exact q H2 r L2 (s1.trans s2) m2 (fun p hp => (e3.same s2) p (sub p hp)) t2
end
end Eh
set_option Elab.async false
set_option linter.all false
set_option maxRecDepth 100000
set_option maxHeartbeats 8000000
/-! k04: operation_index. -/
namespace Eh
open PySem PySem.Spec PyProof.Rows L2 NS
structure ORow where
  ad : Addr
  name : Str
  ar : Int
section
variable {P : Program} {w : World} {K : PySem.W.Frag} {mg : Str → Option Value} {base : Heap}
theorem scIndex : FnScope ["spec", "op", "operation"] ["spec", "op"] (defScope sIndex) := ⟨rfl, rfl, rfl, by decide +kernel, rfl, by decide +kernel, by decide +kernel⟩
def spIndex (K : PySem.W.Frag) : Sp := fun us H Q _ => ∃ (sp os : Addr) (x0 x2 x3 : V) (op : Str) (ops : List ORow) (j : Nat), us = [.ref sp, .str op] ∧ SqT K H sp [x0, .ref os, x2, x3] ∧ SqT K H os (ops.map fun o => V.ref o.ad) ∧ (∀ o ∈ ops, SqT K H o.ad [.str o.name, .int o.ar]) ∧ ops.length < 64 ∧
  (ops.map (·.name))[j]? = some op ∧ (∀ i, i < j → (ops.map (·.name))[i]? ≠ some op) ∧ (∀ o ∈ ops, PyData.strOk o.name = true) ∧ ∀ H', Same H H' → Q (.int (j : Nat)) H'
theorem ok_index {f : Addr} {fd : FuncData} {k : Nat} (F : Fun K "operation_index" "operation_index" sIndex f fd) : FnOk P w K mg base CX0 (k + 1) f fd ["spec", "op"] (spIndex K) := by
  refine F.ok scIndex (fun us H Q E h => ?_) (fun cdv A outer s H us Q E hr h => ?_)
  · obtain ⟨sp, os, x0, x2, x3, op, ops, j, rfl, _⟩ := h
    rfl
  · obtain ⟨sp, os, x0, x2, x3, op, ops, j, rfl, h0, h1, h2, h3, h4, h5, h6, q⟩ := h
    have hu : (cxOf CX0 P w K mg base ["spec", "op", "operation"] "operation_index" (defScope sIndex) f cdv A outer s H E).nox.A.units + 65 < cLine := by
      have z := hr.un
      show (A.deeper _).units + 65 < cLine
      omega
    refine ⟨_, pss_one (ps_ret (pe_bm PySem.F.plainAttrs_list PySem.F.slot_list_index PySem.F.type_list_index (mt_indexD hu) (pe_lc (own := [("operation", 2)]) (g := gName 2) (tt := tYes) (te := tOp (rIxT K) (tVar 2) (tC (.int 0))) rfl scIndex.nd (pi_tup (pe_ix ix_tup (pv 0) pe_int (fun _ _ => rfl))) (blkOk_by (N := ["spec", "op", "operation"]) (sc := defScope sIndex) (by decide +kernel))
      (fun _ _ _ _ _ => pg_name (i := 2) scIndex.nd rfl (.inl rfl)) (fun _ _ _ _ _ => pts_nil) (fun _ _ _ _ _ => pe_ix ix_tup (pv 2) pe_int (fun _ _ => rfl))) (pa_cons (pv 1) pa_nil))), ?_⟩
    refine ⟨_, rfl, sp, _, 1, .ref os, rfl, rfl, h0, atI_nat (j := 1) rfl, os, rfl, ⟨_, h1⟩, fun D hD => ?_⟩
    refine lc_tup (K := K) (a := os) (xs := ops.map fun o => V.ref o.ad) (g := gName 2) (tt := tYes) (te := tOp (rIxT K) (tVar 2) (tC (.int 0))) (vs := [2]) (σ := [some (.ref sp), some (.str op), none]) (H1 := H) (D := D)
      (Qd := fun H' => tyV K "list" (.ref D) H' ∧ tCons (tVar 1) tNil [some (.ref sp), some (.str op), none] H' fun xs H2 => rIndexD K (.ref D) xs H2 Q)
      (fun n H' => Same H H' ∧ H' D = some (.lst ((ops.take n).map fun o => V.str o.name))) ⟨same_upd hD, upd_same⟩ (fun n H' _ z => sqT_of z.1 h1) ?_ ?_
    · rintro n x H' hx ⟨s1, e1⟩
      rw [List.getElem?_map] at hx
      cases hm : ops[n]? with
      | none => rw [hm] at hx; cases hx
      | some o =>
        rw [hm] at hx
        cases hx
        have hn := (List.getElem?_eq_some_iff.mp hm).1
        refine ⟨rfl, ?_⟩
        dsimp only [tYes]
        rw [if_pos rfl]
        refine ⟨_, rfl, o.ad, _, 0, .str o.name, rfl, rfl, sqT_of s1 (h2 o (List.mem_of_getElem? hm)), atI_nat (j := 0) rfl, _, e1, ?_, fun b u h => ?_, ?_⟩
        · rw [List.length_map, List.length_take]
          have h9 : 1000 ≤ sizeLine := by decide
          omega
        · rw [upd_ne (fun z => by rw [z, hD] at h; cases h)]
          exact s1 _ _ h
        · rw [upd_same, List.take_succ, hm, List.map_append]
          rfl
    · rintro H' ⟨s1, e1⟩
      have e : (ops.map fun o => V.ref o.ad).length = ops.length := List.length_map ..
      rw [e, List.take_length] at e1
      have allD : ∀ l : List ORow, DpAll K H' (l.map fun o => V.str o.name) (l.map fun o => PyData.str o.name) := by
        intro l
        induction l with
        | nil => exact .nil
        | cons o l ih => exact .cons (.str _) ih
      have lay : ∀ l : List ORow, (∀ o ∈ l, PyData.strOk o.name = true) → PyData.canLayAll0 (l.map fun o => PyData.str o.name) = true ∧ PyData.depthAll (l.map fun o => PyData.str o.name) = 0 := by
        intro l
        induction l with
        | nil => exact fun _ => ⟨by simp [PyData.canLayAll0], by simp [PyData.depthAll]⟩
        | cons o l ih =>
          intro h
          obtain ⟨a, b⟩ := ih fun o' ho' => h o' (List.mem_cons_of_mem _ ho')
          have c := h o List.mem_cons_self
          refine ⟨?_, ?_⟩
          · rw [List.map_cons, PyData.canLayAll0, PyData.canLay0, c, a]
            rfl
          · rw [List.map_cons, PyData.depthAll, PyData.depth, b]
            rfl
      obtain ⟨la, ld⟩ := lay ops h6
      have hop : PyData.strOk op = true := by
        obtain ⟨o, ho, e⟩ := List.mem_map.mp (List.mem_of_getElem? h4)
        rw [← e]
        exact h6 o ho
      have look : ∀ i : Nat, (ops.map fun o => PyData.str o.name)[i]? = ((ops.map (·.name))[i]?).map PyData.str := fun i => by
        rw [List.getElem?_map, List.getElem?_map]
        cases ops[i]? <;> rfl
      refine ⟨.inl ⟨rfl, _, SqL.of e1⟩, _, rfl, D, .str op, .str op, ops.map fun o => PyData.str o.name, j, .str op, rfl, rfl, .lst (SqL.of e1) (allD ops), .str op, ?_, ?_, ?_, ?_, fun i z hi hz => ?_, q H' s1⟩
      · simp [SeqAt.shaped, PyData.canLay0, PyData.depth, la, ld]
      · simp [SeqAt.shaped, PyData.canLay0, PyData.depth, hop]
      · rw [look, h4]
        rfl
      · simp [PyData.eqv]
      · rw [look] at hz
        cases hn : (ops.map (·.name))[i]? with
        | none => rw [hn] at hz; cases hz
        | some nm =>
          rw [hn] at hz
          cases hz
          have ne : nm ≠ op := fun z => h5 i hi (by rw [hn, z])
          simp [PyData.eqv, ne]
end
end Eh
set_option Elab.async false
set_option linter.all false
set_option maxRecDepth 100000
set_option maxHeartbeats 8000000
/-! k04: outcomes_at. -/
namespace Eh
open PySem PySem.Spec PyProof.Rows L2 NS
/-- an outcome of a case -/
structure ORw where
  pr : Addr
  reply : Str
  rs : Addr
  res : List Nat
  after : Int
  kp : Addr
  ns : List Nat
def okey (vals : List Int) (r : ORw) : NestedKey := .tup [.text r.reply, .tup ((at_ vals r.res).map .num), .tup [.num r.after, .tup ((at_ vals r.ns).map .num)]]
def OutAt (K : PySem.W.Frag) (H : Hp) (m : Nat) (r : ORw) : Prop := SqT K H r.pr [.str r.reply, .ref r.rs, .int r.after, .ref r.kp] ∧ (SqT K H r.rs (r.res.map fun n : Nat => V.int n) ∧ (∀ n ∈ r.res, n < m) ∧ r.res.length < 1000) ∧ SqT K H r.kp (r.ns.map fun n : Nat => V.int n) ∧ (∀ n ∈ r.ns, n < m) ∧ r.ns.length < 1000
theorem okey_depth (vals : List Int) (r : ORw) : (okey vals r).depth ≤ 8 := by
  simp [okey, NestedKey.depth, NestedKey.depthAll, nums_depth]
theorem okey_alike (vals vals' : List Int) (r r' : ORw) : PySem.W.alike (okey vals r).data (okey vals' r').data = true := by
  simp [okey, NestedKey.data, NestedKey.datas, PySem.W.alike, PySem.W.alikeAll, nums_alike]
theorem okey_ne (vals : List Int) (r : ORw) : ∃ x t, (okey vals r).data = .tuple (x :: t) := ⟨_, _, by simp only [okey, NestedKey.data, NestedKey.datas]; rfl⟩
section
variable {P : Program} {w : World} {K : PySem.W.Frag} {mg : Str → Option Value} {base : Heap}
abbrev NO : List Str := ["spec", "config", "op", "arguments", "mode", "values", "held", "case", "reply", "results", "after", "kept"]
theorem scOut : FnScope NO ["spec", "config", "op", "arguments"] (defScope sLOuts) := ⟨rfl, rfl, rfl, by decide +kernel, rfl, by decide +kernel, by decide +kernel⟩
def gO (K : PySem.W.Frag) : TG := gTup K 4 (gCons (gName 8) (gCons (gName 9) (gCons (gName 10) (gCons (gName 11) gNil))))
def tPk (K : PySem.W.Frag) (i : Nat) : TE := tCall (spPicked K) [] (fun _ _ _ => False) (tCons (tVar 6) (tCons (tVar i) tNil))
def eO (K : PySem.W.Frag) : TE := tTup (tCons (tVar 8) (tCons (tPk K 9) (tCons (tTup (tCons (tVar 10) (tCons (tPk K 11) tNil))) tNil)))
def tOut (K : PySem.W.Frag) : TE := tLc (iTup K (tVar 7)) (gO K) tYes (eO K) [8, 9, 10, 11]
theorem out_ok {H : Hp} {hd cw : Addr} {σ : L2.St} {v0 v1 v2 v3 v4 v5 : Option V} {vals : List Int} {rows : List ORw} {Q : VK} (h2 : SqT K H hd (vals.map V.int)) (h5 : SqT K H cw (rows.map fun r => V.ref r.pr)) (h6 : ∀ r ∈ rows, OutAt K H vals.length r) (h7 : rows.length < 64)
    (hσ : σ = [v0, v1, v2, v3, v4, v5, some (.ref hd), some (.ref cw), none, none, none, none])
    (q : ∀ H' D (ks : List (Addr × NestedKey)), Same H H' → H' D = some (.lst (ks.map fun p => V.ref p.1)) → ks.map (·.2) = rows.map (okey vals) → KeysAt K H' ks → Q (.ref D) H') : tOut K σ H Q := by
  subst hσ
  refine ⟨_, rfl, cw, rfl, ⟨_, h5⟩, fun D hD => ?_⟩
  refine lc_tup (K := K) (a := cw) (xs := rows.map fun r => V.ref r.pr) (g := gO K) (tt := tYes) (te := eO K) (vs := [8, 9, 10, 11])
    (σ := [v0, v1, v2, v3, v4, v5, some (.ref hd), some (.ref cw), none, none, none, none]) (H1 := H) (D := D) (Qd := fun H' => Q (.ref D) H')
    (fun n H' => Same H H' ∧ ∃ ks : List (Addr × NestedKey), H' D = some (.lst (ks.map fun p => V.ref p.1)) ∧ ks.map (·.2) = (rows.take n).map (okey vals) ∧ KeysAt K H' ks) ⟨same_upd hD, [], upd_same, rfl, fun p hp => (by cases hp)⟩ (fun n H' _ z => sqT_of z.1 h5) ?_ ?_
  · rintro n x H' hx ⟨s1, ks, e1, e2, e3⟩
    rw [List.getElem?_map] at hx
    cases hm : rows[n]? with
    | none => rw [hm] at hx; cases hx
    | some r =>
      rw [hm] at hx
      cases hx
      obtain ⟨r1, ⟨r2, r3, r4⟩, r5, r6, r7⟩ := h6 r (List.mem_of_getElem? hm)
      have hn := (List.getElem?_eq_some_iff.mp hm).1
      refine ⟨r.pr, _, rfl, sqT_of s1 r1, rfl, _, _, rfl, _, _, rfl, _, _, rfl, _, _, rfl, rfl, rfl, ?_⟩
      dsimp only [tYes]
      rw [if_pos rfl]
      refine ⟨_, rfl, _, rfl, _, rfl, hd, r.rs, vals, r.res, rfl, sqT_of s1 h2, sqT_of s1 r2, r3, r4, fun H2 ra k2 hra => ?_⟩
      have s2 := s1.trans k2
      refine ⟨_, rfl, _, rfl, _, rfl, hd, r.kp, vals, r.ns, rfl, sqT_of s2 h2, sqT_of s2 r5, r6, r7, fun H3 rb k3 hrb => ⟨by show 2 ≤ sizeLine; decide, fun c nc => ⟨by show 3 ≤ sizeLine; decide, fun p np => ?_⟩⟩⟩
      have k4 : Same H3 (upd H3 c (.tup [.int r.after, .ref rb])) := same_upd nc
      have l4 : (upd H3 c (.tup [.int r.after, .ref rb])) c = some (.tup [.int r.after, .ref rb]) := upd_same
      generalize upd H3 c (.tup [.int r.after, .ref rb]) = H4 at k4 l4 np ⊢
      have k5 : Same H4 (upd H4 p (.tup [.str r.reply, .ref ra, .ref c])) := same_upd np
      have l5 : (upd H4 p (.tup [.str r.reply, .ref ra, .ref c])) p = some (.tup [.str r.reply, .ref ra, .ref c]) := upd_same
      have dD : (upd H4 p (.tup [.str r.reply, .ref ra, .ref c])) D = some (.lst (ks.map fun p => V.ref p.1)) := k5 _ _ (k4 _ _ (k3 _ _ (k2 _ _ e1)))
      generalize upd H4 p (.tup [.str r.reply, .ref ra, .ref c]) = H5 at k5 l5 dD ⊢
      have lk : ks.length = n := by
        have z := congrArg List.length e2
        rw [List.length_map, List.length_map, List.length_take] at z
        omega
      have up : ∀ a xs, SqT K H5 a xs → SqT K (upd H5 D (.lst ((ks.map fun p => V.ref p.1) ++ [.ref p]))) a xs := fun a xs t => sqT_put dD t
      refine ⟨_, dD, ?_, fun b o h => ?_, ks ++ [(p, okey vals r)], ?_, ?_, fun y hy => ?_⟩
      · rw [List.length_map, lk]
        have h9 : 1000 ≤ sizeLine := by decide
        omega
      · rw [upd_ne (fun z => by rw [z, hD] at h; cases h)]
        exact k5 _ _ (k4 _ _ (k3 _ _ (k2 _ _ (s1 _ _ h))))
      · rw [upd_same, List.map_append]
        rfl
      · rw [List.map_append, e2, List.take_succ, hm, List.map_append]
        rfl
      · rcases List.mem_append.mp hy with z | z
        · exact ⟨key_keep (fun a xs t => up a xs (sqT_of k5 (sqT_of k4 (sqT_of k3 (sqT_of k2 t))))) _ _ (e3 y z).1, (e3 y z).2⟩
        · rw [List.mem_singleton.mp z]
          refine ⟨?_, okey_depth vals r⟩
          show Dp K _ (.ref p) (okey vals r).data
          have en : (okey vals r).data = .tuple [.str r.reply, .tuple (NestedKey.datas ((at_ vals r.res).map .num)), .tuple [.int r.after, .tuple (NestedKey.datas ((at_ vals r.ns).map .num))]] := by simp [okey, NestedKey.data, NestedKey.datas]
          rw [en]
          exact .tup (up _ _ (SqT.of l5)) (.cons (.str _) (.cons (.tup (up _ _ (sqT_of k5 (sqT_of k4 (sqT_of k3 hra)))) (nums_dp _)) (.cons (.tup (up _ _ (sqT_of k5 (SqT.of l4))) (.cons (.int _) (.cons (.tup (up _ _ (sqT_of k5 (sqT_of k4 hrb))) (nums_dp _)) .nil))) .nil)))
  · rintro H' ⟨s1, ks, e1, e2, e3⟩
    have e : (rows.map fun r => V.ref r.pr).length = rows.length := List.length_map ..
    rw [e, List.take_length] at e2
    exact q H' D ks s1 e1 e2 e3
end
end Eh
set_option Elab.async false
set_option linter.all false
set_option maxRecDepth 100000
set_option maxHeartbeats 8000000
/-! k04: outcomes_at, the def. -/
namespace Eh
open PySem PySem.Spec PyProof.Rows L2 NS
section
variable {P : Program} {w : World} {K : PySem.W.Frag} {mg : Str → Option Value} {base : Heap}
theorem catA_ok {H : Hp} {va ag : Addr} {vals args : List Int} {Q : VK} (h1 : SqT K H va (vals.map V.int)) (h2 : SqT K H ag (args.map V.int)) (hz : vals.length + args.length < 1000) (q : ∀ H' hd, Same H H' → SqT K H' hd ((vals ++ args).map V.int) → Q (.ref hd) H') : rCatA K (.ref va) (.ref ag) H Q := by
  refine ⟨va, ag, _, _, rfl, rfl, h1, h2, ?_, fun e => ?_, fun _ e => ?_, fun _ _ p np => ?_⟩
  · rw [List.length_map, List.length_map]
    have h9 : 1000 ≤ sizeLine := by decide
    omega
  · refine q H ag (Same.refl _) ?_
    rw [List.map_append, e, List.nil_append]
    exact h2
  · refine q H va (Same.refl _) ?_
    rw [List.map_append, e, List.append_nil]
    exact h1
  · refine q _ p (same_upd np) ?_
    rw [List.map_append]
    exact SqT.of upd_same
def spLOut (K : PySem.W.Frag) : Sp := fun us H Q _ => ∃ (sp cf ag va os cs ms cw : Addr) (m j : Nat) (x0 x3 : V) (css mss : List V) (op : Str) (ops : List ORow) (vals args : List Int) (rows : List ORw), us = [.ref sp, .ref cf, .str op, .ref ag] ∧ SqT K H sp [x0, .ref os, .ref cs, x3] ∧
  SqT K H cf [.int m, .ref va] ∧ SqT K H va (vals.map V.int) ∧ SqT K H ag (args.map V.int) ∧ vals.length + args.length < 1000 ∧
  (SqT K H os (ops.map fun o => V.ref o.ad) ∧ (∀ o ∈ ops, SqT K H o.ad [.str o.name, .int o.ar]) ∧ ops.length < 64 ∧ (ops.map (·.name))[j]? = some op ∧ (∀ i, i < j → (ops.map (·.name))[i]? ≠ some op) ∧ (∀ o ∈ ops, PyData.strOk o.name = true)) ∧
  SqT K H cs css ∧ css[m]? = some (.ref ms) ∧ SqT K H ms mss ∧ mss[j]? = some (.ref cw) ∧ SqT K H cw (rows.map fun r => V.ref r.pr) ∧ (∀ r ∈ rows, OutAt K H (vals ++ args).length r) ∧ rows.length < 64 ∧
  ∀ H' D (ks : List (Addr × NestedKey)), Same H H' → H' D = some (.lst (ks.map fun p => V.ref p.1)) → ks.map (·.2) = rows.map (okey (vals ++ args)) → KeysAt K H' ks → Q (.ref D) H'
def spOut (K : PySem.W.Frag) : Sp := fun us H Q _ => ∃ (sp cf ag va os cs ms cw : Addr) (m j : Nat) (x0 x3 : V) (css mss : List V) (op : Str) (ops : List ORow) (vals args : List Int) (rows : List ORw), us = [.ref sp, .ref cf, .str op, .ref ag] ∧ SqT K H sp [x0, .ref os, .ref cs, x3] ∧
  SqT K H cf [.int m, .ref va] ∧ SqT K H va (vals.map V.int) ∧ SqT K H ag (args.map V.int) ∧ vals.length + args.length < 1000 ∧
  (SqT K H os (ops.map fun o => V.ref o.ad) ∧ (∀ o ∈ ops, SqT K H o.ad [.str o.name, .int o.ar]) ∧ ops.length < 64 ∧ (ops.map (·.name))[j]? = some op ∧ (∀ i, i < j → (ops.map (·.name))[i]? ≠ some op) ∧ (∀ o ∈ ops, PyData.strOk o.name = true)) ∧
  SqT K H cs css ∧ css[m]? = some (.ref ms) ∧ SqT K H ms mss ∧ mss[j]? = some (.ref cw) ∧ SqT K H cw (rows.map fun r => V.ref r.pr) ∧ (∀ r ∈ rows, OutAt K H (vals ++ args).length r) ∧ rows.length < 64 ∧
  ∀ H' r (L2 : List (Addr × NestedKey)), Same H H' → L2.map (·.2) = canon (rows.map (okey (vals ++ args))) → KeysAt K H' L2 → SqT K H' r (L2.map fun p => V.ref p.1) → Q (.ref r) H'
theorem ok_lout {f fP fI : Addr} {fd fdP fdI : FuncData} (F : Fun K "listed_outcomes" "listed_outcomes" sLOuts f fd) (FP : Fun K "_picked" "_picked" sPicked fP fdP) (bP : Binds K fdP ["values", "references"] []) (gP : mg "_picked" = some (.ref fP))
    (FI : Fun K "operation_index" "operation_index" sIndex fI fdI) (bI : Binds K fdI ["spec", "op"] []) (gI : mg "operation_index" = some (.ref fI)) (mt : mg "tuple" = none) :
    FnOk P w K mg base CX0 2 f fd ["spec", "config", "op", "arguments"] (spLOut K) := by
  have GP : FnOk P w K mg base CX0 1 fP fdP ["values", "references"] (spPicked K) := ok_picked FP mt
  have GI : FnOk P w K mg base CX0 1 fI fdI ["spec", "op"] (spIndex K) := ok_index FI
  refine F.ok scOut (fun us H Q E h => ?_) (fun cdv A outer s H us Q E hr h => ?_)
  · obtain ⟨sp, cf, ag, va, os, cs, ms, cw, m, j, x0, x3, css, mss, op, ops, vals, args, rows, rfl, _⟩ := h
    rfl
  · obtain ⟨sp, cf, ag, va, os, cs, msA, cw, m, j, x0, x3, css, mss, op, ops, vals, args, rows, rfl, h0, h1, h2, h3, hz, ⟨o1, o2, o3, o4, o5, o6⟩, c1, c2, c3, c4, c5, c6, c7, q⟩ := h
    refine ⟨_, pss_cons (ps_asg (pv 1) (pg_tup rfl (pgs_cons (pg_name (i := 4) scOut.nd rfl (.inl rfl)) (pgs_cons (pg_name (i := 5) scOut.nd rfl (.inl rfl)) pgs_nil))))
      (pss_cons (ps_set (i := 6) scOut.nd rfl (.inr rfl) (pe_op op_catA (pv 5) (pv 3)))
      (pss_cons (ps_set (i := 7) scOut.nd rfl (.inl rfl) (pe_ix ix_tup (pe_ix ix_tup (pe_ix ix_tup (pv 0) pe_int (fun _ _ => rfl)) (pv 4) (fun _ _ => rfl)) (pe_call GI hr (by rfl) gI FI.kp bI .nil pass0 (pa_cons (pv 0) (pa_cons (pv 2) pa_nil))) (fun _ _ => rfl)))
      (pss_one (ps_ret (peAs (tOut K) (pe_lc (own := [("reply", 8), ("results", 9), ("after", 10), ("kept", 11)]) (g := gO K) (tt := tYes) (te := eO K) rfl scOut.nd (pi_tup (pv 7)) (blkOk_by (N := NO) (sc := defScope sLOuts) (by decide +kernel))
        (fun _ _ _ _ _ => pg_tup rfl (pgs_cons (pg_name (i := 8) scOut.nd rfl (.inl rfl)) (pgs_cons (pg_name (i := 9) scOut.nd rfl (.inl rfl)) (pgs_cons (pg_name (i := 10) scOut.nd rfl (.inl rfl)) (pgs_cons (pg_name (i := 11) scOut.nd rfl (.inl rfl)) pgs_nil))))) (fun _ _ _ _ _ => pts_nil)
        (fun _ _ _ _ _ => pe_tup (pa_cons (pv 8) (pa_cons (pe_call GP hr (by rfl) gP FP.kp bP .nil pass0 (pa_cons (pv 6) (pa_cons (pv 9) pa_nil))) (pa_cons (pe_tup (pa_cons (pv 10) (pa_cons (pe_call GP hr (by rfl) gP FP.kp bP .nil pass0 (pa_cons (pv 6) (pa_cons (pv 11) pa_nil))) pa_nil))) pa_nil)))))))))), ?_⟩
    refine ⟨_, rfl, cf, _, rfl, h1, rfl, _, _, rfl, _, _, rfl, rfl, ?_⟩
    refine ⟨_, rfl, _, rfl, catA_ok h2 h3 hz fun H1 hd s1 hh => ?_⟩
    refine ⟨_, rfl, sp, _, 2, .ref cs, rfl, rfl, sqT_of s1 h0, atI_nat (j := 2) rfl, _, rfl, cs, css, m, .ref msA, rfl, rfl, sqT_of s1 c1, atI_nat c2, ?_⟩
    refine ⟨_, rfl, _, rfl, sp, os, x0, .ref cs, x3, op, ops, j, rfl, sqT_of s1 h0, sqT_of s1 o1, fun o ho => sqT_of s1 (o2 o ho), o3, o4, o5, o6, fun H2 s2 => ?_⟩
    have k2 := s1.trans s2
    refine ⟨msA, mss, j, .ref cw, rfl, rfl, sqT_of k2 c3, atI_nat c4, ?_⟩
    dsimp only [tRet]
    change tOut K [some (.ref sp), some (.ref cf), some (.str op), some (.ref ag), some (.int m), some (.ref va), some (.ref hd), some (.ref cw), none, none, none, none] H2 _
    refine out_ok (hd := hd) (cw := cw) (vals := vals ++ args) (rows := rows) (sqT_of s2 hh) (sqT_of k2 c5) (fun r hr' => ?_) c7 rfl fun H3 D ks s3 e1 e2 e3 => ?_
    · obtain ⟨r1, ⟨r2, r3, r4⟩, r5, r6, r7⟩ := c6 r hr'
      exact ⟨sqT_of k2 r1, ⟨sqT_of k2 r2, r3, r4⟩, sqT_of k2 r5, r6, r7⟩
    exact q H3 D ks (k2.trans s3) e1 e2 e3
theorem scOuts : FnScope ["spec", "config", "op", "arguments"] ["spec", "config", "op", "arguments"] (defScope sOuts) := ⟨rfl, rfl, rfl, by decide +kernel, rfl, by decide +kernel, by decide +kernel⟩
theorem ok_out {f fL fP fI : Addr} {fd fdL fdP fdI : FuncData} (F : Fun K "outcomes_at" "outcomes_at" sOuts f fd) (FL : Fun K "listed_outcomes" "listed_outcomes" sLOuts fL fdL) (bL : Binds K fdL ["spec", "config", "op", "arguments"] []) (gL : mg "listed_outcomes" = some (.ref fL))
    (FP : Fun K "_picked" "_picked" sPicked fP fdP) (bP : Binds K fdP ["values", "references"] []) (gP : mg "_picked" = some (.ref fP))
    (FI : Fun K "operation_index" "operation_index" sIndex fI fdI) (bI : Binds K fdI ["spec", "op"] []) (gI : mg "operation_index" = some (.ref fI)) (mt : mg "tuple" = none) (ms : mg "set" = none) (mo : mg "sorted" = none) :
    FnOk P w K mg base CX0 3 f fd ["spec", "config", "op", "arguments"] (spOut K) := by
  have GL : FnOk P w K mg base CX0 2 fL fdL ["spec", "config", "op", "arguments"] (spLOut K) := ok_lout FL FP bP gP FI bI gI mt
  refine F.ok scOuts (fun us H Q E h => ?_) (fun cdv A outer s H us Q E hr h => ?_)
  · obtain ⟨sp, cf, ag, va, os, cs, ms, cw, m, j, x0, x3, css, mss, op, ops, vals, args, rows, rfl, _⟩ := h
    rfl
  · obtain ⟨sp, cf, ag, va, os, cs, msA, cw, m, j, x0, x3, css, mss, op, ops, vals, args, rows, rfl, h0, h1, h2, h3, hz, ho, c1, c2, c3, c4, c5, c6, c7, q⟩ := h
    have hu : (cxOf CX0 P w K mg base ["spec", "config", "op", "arguments"] "outcomes_at" (defScope sOuts) f cdv A outer s H E).nox.A.units + 64 < cLine := hr.units
    refine ⟨_, pss_one (ps_ret (pe_callTy call_tuple_of (by rfl) mt (by decide +kernel) (pa_cons (pe_callB (cr_sortedN rfl hu) (by rfl) mo (by decide +kernel) (pa_cons (pe_callTy (cr_setOfN rfl hu) (by rfl) ms (by decide +kernel) (pa_cons (pe_call GL hr (by rfl) gL FL.kp bL .nil pass0 (pa_cons (pv 0) (pa_cons (pv 1) (pa_cons (pv 2) (pa_cons (pv 3) pa_nil))))) pa_nil)) pa_nil)) pa_nil))), ?_⟩
    refine ⟨_, rfl, _, rfl, _, rfl, _, rfl, sp, cf, ag, va, os, cs, msA, cw, m, j, x0, x3, css, mss, op, ops, vals, args, rows, rfl, h0, h1, h2, h3, hz, ho, c1, c2, c3, c4, c5, c6, c7, fun H3 D ks s3 e1 e2 e3 => ?_⟩
    have len : ks.length = rows.length := by
      have z := congrArg List.length e2
      rwa [List.length_map, List.length_map] at z
    have key : ∀ y ∈ ks, ∃ r ∈ rows, y.2 = okey (vals ++ args) r := fun y hy => by
      have z : y.2 ∈ rows.map (okey (vals ++ args)) := by
        rw [← e2]
        exact List.mem_map.mpr ⟨y, hy, rfl⟩
      obtain ⟨r, hr, er⟩ := List.mem_map.mp z
      exact ⟨r, hr, er.symm⟩
    refine set_sorted_tuple (ks := ks) (SqL.of e1) e3 (by rw [len]; exact c7) (fun a ha b hb => ?_) (fun a ha => ?_) fun H4 r L2 s4 m2 sub t2 => ?_
    · obtain ⟨r1, _, er⟩ := key a ha
      obtain ⟨r2, _, er2⟩ := key b hb
      rw [er, er2]
      exact okey_alike _ _ _ _
    · obtain ⟨r1, _, er⟩ := key a ha
      rw [er]
      exact okey_ne _ _
    · rw [e2] at m2
      exact q H4 r L2 (s3.trans s4) m2 (fun p hp => (e3.same s4) p (sub p hp)) t2
end
end Eh
set_option Elab.async false
set_option linter.all false
set_option maxRecDepth 100000
set_option maxHeartbeats 4000000
/-! k04: the law's values. -/
namespace Eh
open PySem PySem.Spec PyProof.Rows L2
section
variable {P : Program} {w : World} {K : PySem.W.Frag} {mg : Str → Option Value} {base : Heap}
theorem scValues : FnScope ["_law_refs_here", "_law_held_here", "_law_ref"] ["_law_refs_here", "_law_held_here"] (defScope sValues) := ⟨rfl, rfl, rfl, by decide +kernel, rfl, by decide +kernel, by decide +kernel⟩
def spValues (K : PySem.W.Frag) : Sp := fun us H Q _ => ∃ (va rf : Addr) (vals : List Int) (ns : List Nat), us = [.ref rf, .ref va] ∧ SqT K H va (vals.map V.int) ∧ SqT K H rf (ns.map fun n : Nat => V.int n) ∧ (∀ n ∈ ns, n < vals.length) ∧ ns.length < 1000 ∧
  ∀ H' r, Same H H' → SqT K H' r ((at_ vals ns).map V.int) → Q (.ref r) H'
theorem ok_values {f : Addr} {fd : FuncData} {k : Nat} (F : Fun K "_law_values" "_law_values" sValues f fd) (mt : mg "tuple" = none) : FnOk P w K mg base CX0 (k + 1) f fd ["_law_refs_here", "_law_held_here"] (spValues K) := by
  refine F.ok scValues (fun us H Q E h => ?_) (fun cdv A outer s H us Q E hr h => ?_)
  · obtain ⟨va, rf, vals, ns, rfl, _⟩ := h
    rfl
  · obtain ⟨va, rf, vals, ns, rfl, hv, hn, hb, hz, q⟩ := h
    refine ⟨_, pss_one (ps_ret (pe_callTy call_tuple_of (by rfl) mt (by decide +kernel) (pa_cons (pe_lc (own := [("_law_ref", 2)]) (g := gName 2) (tt := tYes) (te := tOp (rIxT K) (tVar 1) (tVar 2)) rfl scValues.nd (pi_tup (pv 0)) (blkOk_by (N := ["_law_refs_here", "_law_held_here", "_law_ref"]) (sc := defScope sValues) (by decide +kernel))
      (fun _ _ _ _ _ => pg_name (i := 2) scValues.nd rfl (.inl rfl)) (fun _ _ _ _ _ => pts_nil) (fun _ _ _ _ _ => pe_ix ix_tup (pv 1) (pv 2) (fun _ _ => rfl))) pa_nil))), ?_⟩
    refine ⟨_, rfl, rf, rfl, ⟨_, hn⟩, fun D hD => ?_⟩
    have W := lc_tup (K := K) (a := rf) (xs := ns.map fun n : Nat => V.int n) (g := gName 2) (tt := tYes) (te := tOp (rIxT K) (tVar 1) (tVar 2)) (vs := [2]) (σ := [some (.ref rf), some (.ref va), none]) (H1 := H) (D := D)
      (Qd := fun H' => ∃ p ys, [V.ref D] = [.ref p] ∧ ((SqL K H' p ys ∧ ∀ l, H' l = none → Q (.ref l) (upd H' l (.tup ys))) ∨ (SqT K H' p ys ∧ Q (.ref p) H')))
      (fun n H' => Same H H' ∧ H' D = some (.lst ((at_ vals (ns.take n)).map V.int))) ⟨same_upd hD, upd_same⟩ (fun n H' _ z => sqT_of z.1 hn) ?_ ?_
    · exact W
    · rintro n x H' hx ⟨s1, e1⟩
      rw [List.getElem?_map] at hx
      cases hm : ns[n]? with
      | none => rw [hm] at hx; cases hx
      | some m =>
        rw [hm] at hx
        cases hx
        have hl := (List.getElem?_eq_some_iff.mp hm).1
        refine ⟨rfl, ?_⟩
        dsimp only [tYes]
        rw [if_pos rfl]
        refine ⟨_, rfl, _, rfl, va, _, _, _, rfl, rfl, sqT_of s1 hv, atI_get (hb m (List.mem_of_getElem? hm)), _, e1, ?_, fun b o h => ?_, ?_⟩
        · rw [List.length_map, at_, List.length_map, List.length_take]
          have h3 : 1000 ≤ sizeLine := by decide
          omega
        · rw [upd_ne (fun z => by rw [z, hD] at h; cases h)]
          exact s1 _ _ h
        · rw [upd_same, List.take_succ, hm, at_, at_]
          simp
    · rintro H' ⟨s1, e1⟩
      refine ⟨D, _, rfl, .inl ⟨SqL.of e1, fun r nr => q _ r (s1.trans (same_upd nr)) ?_⟩⟩
      have e : (ns.map fun n : Nat => V.int n).length = ns.length := List.length_map ..
      rw [e, List.take_length]
      exact SqT.of upd_same
end
end Eh
set_option Elab.async false
set_option linter.all false
set_option maxRecDepth 100000
set_option maxHeartbeats 8000000
/-! k04: the law's crash results. -/
namespace Eh
open PySem PySem.Spec PyProof.Rows L2 NS
section
variable {P : Program} {w : World} {K : PySem.W.Frag} {mg : Str → Option Value} {base : Heap}
abbrev NR : List Str := ["_law_machine", "_law_here", "_law_mode", "_law_kept"]
theorem scCrashed : FnScope NR ["_law_machine", "_law_here"] (defScope sCrashed) := ⟨rfl, rfl, rfl, by decide +kernel, rfl, by decide +kernel, by decide +kernel⟩
def eCr (K : PySem.W.Frag) : TE := tTup (tCons (tVar 2) (tCons (tCall (spValues K) [] (fun _ _ _ => False) (tCons (tVar 3) (tCons (tOp (rIxT K) (tVar 1) (tC (.int 1))) tNil))) tNil))
def tCr (K : PySem.W.Frag) : TE := tLc (iTup K (tOp (rIxT K) (tOp (rIxT K) (tVar 0) (tC (.int 3))) (tOp (rIxT K) (tVar 1) (tC (.int 0))))) (gTup K 2 (gCons (gName 2) (gCons (gName 3) gNil))) tYes (eCr K) [2, 3]
theorem cr_ok {H : Hp} {sp cf va cr rw : Addr} {m : Nat} {x0 x1 x2 : V} {crs : List V} {vals : List Int} {rows : List CRow} {Q : VK} (h0 : SqT K H sp [x0, x1, x2, .ref cr]) (h1 : SqT K H cf [.int m, .ref va]) (h2 : SqT K H va (vals.map V.int)) (h3 : SqT K H cr crs) (h4 : crs[m]? = some (.ref rw))
    (h5 : SqT K H rw (rows.map fun r => V.ref r.pr)) (h6 : ∀ r ∈ rows, RowAt K H vals.length r) (h7 : rows.length < 64)
    (q : ∀ H' D (ks : List (Addr × NestedKey)), Same H H' → H' D = some (.lst (ks.map fun p => V.ref p.1)) → ks.map (·.2) = rows.map (ckey vals) → KeysAt K H' ks → Q (.ref D) H') :
    tCr K [some (.ref sp), some (.ref cf), none, none] H Q := by
  refine ⟨_, rfl, sp, _, 3, .ref cr, rfl, rfl, h0, atI_nat (j := 3) rfl, _, rfl, cf, _, 0, .int m, rfl, rfl, h1, atI_nat (j := 0) rfl, cr, crs, m, .ref rw, rfl, rfl, h3, atI_nat h4, rw, rfl, ⟨_, h5⟩, fun D hD => ?_⟩
  refine lc_tup (K := K) (a := rw) (xs := rows.map fun r => V.ref r.pr) (g := gTup K 2 (gCons (gName 2) (gCons (gName 3) gNil))) (tt := tYes) (te := eCr K) (vs := [2, 3])
    (σ := [some (.ref sp), some (.ref cf), none, none]) (H1 := H) (D := D) (Qd := fun H' => Q (.ref D) H')
    (fun n H' => Same H H' ∧ ∃ ks : List (Addr × NestedKey), H' D = some (.lst (ks.map fun p => V.ref p.1)) ∧ ks.map (·.2) = (rows.take n).map (ckey vals) ∧ KeysAt K H' ks) ⟨same_upd hD, [], upd_same, rfl, fun p hp => (by cases hp)⟩ (fun n H' _ z => sqT_of z.1 h5) ?_ ?_
  · rintro n x H' hx ⟨s1, ks, e1, e2, e3⟩
    rw [List.getElem?_map] at hx
    cases hm : rows[n]? with
    | none => rw [hm] at hx; cases hx
    | some r =>
      rw [hm] at hx
      cases hx
      obtain ⟨r1, r2, r3, r4⟩ := h6 r (List.mem_of_getElem? hm)
      have hn := (List.getElem?_eq_some_iff.mp hm).1
      refine ⟨r.pr, _, rfl, sqT_of s1 r1, rfl, _, _, rfl, _, _, rfl, rfl, rfl, ?_⟩
      dsimp only [tYes]
      rw [if_pos rfl]
      refine ⟨_, rfl, _, rfl, _, rfl, cf, _, 1, .ref va, rfl, rfl, sqT_of s1 h1, atI_nat (j := 1) rfl, va, r.kp, vals, r.ns, rfl, sqT_of s1 h2, sqT_of s1 r2, r3, r4, fun H2 rr k2 hrr => ⟨by show 2 ≤ sizeLine; decide, fun p np => ?_⟩⟩
      have k3 : Same H2 (upd H2 p (.tup [.int r.after, .ref rr])) := same_upd np
      have dD : H2 D = some (.lst (ks.map fun p => V.ref p.1)) := k2 _ _ e1
      have nD : p ≠ D := fun z => by rw [z, dD] at np; cases np
      have lk : ks.length = n := by
        have z := congrArg List.length e2
        rw [List.length_map, List.length_map, List.length_take] at z
        omega
      refine ⟨_, k3 _ _ dD, ?_, fun b o h => ?_, ks ++ [(p, ckey vals r)], ?_, ?_, fun y hy => ?_⟩
      · rw [List.length_map, lk]
        have h9 : 1000 ≤ sizeLine := by decide
        omega
      · rw [upd_ne (fun z => by rw [z, hD] at h; cases h)]
        exact k3 _ _ (k2 _ _ (s1 _ _ h))
      · rw [upd_same, List.map_append]
        rfl
      · rw [List.map_append, e2, List.take_succ, hm, List.map_append]
        rfl
      · rcases List.mem_append.mp hy with z | z
        · refine ⟨key_keep (fun a xs t => sqT_put (k3 _ _ dD) (sqT_of k3 (sqT_of k2 t))) _ _ (e3 y z).1, (e3 y z).2⟩
        · rw [List.mem_singleton.mp z]
          refine ⟨?_, ckey_depth vals r⟩
          show Dp K _ (.ref p) (ckey vals r).data
          have en : (ckey vals r).data = .tuple [.int r.after, .tuple (NestedKey.datas ((at_ vals r.ns).map .num))] := by simp [ckey, NestedKey.data, NestedKey.datas]
          rw [en]
          refine .tup (SqT.of (by rw [upd_ne nD, upd_same])) (.cons (.int _) (.cons (.tup (sqT_put (k3 _ _ dD) (sqT_of k3 hrr)) (nums_dp _)) .nil))
  · rintro H' ⟨s1, ks, e1, e2, e3⟩
    have e : (rows.map fun r => V.ref r.pr).length = rows.length := List.length_map ..
    rw [e, List.take_length] at e2
    exact q H' D ks s1 e1 e2 e3
theorem ok_crashed {f fP : Addr} {fd fdP : FuncData} (F : Fun K "_law_crashed" "_law_crashed" sCrashed f fd) (FP : Fun K "_law_values" "_law_values" sValues fP fdP) (bP : Binds K fdP ["_law_refs_here", "_law_held_here"] []) (gP : mg "_law_values" = some (.ref fP)) (mt : mg "tuple" = none) (ms : mg "set" = none) (mo : mg "sorted" = none) :
    FnOk P w K mg base CX0 2 f fd ["_law_machine", "_law_here"] (spCrash K) := by
  have GP : FnOk P w K mg base CX0 1 fP fdP ["_law_refs_here", "_law_held_here"] (spValues K) := ok_values FP mt
  refine F.ok scCrashed (fun us H Q E h => ?_) (fun cdv A outer s H us Q E hr h => ?_)
  · obtain ⟨sp, cf, va, cr, rw, m, x0, x1, x2, crs, vals, rows, rfl, _⟩ := h
    rfl
  · obtain ⟨sp, cf, va, cr, rw, m, x0, x1, x2, crs, vals, rows, rfl, h0, h1, h2, h3, h4, h5, h6, h7, q⟩ := h
    have hu : (cxOf CX0 P w K mg base NR "_law_crashed" (defScope sCrashed) f cdv A outer s H E).nox.A.units + 64 < cLine := hr.units
    refine ⟨_, pss_one (ps_ret (pe_callTy call_tuple_of (by rfl) mt (by decide +kernel) (pa_cons (pe_callB (cr_sortedN rfl hu) (by rfl) mo (by decide +kernel) (pa_cons (pe_callTy (cr_setOfN rfl hu) (by rfl) ms (by decide +kernel) (pa_cons (peAs (tCr K) (pe_lc (own := [("_law_mode", 2), ("_law_kept", 3)]) (g := gTup K 2 (gCons (gName 2) (gCons (gName 3) gNil))) (tt := tYes) (te := eCr K) rfl scCrashed.nd
        (pi_tup (pe_ix ix_tup (pe_ix ix_tup (pv 0) pe_int (fun _ _ => rfl)) (pe_ix ix_tup (pv 1) pe_int (fun _ _ => rfl)) (fun _ _ => rfl))) (blkOk_by (N := NR) (sc := defScope sCrashed) (by decide +kernel))
        (fun _ _ _ _ _ => pg_tup rfl (pgs_cons (pg_name (i := 2) scCrashed.nd rfl (.inl rfl)) (pgs_cons (pg_name (i := 3) scCrashed.nd rfl (.inl rfl)) pgs_nil))) (fun _ _ _ _ _ => pts_nil)
        (fun _ _ _ _ _ => pe_tup (pa_cons (pv 2) (pa_cons (pe_call GP hr (by rfl) gP FP.kp bP .nil pass0 (pa_cons (pv 3) (pa_cons (pe_ix ix_tup (pv 1) pe_int (fun _ _ => rfl)) pa_nil))) pa_nil))))) pa_nil)) pa_nil)) pa_nil))), ?_⟩
    dsimp only [tRet, tCB, tCons, tNil, L2.start]
    change tCr K [some (.ref sp), some (.ref cf), none, none] H _
    refine cr_ok h0 h1 h2 h3 h4 h5 h6 h7 fun H1 D ks s1 e1 e2 e3 => ?_
    have len : ks.length = rows.length := by
      have z := congrArg List.length e2
      rwa [List.length_map, List.length_map] at z
    have key : ∀ y ∈ ks, ∃ r ∈ rows, y.2 = ckey vals r := fun y hy => by
      have z : y.2 ∈ rows.map (ckey vals) := by
        rw [← e2]
        exact List.mem_map.mpr ⟨y, hy, rfl⟩
      obtain ⟨r, hr, er⟩ := List.mem_map.mp z
      exact ⟨r, hr, er.symm⟩
    refine set_sorted_tuple (ks := ks) (SqL.of e1) e3 (by rw [len]; exact h7) (fun a ha b hb => ?_) (fun a ha => ?_) fun H2 r L2 s2 m2 sub t2 => ?_
    · obtain ⟨r1, _, er⟩ := key a ha
      obtain ⟨r2, _, er2⟩ := key b hb
      rw [er, er2]
      exact ckey_alike _ _ _ _
    · obtain ⟨r1, _, er⟩ := key a ha
      rw [er]
      exact ckey_ne _ _
    · rw [e2] at m2
      exact q H2 r L2 (s1.trans s2) m2 (fun p hp => (e3.same s2) p (sub p hp)) t2
end
end Eh
set_option Elab.async false
set_option linter.all false
set_option maxRecDepth 100000
set_option maxHeartbeats 4000000
/-! Keys at values; comprehensions that draw. -/
namespace Eh
open PySem PySem.Spec PyProof.Rows L2 NS
/-- all tuples are kept -/
def TK (K : PySem.W.Frag) (H H' : Hp) : Prop := ∀ a xs, SqT K H a xs → SqT K H' a xs
theorem TK.refl {K : PySem.W.Frag} {H : Hp} : TK K H H := fun _ _ h => h
theorem TK.trans {K : PySem.W.Frag} {H H1 H2 : Hp} (a : TK K H H1) (b : TK K H1 H2) : TK K H H2 := fun x xs h => b x xs (a x xs h)
theorem TK.same {K : PySem.W.Frag} {H H1 : Hp} (a : Same H H1) : TK K H H1 := fun _ _ h => sqT_of a h
theorem TK.put {K : PySem.W.Frag} {H : Hp} {D : Addr} {ys zs : List V} (h : H D = some (.lst ys)) : TK K H (upd H D (.lst zs)) := fun _ _ t => sqT_put h t
theorem TK.new {K : PySem.W.Frag} {H : Hp} {D : Addr} {o : HO} (h : H D = none) : TK K H (upd H D o) := .same (same_upd h)
theorem Deck.neL {H : Hp} {p c a : Addr} {m : Nat} {xs : List V} (d : Deck H p c m) (h : H a = some (.tup xs)) : a ≠ p ∧ a ≠ c := d.neT (.inl h)
theorem TK.kp {K : PySem.W.Frag} {H H1 : Hp} {p c : Addr} {m : Nat} (d : Deck H p c m) (a : Kp p c H H1) : TK K H H1 := fun x xs h => by
  rcases h with h | h
  · obtain ⟨n1, n2⟩ := d.neT h
    exact a.seqT n1 n2 (.inl h)
  · exact .inr h
theorem Deck.put {H : Hp} {p c D : Addr} {m : Nat} {o : HO} (d : Deck H p c m) (h1 : D ≠ p) (h2 : D ≠ c) : Deck (upd H D o) p c m := by
  obtain ⟨ns, st, k, e1, e2, r⟩ := d
  exact ⟨ns, st, k, by rw [upd_ne h1.symm]; exact e1, by rw [upd_ne h2.symm]; exact e2, r⟩
/-- the value's key -/
abbrev Ky (K : PySem.W.Frag) (H : Hp) (v : V) (k : NestedKey) : Prop := Dp K H v k.data
abbrev Kys (K : PySem.W.Frag) (H : Hp) (vs : List V) (ks : List NestedKey) : Prop := DpAll K H vs (NestedKey.datas ks)
theorem Ky.tk {K : PySem.W.Frag} {H H' : Hp} {v : V} {k : NestedKey} (h : Ky K H v k) (t : TK K H H') : Ky K H' v k := key_keep t k v h
theorem Kys.tk {K : PySem.W.Frag} {H H' : Hp} {vs : List V} {ks : List NestedKey} (h : Kys K H vs ks) (t : TK K H H') : Kys K H' vs ks := keys_keep t ks vs h
theorem Ky.num {K : PySem.W.Frag} {H : Hp} (i : Int) : Ky K H (.int i) (.num i) := by
  show Dp K H _ (NestedKey.num i).data
  rw [NestedKey.data]
  exact .int i
theorem Ky.text {K : PySem.W.Frag} {H : Hp} (i : Str) : Ky K H (.str i) (.text i) := by
  show Dp K H _ (NestedKey.text i).data
  rw [NestedKey.data]
  exact .str i
theorem Ky.num_inv {K : PySem.W.Frag} {H : Hp} {v : V} {i : Int} (h : Ky K H v (.num i)) : v = .int i := by
  have z : Dp K H v (NestedKey.num i).data := h
  rw [NestedKey.data] at z
  cases z
  rfl
theorem Ky.text_inv {K : PySem.W.Frag} {H : Hp} {v : V} {i : Str} (h : Ky K H v (.text i)) : v = .str i := by
  have z : Dp K H v (NestedKey.text i).data := h
  rw [NestedKey.data] at z
  cases z
  rfl
theorem Ky.tup {K : PySem.W.Frag} {H : Hp} {a : Addr} {vs : List V} {ks : List NestedKey} (h : SqT K H a vs) (e : Kys K H vs ks) : Ky K H (.ref a) (.tup ks) := by
  show Dp K H _ (NestedKey.tup ks).data
  rw [NestedKey.data]
  exact .tup h e
theorem Ky.tup_inv {K : PySem.W.Frag} {H : Hp} {v : V} {ks : List NestedKey} (h : Ky K H v (.tup ks)) : ∃ a vs, v = .ref a ∧ SqT K H a vs ∧ Kys K H vs ks := by
  have z : Dp K H v (NestedKey.tup ks).data := h
  rw [NestedKey.data] at z
  cases z with
  | tup a b => exact ⟨_, _, rfl, a, b⟩
theorem Kys.nil {K : PySem.W.Frag} {H : Hp} : Kys K H [] [] := by
  show DpAll K H [] (NestedKey.datas [])
  rw [NestedKey.datas]
  exact .nil
theorem Kys.cons {K : PySem.W.Frag} {H : Hp} {v : V} {vs : List V} {k : NestedKey} {ks : List NestedKey} (h : Ky K H v k) (e : Kys K H vs ks) : Kys K H (v :: vs) (k :: ks) := by
  show DpAll K H (v :: vs) (NestedKey.datas (k :: ks))
  rw [NestedKey.datas]
  exact .cons h e
theorem Kys.nil_inv {K : PySem.W.Frag} {H : Hp} {vs : List V} (h : Kys K H vs []) : vs = [] := by
  have z : DpAll K H vs (NestedKey.datas []) := h
  rw [NestedKey.datas] at z
  cases z
  rfl
theorem Kys.cons_inv {K : PySem.W.Frag} {H : Hp} {vs : List V} {k : NestedKey} {ks : List NestedKey} (h : Kys K H vs (k :: ks)) : ∃ v r, vs = v :: r ∧ Ky K H v k ∧ Kys K H r ks := by
  have z : DpAll K H vs (NestedKey.datas (k :: ks)) := h
  rw [NestedKey.datas] at z
  cases z with
  | cons a b => exact ⟨_, _, rfl, a, b⟩
theorem Kys.app {K : PySem.W.Frag} {H : Hp} : ∀ {vs us : List V} {ks ls : List NestedKey}, Kys K H vs ks → Kys K H us ls → Kys K H (vs ++ us) (ks ++ ls)
  | vs, us, [], ls, h, e => by
    rw [h.nil_inv]
    exact e
  | vs, us, k :: ks, ls, h, e => by
    obtain ⟨v, r, rfl, a, b⟩ := h.cons_inv
    exact .cons a (b.app e)
theorem Kys.one {K : PySem.W.Frag} {H : Hp} {v : V} {k : NestedKey} (h : Ky K H v k) : Kys K H [v] [k] := .cons h .nil
theorem Kys.length {K : PySem.W.Frag} {H : Hp} : ∀ {vs : List V} {ks : List NestedKey}, Kys K H vs ks → vs.length = ks.length
  | vs, [], h => by rw [h.nil_inv]; rfl
  | vs, k :: ks, h => by
    obtain ⟨v, r, rfl, a, b⟩ := h.cons_inv
    rw [List.length_cons, List.length_cons, b.length]
theorem Kys.get {K : PySem.W.Frag} {H : Hp} : ∀ {vs : List V} {ks : List NestedKey} {i : Nat} {k : NestedKey}, Kys K H vs ks → ks[i]? = some k → ∃ v, vs[i]? = some v ∧ Ky K H v k
  | vs, [], i, k, h, e => by cases e
  | vs, k' :: ks, 0, k, h, e => by
    obtain ⟨v, r, rfl, a, b⟩ := h.cons_inv
    cases e
    exact ⟨v, rfl, a⟩
  | vs, k' :: ks, i + 1, k, h, e => by
    obtain ⟨v, r, rfl, a, b⟩ := h.cons_inv
    exact b.get e
theorem Kys.at {K : PySem.W.Frag} {H : Hp} {vs : List V} {ks : List NestedKey} {i : Nat} {v : V} (h : Kys K H vs ks) (e : vs[i]? = some v) : ∃ k, ks[i]? = some k ∧ Ky K H v k := by
  have hi : i < ks.length := by rw [← h.length]; exact (List.getElem?_eq_some_iff.mp e).1
  obtain ⟨v', e', y⟩ := h.get (List.getElem?_eq_getElem hi)
  rw [e] at e'
  cases e'
  exact ⟨_, List.getElem?_eq_getElem hi, y⟩
theorem Kys.nums {K : PySem.W.Frag} {H : Hp} : ∀ ns : List Int, Kys K H (ns.map V.int) (ns.map .num)
  | [] => .nil
  | n :: r => .cons (.num n) (Kys.nums r)
theorem Kys.texts {K : PySem.W.Frag} {H : Hp} : ∀ ns : List Str, Kys K H (ns.map V.str) (ns.map .text)
  | [] => .nil
  | n :: r => .cons (.text n) (Kys.texts r)
theorem Kys.nums_inv {K : PySem.W.Frag} {H : Hp} : ∀ {ns : List Int} {vs : List V}, Kys K H vs (ns.map .num) → vs = ns.map V.int
  | [], vs, h => h.nil_inv
  | n :: r, vs, h => by
    obtain ⟨v, u, rfl, a, b⟩ := h.cons_inv
    rw [a.num_inv, Kys.nums_inv b]
    rfl
theorem Kys.texts_inv {K : PySem.W.Frag} {H : Hp} : ∀ {ns : List Str} {vs : List V}, Kys K H vs (ns.map .text) → vs = ns.map V.str
  | [], vs, h => h.nil_inv
  | n :: r, vs, h => by
    obtain ⟨v, u, rfl, a, b⟩ := h.cons_inv
    rw [a.text_inv, Kys.texts_inv b]
    rfl
theorem wipe1 {σ : L2.St} {j : Nat} {o : Option V} : wipe ((wipe σ [j]).set j o) [j] = wipe σ [j] := by
  show ((σ.set j none).set j o).set j none = σ.set j none
  rw [List.set_set, List.set_set]
/-- what a comprehension that draws has made so far -/
def Made (K : PySem.W.Frag) (p c D : Addr) (m d : Nat) (Pk : NestedKey → Prop) (H1 : Hp) (i : Nat) (H : Hp) : Prop := Kp p c H1 H ∧ Deck H p c (m + i * d) ∧ ∃ vs ks, H D = some (.lst vs) ∧ Kys K H vs ks ∧ ks.length = i ∧ ∀ k ∈ ks, Pk k
section
variable {K : PySem.W.Frag} {p c D : Addr} {m d : Nat} {Pk : NestedKey → Prop} {H1 : Hp}
theorem Made.start (dk : Deck H1 p c m) (hD : H1 D = none) : Made K p c D m d Pk H1 0 (upd H1 D (.lst [])) :=
  ⟨.of_same (same_upd hD), by rw [Nat.zero_mul]; exact dk.of_same (same_upd hD), [], [], upd_same, .nil, rfl, fun _ h => by cases h⟩
theorem Made.more {i : Nat} {H H4 : Hp} {y : V} {k : NestedKey} (h : Made K p c D m d Pk H1 i H) (hD : H1 D = none) (n1 : D ≠ p) (n2 : D ≠ c) (hi : i < 1000) (kp : Kp p c H H4) (dk : Deck H4 p c (m + (i + 1) * d)) (hy : Ky K H4 y k) (pk : Pk k) :
    ∃ acc, H4 D = some (.lst acc) ∧ acc.length < sizeLine ∧ Made K p c D m d Pk H1 (i + 1) (upd H4 D (.lst (acc ++ [y]))) := by
  obtain ⟨a1, a2, vs, ks, a3, a4, a5, a6⟩ := h
  have e4 : H4 D = some (.lst vs) := kp _ _ n1 n2 a3
  have tk : TK K H H4 := .kp a2 kp
  have tp : TK K H4 (upd H4 D (.lst (vs ++ [y]))) := .put e4
  refine ⟨vs, e4, ?_, fun b o b1 b2 e => ?_, dk.put n1 n2, vs ++ [y], ks ++ [k], upd_same, ?_, ?_, fun x hx => ?_⟩
  · rw [a4.length, a5]
    have h9 : 1000 ≤ sizeLine := by decide
    omega
  · rw [upd_ne (fun z => by rw [z, hD] at e; cases e)]
    exact kp _ _ b1 b2 (a1 _ _ b1 b2 e)
  · exact ((a4.tk tk).tk tp).app (.one (hy.tk tp))
  · rw [List.length_append, a5]
    rfl
  · rcases List.mem_append.mp hx with z | z
    · exact a6 x z
    · rw [List.mem_singleton.mp z]
      exact pk
/-- [e for x in range(..)], e draws d times -/
theorem cd_range {lo : Int} {n j : Nat} {te : TE} {σ : L2.St} {Qd : Hp → Prop} (dk : Deck H1 p c m) (hD : H1 D = none) (hn : n ≤ 1000)
    (step : ∀ i H (Q : VK), i < n → Kp p c H1 H → Deck H p c (m + i * d) → (∀ H' v k, Kp p c H H' → Deck H' p c (m + (i + 1) * d) → Ky K H' v k → Pk k → Q v H') → te ((wipe σ [j]).set j (some (.int (lo + i)))) H Q)
    (qd : ∀ H vs ks, Kp p c H1 H → Deck H p c (m + n * d) → H D = some (.lst vs) → Kys K H vs ks → ks.length = n → (∀ k ∈ ks, Pk k) → Qd H) :
    ∃ W : Nat → Nat → Hp → Prop, (∃ m, W 0 m (upd H1 D (.lst []))) ∧ ∀ i m H, W i m H →
      ((Itr lo n).stop i H ∧ Qd H) ∨ ((Itr lo n).go i H ∧ ∃ Nx : Hp → Prop, (∀ H', Nx H' → ∃ m', m' < m ∧ W (i + 1) m' H') ∧ ∀ x H', (Itr lo n).yld i H x H' → gName j x (wipe σ [j]) H' fun σ2 H2 => wipe σ2 [j] = wipe σ [j] ∧ tYes σ2 H2 fun b H3 =>
        if b = true then te σ2 H3 fun y H4 => ∃ acc, H4 D = some (.lst acc) ∧ acc.length < sizeLine ∧ Nx (upd H4 D (.lst (acc ++ [y]))) else Nx H3) := by
  obtain ⟨n1, n2⟩ := dk.nep hD
  refine lc_range (Made K p c D m d Pk H1) (.start dk hD) (fun i H hi M => ⟨wipe1, ?_⟩) fun H M => ?_
  · dsimp only [tYes]
    rw [if_pos rfl]
    exact step i H _ hi M.1 M.2.1 fun H' v k k1 k2 k3 k4 => M.more hD n1 n2 (by omega) k1 k2 k3 k4
  · obtain ⟨a1, a2, vs, ks, a3, a4, a5, a6⟩ := M
    exact qd H vs ks a1 a2 a3 a4 a5 a6
/-- [e for x in xs], e draws d times, xs a list -/
theorem cd_list {a : Addr} {xs : List V} {j : Nat} {te : TE} {σ : L2.St} {Qd : Hp → Prop} (dk : Deck H1 p c m) (hD : H1 D = none) (hn : xs.length ≤ 1000) (ha : SqL K H1 a xs) (np : a ≠ p) (nc : a ≠ c) (nD : a ≠ D)
    (step : ∀ i x H (Q : VK), xs[i]? = some x → Kp p c H1 H → Deck H p c (m + i * d) → (∀ H' v k, Kp p c H H' → Deck H' p c (m + (i + 1) * d) → Ky K H' v k → Pk k → Q v H') → te ((wipe σ [j]).set j (some x)) H Q)
    (qd : ∀ H vs ks, Kp p c H1 H → Deck H p c (m + xs.length * d) → H D = some (.lst vs) → Kys K H vs ks → ks.length = xs.length → (∀ k ∈ ks, Pk k) → Qd H) :
    ∃ W : Nat → Nat → Hp → Prop, (∃ m, W 0 m (upd H1 D (.lst []))) ∧ ∀ i m H, W i m H →
      ((Itl K a).stop i H ∧ Qd H) ∨ ((Itl K a).go i H ∧ ∃ Nx : Hp → Prop, (∀ H', Nx H' → ∃ m', m' < m ∧ W (i + 1) m' H') ∧ ∀ x H', (Itl K a).yld i H x H' → gName j x (wipe σ [j]) H' fun σ2 H2 => wipe σ2 [j] = wipe σ [j] ∧ tYes σ2 H2 fun b H3 =>
        if b = true then te σ2 H3 fun y H4 => ∃ acc, H4 D = some (.lst acc) ∧ acc.length < sizeLine ∧ Nx (upd H4 D (.lst (acc ++ [y]))) else Nx H3) := by
  obtain ⟨n1, n2⟩ := dk.nep hD
  refine lc_list (xs := xs) (Made K p c D m d Pk H1) (.start dk hD) (fun i H hi M => M.1.seqL np nc ha) (fun i x H hx M => ⟨wipe1, ?_⟩) fun H M => ?_
  · have hi := (List.getElem?_eq_some_iff.mp hx).1
    dsimp only [tYes]
    rw [if_pos rfl]
    exact step i x H _ hx M.1 M.2.1 fun H' v k k1 k2 k3 k4 => M.more hD n1 n2 (by omega) k1 k2 k3 k4
  · obtain ⟨a1, a2, vs, ks, a3, a4, a5, a6⟩ := M
    exact qd H vs ks a1 a2 a3 a4 a5 a6
/-- the same, xs a tuple -/
theorem cd_tup {a : Addr} {xs : List V} {j : Nat} {te : TE} {σ : L2.St} {Qd : Hp → Prop} (dk : Deck H1 p c m) (hD : H1 D = none) (hn : xs.length ≤ 1000) (ha : SqT K H1 a xs)
    (step : ∀ i x H (Q : VK), xs[i]? = some x → Kp p c H1 H → Deck H p c (m + i * d) → (∀ H' v k, Kp p c H H' → Deck H' p c (m + (i + 1) * d) → Ky K H' v k → Pk k → Q v H') → te ((wipe σ [j]).set j (some x)) H Q)
    (qd : ∀ H vs ks, Kp p c H1 H → Deck H p c (m + xs.length * d) → H D = some (.lst vs) → Kys K H vs ks → ks.length = xs.length → (∀ k ∈ ks, Pk k) → Qd H) :
    ∃ W : Nat → Nat → Hp → Prop, (∃ m, W 0 m (upd H1 D (.lst []))) ∧ ∀ i m H, W i m H →
      ((Itt K a).stop i H ∧ Qd H) ∨ ((Itt K a).go i H ∧ ∃ Nx : Hp → Prop, (∀ H', Nx H' → ∃ m', m' < m ∧ W (i + 1) m' H') ∧ ∀ x H', (Itt K a).yld i H x H' → gName j x (wipe σ [j]) H' fun σ2 H2 => wipe σ2 [j] = wipe σ [j] ∧ tYes σ2 H2 fun b H3 =>
        if b = true then te σ2 H3 fun y H4 => ∃ acc, H4 D = some (.lst acc) ∧ acc.length < sizeLine ∧ Nx (upd H4 D (.lst (acc ++ [y]))) else Nx H3) := by
  obtain ⟨n1, n2⟩ := dk.nep hD
  refine lc_tup (xs := xs) (Made K p c D m d Pk H1) (.start dk hD) (fun i H hi M => TK.kp dk M.1 _ _ ha) (fun i x H hx M => ⟨wipe1, ?_⟩) fun H M => ?_
  · have hi := (List.getElem?_eq_some_iff.mp hx).1
    dsimp only [tYes]
    rw [if_pos rfl]
    exact step i x H _ hx M.1 M.2.1 fun H' v k k1 k2 k3 k4 => M.more hD n1 n2 (by omega) k1 k2 k3 k4
  · obtain ⟨a1, a2, vs, ks, a3, a4, a5, a6⟩ := M
    exact qd H vs ks a1 a2 a3 a4 a5 a6
end
end Eh
set_option Elab.async false
set_option linter.all false
set_option maxRecDepth 100000
set_option maxHeartbeats 8000000
/-! comprehensions that draw, told item by item -/
namespace Eh
open PySem PySem.Spec PyProof.Rows L2 NS
theorem at_snoc {α : Type} {l : List α} {x y : α} {j : Nat} (h : (l ++ [x])[j]? = some y) : l[j]? = some y ∨ (j = l.length ∧ y = x) := by
  by_cases hj : j < l.length
  · rw [List.getElem?_append_left hj] at h
    exact .inl h
  · rw [List.getElem?_append_right (by omega)] at h
    cases hz : j - l.length with
    | zero =>
      rw [hz] at h
      cases h
      exact .inr ⟨by omega, rfl⟩
    | succ n => rw [hz] at h; cases h
def MadeI (K : PySem.W.Frag) (p c D : Addr) (m d : Nat) (Pk : Nat → NestedKey → Prop) (H1 : Hp) (i : Nat) (H : Hp) : Prop := Kp p c H1 H ∧ Deck H p c (m + i * d) ∧ ∃ vs ks, H D = some (.lst vs) ∧ Kys K H vs ks ∧ ks.length = i ∧ ∀ (j : Nat) (k : NestedKey), ks[j]? = some k → Pk j k
section
variable {K : PySem.W.Frag} {p c D : Addr} {m d : Nat} {Pk : Nat → NestedKey → Prop} {H1 : Hp}
theorem MadeI.start (dk : Deck H1 p c m) (hD : H1 D = none) : MadeI K p c D m d Pk H1 0 (upd H1 D (.lst [])) :=
  ⟨.of_same (same_upd hD), by rw [Nat.zero_mul]; exact dk.of_same (same_upd hD), [], [], upd_same, .nil, rfl, fun _ _ h => by cases h⟩
theorem MadeI.more {i : Nat} {H H4 : Hp} {y : V} {k : NestedKey} (h : MadeI K p c D m d Pk H1 i H) (hD : H1 D = none) (n1 : D ≠ p) (n2 : D ≠ c) (hi : i < 1000) (kp : Kp p c H H4) (dk : Deck H4 p c (m + (i + 1) * d)) (hy : Ky K H4 y k) (pk : Pk i k) :
    ∃ acc, H4 D = some (.lst acc) ∧ acc.length < sizeLine ∧ MadeI K p c D m d Pk H1 (i + 1) (upd H4 D (.lst (acc ++ [y]))) := by
  obtain ⟨a1, a2, vs, ks, a3, a4, a5, a6⟩ := h
  have e4 : H4 D = some (.lst vs) := kp _ _ n1 n2 a3
  have tk : TK K H H4 := .kp a2 kp
  have tp : TK K H4 (upd H4 D (.lst (vs ++ [y]))) := .put e4
  refine ⟨vs, e4, ?_, fun b o b1 b2 e => ?_, dk.put n1 n2, vs ++ [y], ks ++ [k], upd_same, ?_, ?_, fun j x hx => ?_⟩
  · rw [a4.length, a5]
    have h9 : 1000 ≤ sizeLine := by decide
    omega
  · rw [upd_ne (fun z => by rw [z, hD] at e; cases e)]
    exact kp _ _ b1 b2 (a1 _ _ b1 b2 e)
  · exact ((a4.tk tk).tk tp).app (.one (hy.tk tp))
  · rw [List.length_append, a5]
    rfl
  · rcases at_snoc hx with z | ⟨z1, z2⟩
    · exact a6 j x z
    · rw [z2, z1, a5]
      exact pk
theorem cdi_range {lo : Int} {n j : Nat} {te : TE} {σ : L2.St} {Qd : Hp → Prop} (dk : Deck H1 p c m) (hD : H1 D = none) (hn : n ≤ 1000)
    (step : ∀ i H (Q : VK), i < n → Kp p c H1 H → Deck H p c (m + i * d) → (∀ H' v k, Kp p c H H' → Deck H' p c (m + (i + 1) * d) → Ky K H' v k → Pk i k → Q v H') → te ((wipe σ [j]).set j (some (.int (lo + i)))) H Q)
    (qd : ∀ H vs ks, Kp p c H1 H → Deck H p c (m + n * d) → H D = some (.lst vs) → Kys K H vs ks → ks.length = n → (∀ (j : Nat) (k : NestedKey), ks[j]? = some k → Pk j k) → Qd H) :
    ∃ W : Nat → Nat → Hp → Prop, (∃ m, W 0 m (upd H1 D (.lst []))) ∧ ∀ i m H, W i m H →
      ((Itr lo n).stop i H ∧ Qd H) ∨ ((Itr lo n).go i H ∧ ∃ Nx : Hp → Prop, (∀ H', Nx H' → ∃ m', m' < m ∧ W (i + 1) m' H') ∧ ∀ x H', (Itr lo n).yld i H x H' → gName j x (wipe σ [j]) H' fun σ2 H2 => wipe σ2 [j] = wipe σ [j] ∧ tYes σ2 H2 fun b H3 =>
        if b = true then te σ2 H3 fun y H4 => ∃ acc, H4 D = some (.lst acc) ∧ acc.length < sizeLine ∧ Nx (upd H4 D (.lst (acc ++ [y]))) else Nx H3) := by
  obtain ⟨n1, n2⟩ := dk.nep hD
  refine lc_range (MadeI K p c D m d Pk H1) (.start dk hD) (fun i H hi M => ⟨wipe1, ?_⟩) fun H M => ?_
  · dsimp only [tYes]
    rw [if_pos rfl]
    exact step i H _ hi M.1 M.2.1 fun H' v k k1 k2 k3 k4 => M.more hD n1 n2 (by omega) k1 k2 k3 k4
  · obtain ⟨a1, a2, vs, ks, a3, a4, a5, a6⟩ := M
    exact qd H vs ks a1 a2 a3 a4 a5 a6
theorem cdi_list {a : Addr} {xs : List V} {j : Nat} {te : TE} {σ : L2.St} {Qd : Hp → Prop} (dk : Deck H1 p c m) (hD : H1 D = none) (hn : xs.length ≤ 1000) (ha : SqL K H1 a xs) (np : a ≠ p) (nc : a ≠ c) (nD : a ≠ D)
    (step : ∀ i x H (Q : VK), xs[i]? = some x → Kp p c H1 H → Deck H p c (m + i * d) → (∀ H' v k, Kp p c H H' → Deck H' p c (m + (i + 1) * d) → Ky K H' v k → Pk i k → Q v H') → te ((wipe σ [j]).set j (some x)) H Q)
    (qd : ∀ H vs ks, Kp p c H1 H → Deck H p c (m + xs.length * d) → H D = some (.lst vs) → Kys K H vs ks → ks.length = xs.length → (∀ (j : Nat) (k : NestedKey), ks[j]? = some k → Pk j k) → Qd H) :
    ∃ W : Nat → Nat → Hp → Prop, (∃ m, W 0 m (upd H1 D (.lst []))) ∧ ∀ i m H, W i m H →
      ((Itl K a).stop i H ∧ Qd H) ∨ ((Itl K a).go i H ∧ ∃ Nx : Hp → Prop, (∀ H', Nx H' → ∃ m', m' < m ∧ W (i + 1) m' H') ∧ ∀ x H', (Itl K a).yld i H x H' → gName j x (wipe σ [j]) H' fun σ2 H2 => wipe σ2 [j] = wipe σ [j] ∧ tYes σ2 H2 fun b H3 =>
        if b = true then te σ2 H3 fun y H4 => ∃ acc, H4 D = some (.lst acc) ∧ acc.length < sizeLine ∧ Nx (upd H4 D (.lst (acc ++ [y]))) else Nx H3) := by
  obtain ⟨n1, n2⟩ := dk.nep hD
  refine lc_list (xs := xs) (MadeI K p c D m d Pk H1) (.start dk hD) (fun i H hi M => M.1.seqL np nc ha) (fun i x H hx M => ⟨wipe1, ?_⟩) fun H M => ?_
  · have hi := (List.getElem?_eq_some_iff.mp hx).1
    dsimp only [tYes]
    rw [if_pos rfl]
    exact step i x H _ hx M.1 M.2.1 fun H' v k k1 k2 k3 k4 => M.more hD n1 n2 (by omega) k1 k2 k3 k4
  · obtain ⟨a1, a2, vs, ks, a3, a4, a5, a6⟩ := M
    exact qd H vs ks a1 a2 a3 a4 a5 a6
end
/-- what stands for each key, in order -/
theorem each_of {α : Type} {f : α → NestedKey} {R : Nat → α → Prop} : ∀ {ks : List NestedKey} {o : Nat}, (∀ (j : Nat) (k : NestedKey), ks[j]? = some k → ∃ a, k = f a ∧ R (o + j) a) → ∃ as : List α, ks = as.map f ∧ ∀ (j : Nat) (a : α), as[j]? = some a → R (o + j) a
  | [], _, _ => ⟨[], rfl, fun j a h => by cases h⟩
  | k :: ks, o, h => by
    obtain ⟨a, rfl, ha⟩ := h 0 k rfl
    obtain ⟨as, rfl, hh⟩ := each_of (ks := ks) (o := o + 1) (R := R) fun j k hk => by
      obtain ⟨b, e, r⟩ := h (j + 1) k (by simpa using hk)
      exact ⟨b, e, by rw [show o + 1 + j = o + (j + 1) by omega]; exact r⟩
    refine ⟨a :: as, rfl, fun j b hb => ?_⟩
    cases j with
    | zero => cases hb; exact ha
    | succ n =>
      have := hh n b (by simpa using hb)
      rw [show o + (n + 1) = o + 1 + n by omega]
      exact this
theorem all_of {α : Type} {f : α → NestedKey} {R : α → Prop} {ks : List NestedKey} (h : ∀ k ∈ ks, ∃ a, k = f a ∧ R a) : ∃ as : List α, ks = as.map f ∧ ∀ a ∈ as, R a := by
  obtain ⟨as, e, r⟩ := each_of (ks := ks) (o := 0) (f := f) (R := fun _ a => R a) fun j k hk => h k (List.mem_of_getElem? hk)
  refine ⟨as, e, fun a ha => ?_⟩
  obtain ⟨j, hj⟩ := List.mem_iff_getElem?.mp ha
  exact r j a hj
theorem nodup_ix {α : Type} : ∀ {l : List α}, (∀ (i j : Nat) (a : α), l[i]? = some a → l[j]? = some a → i = j) → l.Nodup
  | [], _ => List.nodup_nil
  | x :: l, h => List.nodup_cons.mpr ⟨fun hm => by
      obtain ⟨j, hj⟩ := List.mem_iff_getElem?.mp hm
      have := h 0 (j + 1) x rfl (by simpa using hj)
      omega, nodup_ix fun i j a h1 h2 => by
      have := h (i + 1) (j + 1) a (by simpa using h1) (by simpa using h2)
      omega⟩
end Eh
set_option Elab.async false
set_option linter.all false
set_option maxRecDepth 100000
set_option maxHeartbeats 4000000
/-! Texts of letters. -/
namespace Eh
open PySem PySem.Spec PyProof.Rows L2 NS
/-- at most n signs, letters all -/
def Lt (n : Nat) (s : Str) : Prop := s.cps.toList.length ≤ n ∧ ∀ c ∈ s.cps.toList, 97 ≤ c ∧ c ≤ 122
theorem Lt.mono {n m : Nat} {s : Str} (h : Lt n s) (e : n ≤ m) : Lt m s := ⟨by have := h.1; omega, h.2⟩
theorem Lt.len {n : Nat} {s : Str} (h : Lt n s) : s.length ≤ n := by
  have z := h.1
  rw [Array.length_toList] at z
  exact z
theorem Lt.app {n m : Nat} {s t : Str} (h : Lt n s) (g : Lt m t) : Lt (n + m) (s ++ t) := by
  have e : (s ++ t).cps.toList = s.cps.toList ++ t.cps.toList := TL.tl_append s t
  refine ⟨?_, fun c hc => ?_⟩
  · rw [e, List.length_append]
    have := h.1
    have := g.1
    omega
  · rw [e] at hc
    rcases List.mem_append.mp hc with z | z
    · exact h.2 c z
    · exact g.2 c z
theorem cutS_list (z : Str) (lo hi : Option Int) : (cutS z lo hi).cps.toList = (z.cps.toList.drop (HT.sIx z.length 0 lo)).take (HT.sIx z.length z.length hi - HT.sIx z.length 0 lo) := rfl
theorem Lt.cut {n : Nat} {z : Str} (h : Lt n z) (lo hi : Option Int) (m : Nat) (e : HT.sIx z.length z.length hi - HT.sIx z.length 0 lo ≤ m) : Lt m (cutS z lo hi) := by
  refine ⟨?_, fun c hc => ?_⟩
  · rw [cutS_list, List.length_take]
    omega
  · rw [cutS_list] at hc
    exact h.2 c (List.mem_of_mem_drop (List.mem_of_mem_take hc))
theorem joinL_nil : ∀ ps : List (List Nat), TL.joinL [] ps = ps.flatten
  | [] => rfl
  | [p] => by simp [TL.joinL]
  | p :: q :: r => by
    have z := joinL_nil (q :: r)
    simp only [TL.joinL, List.nil_append, z, List.flatten_cons]
theorem Lt.join {m : Nat} {ys : List Str} (h : ∀ y ∈ ys, Lt m y) : Lt (ys.length * m) (Txt.join (Str.ofString "") ys) := by
  have e : (Txt.join (Str.ofString "") ys).cps.toList = (ys.map fun y : Str => y.cps.toList).flatten := by
    rw [TL.join_eq]
    have z := TL.tl_join (Str.ofString "") ys
    rw [show TL.tl (Str.ofString "") = [] from rfl, joinL_nil] at z
    exact z
  refine ⟨?_, fun c hc => ?_⟩
  · rw [e]
    clear e
    induction ys with
    | nil => simp
    | cons y ys ih =>
      have a := (h y List.mem_cons_self).1
      have b := ih fun z hz => h z (List.mem_cons_of_mem _ hz)
      simp only [List.map_cons, List.flatten_cons, List.length_append, List.length_cons, Nat.succ_mul]
      omega
  · rw [e] at hc
    obtain ⟨l, hl, hc⟩ := List.mem_flatten.mp hc
    obtain ⟨y, hy, rfl⟩ := List.mem_map.mp hl
    exact (h y hy).2 c hc
def abcS : Str := Str.ofString "abcdefghijklmnopqrstuvwxyz"
def sgn (n : Nat) : Str := ⟨#[97 + n]⟩
theorem abc_at : ∀ i : Fin 26, abcS.cps.toList[i.val]? = some (97 + i.val) := by decide +kernel
theorem lt_one {c : Nat} (h : 97 ≤ c ∧ c ≤ 122) : Lt 1 ⟨#[c]⟩ := ⟨Nat.le_refl _, fun d hd => by
  have z : d = c := List.mem_singleton.mp hd
  rw [z]
  exact h⟩
def wordsS : Str := Str.ofString "to call up jump move from outcome crash return branch slots program ok get"
def words : List Str := Txt.split wordsS (Str.ofString " ")
theorem words_nd : words.Nodup := by decide +kernel
theorem words_ok : words.length = 14 ∧ ∀ s ∈ words, Lt 8 s := by
  have h : (words.length == 14 && words.all fun s => decide (s.cps.toList.length ≤ 8) && s.cps.toList.all fun c => decide (97 ≤ c ∧ c ≤ 122)) = true := by decide +kernel
  rw [Bool.and_eq_true] at h
  refine ⟨by simpa using h.1, fun s hs => ?_⟩
  have z := List.all_eq_true.mp h.2 s hs
  rw [Bool.and_eq_true] at z
  exact ⟨of_decide_eq_true z.1, fun c hc => of_decide_eq_true (List.all_eq_true.mp z.2 c hc)⟩
theorem sgn_lt {n : Nat} (h : n < 26) : Lt 1 (sgn n) := lt_one ⟨by omega, by omega⟩
theorem sgn_inj {n m : Nat} (h : sgn n = sgn m) : n = m := by
  have z : (sgn n).cps.toList = (sgn m).cps.toList := by rw [h]
  have z' : [97 + n] = [97 + m] := z
  injection z' with z'
  omega
theorem join_len {ys : List Str} (h : ∀ y ∈ ys, y.cps.toList.length = 1) : (Txt.join (Str.ofString "") ys).cps.toList.length = ys.length := by
  have e : (Txt.join (Str.ofString "") ys).cps.toList = (ys.map fun y : Str => y.cps.toList).flatten := by
    rw [TL.join_eq]
    have z := TL.tl_join (Str.ofString "") ys
    rw [show TL.tl (Str.ofString "") = [] from rfl, joinL_nil] at z
    exact z
  rw [e]
  clear e
  induction ys with
  | nil => rfl
  | cons y ys ih =>
    have a := h y List.mem_cons_self
    have b := ih fun z hz => h z (List.mem_cons_of_mem _ hz)
    simp only [List.map_cons, List.flatten_cons, List.length_append, List.length_cons]
    omega
theorem app_list (s t : Str) : (s ++ t).cps.toList = s.cps.toList ++ t.cps.toList := TL.tl_append s t
theorem mid_inj {a b x y : Str} (h : a ++ x ++ b = a ++ y ++ b) : x = y := by
  have z : (a ++ x ++ b).cps.toList = (a ++ y ++ b).cps.toList := by rw [h]
  rw [app_list, app_list, app_list, app_list] at z
  have z2 := List.append_cancel_left (List.append_cancel_right z)
  cases x with
  | mk p =>
    cases y with
    | mk q =>
      have : p = q := Array.toList_inj.mp z2
      rw [this]
end Eh
set_option Elab.async false
set_option linter.all false
set_option maxRecDepth 100000
set_option maxHeartbeats 8000000
/-! names -/
namespace Eh
open PySem PySem.Spec PyProof.Rows L2 NS
abbrev NN : List Str := ["_law_deck_here", "_law_many", "_law_letters", "_law_way", "_law_first", "_law_words", "_law_base", "_law_at", "_law_k", "_law_signs", "_law_sign", "_law_some"]
theorem scNames : FnScope NN ["_law_deck_here", "_law_many"] (defScope sNames) := ⟨rfl, rfl, rfl, by decide +kernel, rfl, by decide +kernel, by decide +kernel⟩
theorem atI_any {α : Type} {xs : List α} {i : Int} (h0 : 0 ≤ i) (h1 : i < xs.length) : ∃ v, v ∈ xs ∧ atI xs i = some v := by
  obtain ⟨j, rfl⟩ : ∃ j : Nat, i = (j : Int) := ⟨i.toNat, by omega⟩
  have hj : j < xs.length := by omega
  exact ⟨xs[j], List.getElem_mem hj, atI_nat (List.getElem?_eq_getElem hj)⟩
theorem abc_int {i : Int} (h0 : 0 ≤ i) (h1 : i < 26) : atI abcS.cps.toList i = some (97 + i.toNat) := by
  obtain ⟨j, rfl⟩ : ∃ j : Nat, i = (j : Int) := ⟨i.toNat, by omega⟩
  exact atI_nat (abc_at ⟨j, by omega⟩)
theorem Kp.none_back {p c D : Addr} {H H' : Hp} (k : Kp p c H H') (h : H' D = none) (n1 : D ≠ p) (n2 : D ≠ c) : H D = none := by
  cases e : H D with
  | none => rfl
  | some o => rw [k _ _ n1 n2 e] at h; cases h
section
variable {P : Program} {w : World} {K : PySem.W.Frag} {mg : Str → Option Value} {base : Heap}
def spNames : Sp := fun us H Q _ => ∃ (p c : Addr) (m many : Nat), us = [.ref p, .int many] ∧ Deck H p c m ∧ m < 900000 ∧ many ≤ 8 ∧
  ∀ (H' : Hp) (r : Addr) (ns : List Str), Kp p c H H' → Deck H' p c (m + 11) → H r = none → H' r = some (.lst (ns.map V.str)) → ns.length = many → ns.Nodup → (∀ s ∈ ns, Lt 8 s) → Q (.ref r) H'
theorem ok_names {f fD : Addr} {fd fdD : FuncData} {k : Nat} (F : Fun K "_law_names" "_law_names" sNames f fd) (FD : Fun K "_law_draw" "_law_draw" sDraw fD fdD) (bD : Binds K fdD ["_law_deck_here", "_law_many"] []) (gD : mg "_law_draw" = some (.ref fD)) (mr : mg "range" = none) :
    FnOk P w K mg base CX0 (k + 2) f fd ["_law_deck_here", "_law_many"] spNames := by
  have GD : FnOk P w K mg base CX0 (k + 1) fD fdD ["_law_deck_here", "_law_many"] spDraw := ok_draw FD
  refine F.ok scNames (fun us H Q E h => ?_) (fun cdv A outer s H us Q E hr h => ?_)
  · obtain ⟨p, c, m, many, rfl, _⟩ := h
    rfl
  · obtain ⟨p, c, m, many, rfl, dk, hm, hn, q⟩ := h
    refine ⟨_, pss_cons (ps_asg (pe_tup (pa_cons pe_str (pa_cons (pe_call GD hr (by rfl) gD FD.kp bD .nil pass0 (pa_cons (pv 0) (pa_cons pe_int pa_nil))) (pa_cons (pe_call GD hr (by rfl) gD FD.kp bD .nil pass0 (pa_cons (pv 0) (pa_cons pe_int pa_nil))) pa_nil))))
        (pg_tup rfl (pgs_cons (pg_name (i := 2) scNames.nd rfl (.inr rfl)) (pgs_cons (pg_name (i := 3) scNames.nd rfl (.inl rfl)) (pgs_cons (pg_name (i := 4) scNames.nd rfl (.inr rfl)) pgs_nil)))))
      (pss_cons (ps_set (i := 5) scNames.nd rfl (.inr rfl) (pe_split pe_str pe_str))
      (pss_cons (ps_asg (pe_tup (pa_cons (pe_join pe_str (pe_lc (own := [("_law_k", 8)]) (g := gName 8) (tt := tYes) rfl scNames.nd (pi_range1 rfl mr (pa_cons pe_int pa_nil)) (blkOk_by (N := NN) (sc := defScope sNames) (by decide +kernel))
            (fun _ _ _ _ _ => pg_name (i := 8) scNames.nd rfl (.inl rfl)) (fun _ _ _ _ _ => pts_nil) (fun _ _ _ _ _ => pe_ix ix_str (pv 2) (pe_call GD hr (by rfl) gD FD.kp bD .nil pass0 (pa_cons (pv 0) (pa_cons pe_int pa_nil))) (fun _ _ => rfl))))
          (pa_cons (pe_call GD hr (by rfl) gD FD.kp bD .nil pass0 (pa_cons (pv 0) (pa_cons pe_int pa_nil))) pa_nil)))
        (pg_tup rfl (pgs_cons (pg_name (i := 6) scNames.nd rfl (.inr rfl)) (pgs_cons (pg_name (i := 7) scNames.nd rfl (.inr rfl)) pgs_nil))))
      (pss_cons (ps_setLc (i := 9) (own := [("_law_k", 8)]) (g := gName 8) (tt := tYes) rfl scNames.nd rfl rfl (sw_true rfl rfl rfl (by decide +kernel)) (pi_range1 rfl mr (pa_cons (pv 1) pa_nil)) (blkOk_by (N := NN) (sc := defScope sNames) (by decide +kernel))
            (fun _ _ _ _ _ => pg_name (i := 8) scNames.nd rfl (.inl rfl)) (fun _ _ _ _ _ => pts_nil) (fun _ _ _ _ _ => pe_ix ix_str (pv 2) (pe_op op_mod (pe_op op_add (pv 4) (pe_op op_mul pe_int (pv 8))) pe_int) (fun _ _ => rfl)))
      (pss_cons (ps_set (i := 11) scNames.nd rfl (.inl rfl) (pe_lst (pa_cons (pv 9) (pa_cons
          (pe_lc (own := [("_law_sign", 10)]) (g := gName 10) (tt := tYes) rfl scNames.nd (pi_list (pv 9)) (blkOk_by (N := NN) (sc := defScope sNames) (by decide +kernel))
            (fun _ _ _ _ _ => pg_name (i := 10) scNames.nd rfl (.inl rfl)) (fun _ _ _ _ _ => pts_nil) (fun _ _ _ _ _ => pe_op op_add_str (pe_op op_add_str (pe_slice sl_str (pv 6) po_none (po_some (pv 7))) (pv 10)) (pe_slice sl_str (pv 6) (po_some (pe_op op_add (pv 7) pe_int)) po_none)))
          (pa_cons (pe_lc (own := [("_law_k", 8)]) (g := gName 8) (tt := tYes) rfl scNames.nd (pi_range1 rfl mr (pa_cons (pv 1) pa_nil)) (blkOk_by (N := NN) (sc := defScope sNames) (by decide +kernel))
            (fun _ _ _ _ _ => pg_name (i := 8) scNames.nd rfl (.inl rfl)) (fun _ _ _ _ _ => pts_nil) (fun _ _ _ _ _ => pe_slice sl_str (pv 6) po_none (po_some (pe_op op_add pe_int (pv 8))))) pa_nil)))))
      (pss_one (ps_ret (pe_ix ix_list (pe_op op_cat (pv 11) (pe_lst (pa_cons
          (pe_lc (own := [("_law_k", 8)]) (g := gName 8) (tt := tYes) (te := tOp (rIxL K) (tVar 5) _) rfl scNames.nd (pi_range1 rfl mr (pa_cons (pv 1) pa_nil)) (blkOk_by (N := NN) (sc := defScope sNames) (by decide +kernel))
            (fun _ _ _ _ _ => pg_name (i := 8) scNames.nd rfl (.inl rfl)) (fun _ _ _ _ _ => pts_nil) (fun _ _ _ _ _ => pe_ix ix_list (pv 5) (pe_op op_mod (pe_op op_add (pv 4) (pe_op op_mul pe_int (pv 8))) pe_int) (fun _ _ => rfl))) pa_nil))) (pv 3) (fun _ _ => rfl)))))))), ?_⟩
    refine ⟨_, rfl, p, c, m, 4, rfl, dk, by omega, by decide, by decide, fun H1 way k1 d1 w0 w1 => ?_⟩
    refine ⟨_, rfl, p, c, m + 1, 26, rfl, d1, by omega, by decide, by decide, fun H2 fi k2 d2 f0 f1 => ?_⟩
    refine ⟨by show 3 ≤ sizeLine; decide, fun t0 nt => ?_⟩
    refine ⟨t0, _, rfl, SqT.of upd_same, rfl, _, _, rfl, _, _, rfl, _, _, rfl, rfl, ?_⟩
    have k3 : Kp p c H (upd H2 t0 (.tup [V.str abcS, .int way, .int fi])) := (k1.trans k2).trans (.of_same (same_upd nt))
    have d3 : Deck (upd H2 t0 (.tup [V.str abcS, .int way, .int fi])) p c (m + 2) := d2.of_same (same_upd nt)
    show tSeq _ _ _ _ (upd H2 t0 (.tup [V.str abcS, .int way, .int fi]))
    generalize upd H2 t0 (.tup [V.str abcS, .int way, .int fi]) = H3 at k3 d3 ⊢
    refine ⟨⟨_, rfl⟩, _, _, rfl, rfl, by decide +kernel, by decide +kernel, fun wl nw => ?_⟩
    have k4 : Kp p c H (upd H3 wl (.lst (words.map V.str))) := k3.trans (.of_same (same_upd nw))
    have d4 : Deck (upd H3 wl (.lst (words.map V.str))) p c (m + 2) := d3.of_same (same_upd nw)
    have e4 : (upd H3 wl (.lst (words.map V.str))) wl = some (.lst (words.map V.str)) := upd_same
    obtain ⟨wp, wc⟩ := d3.nep nw
    show tSeq _ _ _ _ (upd H3 wl (.lst (words.map V.str)))
    generalize upd H3 wl (.lst (words.map V.str)) = H4 at k4 d4 e4 ⊢
    refine ⟨⟨_, rfl⟩, 8, rfl, by decide, by decide, fun D hD => ?_⟩
    refine cd_range (K := K) (m := m + 2) (d := 1) (n := 8) (Pk := fun k => ∃ s, k = .text s ∧ (Lt 1 s ∧ s.cps.toList.length = 1)) d4 hD (by decide) (fun i H' Q' hi kk dd qq => ?_) fun H5 vs ks k5 d5 e5 y5 l5 p5 => ?_
    · refine ⟨_, rfl, _, rfl, p, c, _, 26, rfl, dd, by omega, by decide, by decide, fun H6 j kj dj j0 j1 => ?_⟩
      refine ⟨_, _, _, rfl, rfl, by decide +kernel, abc_int j0 j1, qq _ _ (.text _) kj (by rw [Nat.succ_mul, ← Nat.add_assoc]; exact dj) (.text _) ⟨_, rfl, sgn_lt (n := j.toNat) (by omega), rfl⟩⟩
    obtain ⟨ys, rfl, hys'⟩ := all_of p5
    have hys : ∀ y ∈ ys, Lt 1 y := fun y hy => (hys' y hy).1
    have ly : ys.length = 8 := by simpa using l5
    have hb : Lt 8 (Txt.join (Str.ofString "") ys) := by
      have z := Lt.join hys
      rw [ly] at z
      exact z
    rw [y5.texts_inv] at e5
    have hb8 : (Txt.join (Str.ofString "") ys).cps.toList.length = 8 := by
      rw [join_len fun y hy => (hys' y hy).2]
      exact ly
    refine ⟨_, D, ys, rfl, rfl, .inl (SqL.of e5), ?_, ?_⟩
    · rw [show (Str.ofString "").length = 0 from rfl, Nat.mul_zero, Nat.add_zero]
      have z : ∀ l : List Str, (∀ s ∈ l, Lt 1 s) → (l.map (·.length)).sum ≤ l.length := by
        intro l
        induction l with
        | nil => intro _; exact Nat.le_refl _
        | cons s l ih =>
          intro h
          have a := (h s List.mem_cons_self).len
          have b := ih fun s hs => h s (List.mem_cons_of_mem _ hs)
          simp only [List.map_cons, List.sum_cons, List.length_cons]
          omega
      have := z ys hys
      omega
    refine ⟨_, rfl, p, c, m + 2 + 8 * 1, 8, rfl, d5, by omega, by decide, by decide, fun H6 at' k6 d6 a0 a1 => ?_⟩
    refine ⟨by show 2 ≤ sizeLine; decide, fun t1 nt1 => ?_⟩
    refine ⟨t1, _, rfl, SqT.of upd_same, rfl, _, _, rfl, _, _, rfl, rfl, ?_⟩
    generalize hbs : Txt.join (Str.ofString "") ys = bs at hb hb8
    have k7 : Kp p c H (upd H6 t1 (.tup [V.str bs, .int at'])) := ((k4.trans k5).trans k6).trans (.of_same (same_upd nt1))
    have d7 : Deck (upd H6 t1 (.tup [V.str bs, .int at'])) p c (m + 11) := d6.of_same (same_upd nt1)
    have e7 : (upd H6 t1 (.tup [V.str bs, .int at'])) wl = some (.lst (words.map V.str)) := same_upd nt1 _ _ (k6 _ _ wp wc (k5 _ _ wp wc e4))
    show tSeq _ _ _ _ (upd H6 t1 (.tup [V.str bs, .int at']))
    generalize upd H6 t1 (.tup [V.str bs, .int at']) = H7 at k7 d7 e7 ⊢
    refine ⟨_, rfl, (many : Int), rfl, by omega, by omega, fun D2 hD2 => ?_⟩
    obtain ⟨a2p, a2c⟩ := d7.nep hD2
    have f2 : H D2 = none := k7.none_back hD2 a2p a2c
    refine cdi_range (K := K) (j := 8) (m := m + 11) (d := 0) (n := many) (Pk := fun j k => ∃ s, k = .text s ∧ s = sgn ((fi + 7 * (0 + (j : Int))) % 26).toNat) d7 hD2 (by omega) (fun i H' Q' hi kk dd qq => ?_) fun H8 vs ks k8 d8 e8 y8 l8 p8 => ?_
    · have z := emod_bd (fi + 7 * (0 + (i : Int))) (b := 26) (by decide)
      refine ⟨_, rfl, _, rfl, _, rfl, _, _, rfl, rfl, .inl ⟨by decide, by decide⟩, _, _, rfl, rfl, _, _, rfl, rfl, (by show (0 : Int) < 26; decide), _, _, _, rfl, rfl, by decide +kernel, abc_int z.1 z.2, qq _ _ (.text _) (Kp.refl p c _) dd (.text _) ⟨_, rfl, rfl⟩⟩
    obtain ⟨ss, rfl, hss'⟩ := each_of (o := 0) (f := .text) (R := fun j s => s = sgn ((fi + 7 * (0 + (j : Int))) % 26).toNat) fun j k hk => by rw [Nat.zero_add]; exact p8 j k hk
    have hss : ∀ s ∈ ss, Lt 1 s := fun s hs => by
      obtain ⟨j, hj⟩ := List.mem_iff_getElem?.mp hs
      rw [hss' j s hj]
      refine sgn_lt ?_
      have z := emod_bd (fi + 7 * (0 + ((0 + j : Nat) : Int))) (b := 26) (by decide)
      omega
    have ls : ss.length = many := by simpa using l8
    have nds : ss.Nodup := nodup_ix fun i j a hi hj => by
      have i1 := (List.getElem?_eq_some_iff.mp hi).1
      have j1 := (List.getElem?_eq_some_iff.mp hj).1
      have z := sgn_inj ((hss' i a hi).symm.trans (hss' j a hj))
      have zi := emod_bd (fi + 7 * (0 + ((0 + i : Nat) : Int))) (b := 26) (by decide)
      have zj := emod_bd (fi + 7 * (0 + ((0 + j : Nat) : Int))) (b := 26) (by decide)
      omega
    rw [y8.texts_inv] at e8
    have e8w : H8 wl = some (.lst (words.map V.str)) := k8 _ _ wp wc e7
    have k8' : Kp p c H H8 := k7.trans k8
    have d8' : Deck H8 p c (m + 11) := d8
    clear d8
    have lb : bs.length ≤ 8 := hb.len
    have tn : ∃ t : Nat, at' = (t : Int) ∧ t < 8 := ⟨at'.toNat, by omega, by omega⟩
    obtain ⟨t, rfl, ht⟩ := tn
    show tSeq _ _ _ _ H8
    refine ⟨_, rfl, _, rfl, D2, rfl, ⟨_, SqL.of e8⟩, fun D3 hD3 => ?_⟩
    obtain ⟨a3p, a3c⟩ := d8'.nep hD3
    have f3 : H D3 = none := k8'.none_back hD3 a3p a3c
    have n23 : D2 ≠ D3 := fun z => by rw [z, hD3] at e8; cases e8
    refine cdi_list (K := K) (j := 10) (a := D2) (xs := ss.map V.str) (m := m + 11) (d := 0) (Pk := fun j k => ∃ s, k = .text s ∧ (Lt 8 s ∧ ∃ sg, ss[0 + j]? = some sg ∧ s = cutS bs none (some (t : Int)) ++ sg ++ cutS bs (some ((t : Int) + 1)) none)) d8' hD3 (by rw [List.length_map]; omega) (SqL.of e8) a2p a2c n23 (fun i x H' Q' hx kk dd qq => ?_) fun H9 vs3 ks3 k9 d9 e9 y9 l9 p9 => ?_
    · rw [List.getElem?_map] at hx
      cases hm' : ss[i]? with
      | none => rw [hm'] at hx; cases hx
      | some sg =>
        rw [hm'] at hx
        cases hx
        have hsg := hss sg (List.mem_of_getElem? hm')
        have b1 : Lt t (cutS bs none (some (t : Int))) := hb.cut none (some (t : Int)) t (by rw [HT.sIx_nat, HT.sIx_none]; omega)
        have b2 : Lt (8 - (t + 1)) (cutS bs (some ((t : Int) + 1)) none) := hb.cut _ none _ (by rw [HT.sIx_none, show ((t : Int) + 1) = ((t + 1 : Nat) : Int) by omega, HT.sIx_nat]; omega)
        have b3 := b1.app hsg
        have b4 := b3.app b2
        have h9 : 1000 ≤ sizeLine := by decide
        have c1 := b1.len
        have c2 := b2.len
        have c3 := hsg.len
        have c4 := b3.len
        refine ⟨_, rfl, _, rfl, _, rfl, bs, rfl, by omega, _, rfl, _, _, rfl, rfl, by omega, ?_⟩
        refine ⟨_, rfl, _, rfl, _, _, rfl, rfl, _, rfl, bs, rfl, by omega, _, _, rfl, rfl, by omega, ?_⟩
        exact qq _ _ (.text _) (Kp.refl p c _) dd (.text _) ⟨_, rfl, b4.mono (by omega), sg, by rw [Nat.zero_add]; exact hm', rfl⟩
    obtain ⟨s3, rfl, hs3'⟩ := each_of (o := 0) (f := .text) (R := fun j s => Lt 8 s ∧ ∃ sg, ss[j]? = some sg ∧ s = cutS bs none (some (t : Int)) ++ sg ++ cutS bs (some ((t : Int) + 1)) none) p9
    have hs3 : ∀ s ∈ s3, Lt 8 s := fun s hs => by
      obtain ⟨j, hj⟩ := List.mem_iff_getElem?.mp hs
      exact (hs3' j s hj).1
    have nd3 : s3.Nodup := nodup_ix fun i j a hi hj => by
      obtain ⟨_, sg, h1, h2⟩ := hs3' i a hi
      obtain ⟨_, sg', h3, h4⟩ := hs3' j a hj
      have z := mid_inj (h2.symm.trans h4)
      rw [← z] at h3
      rw [Nat.zero_add] at h1 h3
      exact (List.getElem?_inj (List.getElem?_eq_some_iff.mp h1).1 nds).mp (h1.trans h3.symm)
    have ls3 : s3.length = many := by
      rw [List.length_map, List.length_map] at l9
      omega
    rw [y9.texts_inv] at e9
    have d9' : Deck H9 p c (m + 11) := d9
    clear d9
    have e9w : H9 wl = some (.lst (words.map V.str)) := k9 _ _ wp wc e8w
    have e9s : H9 D2 = some (.lst (ss.map V.str)) := k9 _ _ a2p a2c e8
    have k9' : Kp p c H H9 := k8'.trans k9
    refine ⟨_, rfl, (many : Int), rfl, by omega, by omega, fun D4 hD4 => ?_⟩
    obtain ⟨a4p, a4c⟩ := d9'.nep hD4
    have f4 : H D4 = none := k9'.none_back hD4 a4p a4c
    refine cdi_range (K := K) (j := 8) (m := m + 11) (d := 0) (n := many) (Pk := fun j k => ∃ s, k = .text s ∧ (Lt 8 s ∧ s.cps.toList.length = 1 + (0 + j))) d9' hD4 (by omega) (fun i H' Q' hi kk dd qq => ?_) fun H10 vs ks k10 d10 e10 y10 l10 p10 => ?_
    · have h9 : 1000 ≤ sizeLine := by decide
      have b1 : Lt 8 (cutS bs none (some (1 + (0 + (i : Int))))) := hb.cut none _ 8 (by have := HT.sIx_le bs.length bs.length (Nat.le_refl _) (some (1 + (0 + (i : Int)))); omega)
      have b2 : (cutS bs none (some (1 + (0 + (i : Int))))).cps.toList.length = 1 + (0 + i) := by
        rw [cutS_list, List.length_take, List.length_drop, HT.sIx_none, show (1 + (0 + (i : Int))) = ((1 + i : Nat) : Int) by omega, HT.sIx_nat, hb8]
        have : bs.length = 8 := by rw [← hb8, Array.length_toList]; rfl
        omega
      exact ⟨_, rfl, _, rfl, _, _, rfl, rfl, _, rfl, bs, rfl, by omega, qq _ _ (.text _) (Kp.refl p c _) dd (.text _) ⟨_, rfl, b1, b2⟩⟩
    obtain ⟨s4, rfl, hs4'⟩ := each_of (o := 0) (f := .text) (R := fun j s => Lt 8 s ∧ s.cps.toList.length = 1 + j) p10
    have hs4 : ∀ s ∈ s4, Lt 8 s := fun s hs => by
      obtain ⟨j, hj⟩ := List.mem_iff_getElem?.mp hs
      exact (hs4' j s hj).1
    have nd4 : s4.Nodup := nodup_ix fun i j a hi hj => by
      have h1 := (hs4' i a hi).2
      have h2 := (hs4' j a hj).2
      omega
    have ls4 : s4.length = many := by simpa using l10
    rw [y10.texts_inv] at e10
    have d10' : Deck H10 p c (m + 11) := d10
    clear d10
    have e10w : H10 wl = some (.lst (words.map V.str)) := k10 _ _ wp wc e9w
    have e10s : H10 D2 = some (.lst (ss.map V.str)) := k10 _ _ a2p a2c e9s
    have e10t : H10 D3 = some (.lst (s3.map V.str)) := k10 _ _ a3p a3c e9
    have k10' : Kp p c H H10 := k9'.trans k10
    refine ⟨by show 3 ≤ sizeLine; decide, fun L1 nL => ?_⟩
    have sL := same_upd (o := .lst [.ref D2, .ref D3, .ref D4]) nL
    have k11 : Kp p c H (upd H10 L1 (.lst [.ref D2, .ref D3, .ref D4])) := k10'.trans (.of_same sL)
    have d11 := d10'.of_same sL
    have e11L : (upd H10 L1 (.lst [.ref D2, .ref D3, .ref D4])) L1 = some (.lst [.ref D2, .ref D3, .ref D4]) := upd_same
    have e11w := sL _ _ e10w
    have e11s := sL _ _ e10s
    have e11t := sL _ _ e10t
    have e11u := sL _ _ e10
    obtain ⟨Lp, Lc⟩ := d10'.nep nL
    generalize upd H10 L1 (.lst [.ref D2, .ref D3, .ref D4]) = H11 at k11 d11 e11L e11w e11s e11t e11u ⊢
    refine ⟨_, rfl, _, rfl, (many : Int), rfl, by omega, by omega, fun D5 hD5 => ?_⟩
    obtain ⟨a5p, a5c⟩ := d11.nep hD5
    have f5 : H D5 = none := k11.none_back hD5 a5p a5c
    refine cdi_range (K := K) (j := 8) (m := m + 11) (d := 0) (n := many) (Pk := fun j k => ∃ s, k = .text s ∧ (Lt 8 s ∧ words[((fi + 3 * (0 + ((0 + j : Nat) : Int))) % 14).toNat]? = some s)) d11 hD5 (by omega) (fun i H' Q' hi kk dd qq => ?_) fun H12 vs ks k12 d12 e12 y12 l12 p12 => ?_
    · have z := emod_bd (fi + 3 * (0 + (i : Int))) (b := 14) (by decide)
      obtain ⟨sw, hsw⟩ : ∃ sw, words[((fi + 3 * (0 + (i : Int))) % 14).toNat]? = some sw := ⟨_, List.getElem?_eq_getElem (by rw [words_ok.1]; omega)⟩
      have hva : atI (words.map V.str) ((fi + 3 * (0 + (i : Int))) % 14) = some (V.str sw) := by
        have e : (fi + 3 * (0 + (i : Int))) % 14 = ((((fi + 3 * (0 + (i : Int))) % 14).toNat : Nat) : Int) := by omega
        rw [e]
        exact atI_nat (by rw [List.getElem?_map, hsw]; rfl)
      refine ⟨_, rfl, _, rfl, _, rfl, _, _, rfl, rfl, .inl ⟨by decide, by decide⟩, _, _, rfl, rfl, _, _, rfl, rfl, (by show (0 : Int) < 14; decide), wl, _, _, _, rfl, rfl, SqL.of (kk _ _ wp wc e11w), hva, qq _ _ (.text _) (Kp.refl p c _) dd (.text _) ⟨_, rfl, words_ok.2 sw (List.mem_of_getElem? hsw), by rw [Nat.zero_add]; exact hsw⟩⟩
    obtain ⟨s5, rfl, hs5'⟩ := each_of (o := 0) (f := .text) (R := fun j s => Lt 8 s ∧ words[((fi + 3 * (0 + (j : Int))) % 14).toNat]? = some s) p12
    have hs5 : ∀ s ∈ s5, Lt 8 s := fun s hs => by
      obtain ⟨j, hj⟩ := List.mem_iff_getElem?.mp hs
      exact (hs5' j s hj).1
    have ls5' : s5.length = many := by simpa using l12
    have nd5 : s5.Nodup := nodup_ix fun i j a hi hj => by
      have i1 := (List.getElem?_eq_some_iff.mp hi).1
      have j1 := (List.getElem?_eq_some_iff.mp hj).1
      have h1 := (hs5' i a hi).2
      have h2 := (hs5' j a hj).2
      have z := (List.getElem?_inj (List.getElem?_eq_some_iff.mp h1).1 words_nd).mp (h1.trans h2.symm)
      have zi := emod_bd (fi + 3 * (0 + ((0 + i : Nat) : Int))) (b := 14) (by decide)
      have zj := emod_bd (fi + 3 * (0 + ((0 + j : Nat) : Int))) (b := 14) (by decide)
      omega
    have ls5 : s5.length = many := by simpa using l12
    rw [y12.texts_inv] at e12
    have d12' : Deck H12 p c (m + 11) := d12
    clear d12
    have e12s : H12 D2 = some (.lst (ss.map V.str)) := k12 _ _ a2p a2c e11s
    have e12t : H12 D3 = some (.lst (s3.map V.str)) := k12 _ _ a3p a3c e11t
    have e12u : H12 D4 = some (.lst (s4.map V.str)) := k12 _ _ a4p a4c e11u
    have e12L : H12 L1 = some (.lst [.ref D2, .ref D3, .ref D4]) := k12 _ _ Lp Lc e11L
    have k12' : Kp p c H H12 := k11.trans k12
    refine ⟨by show 1 ≤ sizeLine; decide, fun L2 n2 => ?_⟩
    have sM := same_upd (o := .lst [.ref D5]) n2
    have eM : (upd H12 L2 (.lst [.ref D5])) L2 = some (.lst [.ref D5]) := upd_same
    refine ⟨L1, L2, _, _, rfl, rfl, sM _ _ e12L, eM, by show 3 + 1 ≤ sizeLine; decide, fun L3 n3 => ?_⟩
    have sN := same_upd (o := .lst ([.ref D2, .ref D3, .ref D4] ++ [.ref D5])) n3
    have eN : (upd (upd H12 L2 (.lst [.ref D5])) L3 (.lst ([.ref D2, .ref D3, .ref D4] ++ [.ref D5]))) L3 = some (.lst ([.ref D2, .ref D3, .ref D4] ++ [.ref D5])) := upd_same
    have s2 := sM.trans sN
    have fin : ∀ (r : Addr) (ns : List Str), H r = none → H12 r = some (.lst (ns.map V.str)) → ns.length = many → ns.Nodup → (∀ s ∈ ns, Lt 8 s) → Q (.ref r) (upd (upd H12 L2 (.lst [.ref D5])) L3 (.lst ([.ref D2, .ref D3, .ref D4] ++ [.ref D5]))) :=
      fun r ns h1 h2 h3 hn4 h4 => q _ r ns (k12'.trans (.of_same s2)) (d12'.of_same s2) h1 (s2 _ _ h2) h3 hn4 h4
    have wy : way = 0 ∨ way = 1 ∨ way = 2 ∨ way = 3 := by omega
    rcases wy with rfl | rfl | rfl | rfl
    · exact ⟨_, rfl, L3, _, _, _, rfl, rfl, SqL.of eN, atI_nat (j := 0) rfl, fin _ _ f2 e12s ls nds fun s h => (hss s h).mono (by decide)⟩
    · exact ⟨_, rfl, L3, _, _, _, rfl, rfl, SqL.of eN, atI_nat (j := 1) rfl, fin _ _ f3 e12t ls3 nd3 hs3⟩
    · exact ⟨_, rfl, L3, _, _, _, rfl, rfl, SqL.of eN, atI_nat (j := 2) rfl, fin _ _ f4 e12u ls4 nd4 hs4⟩
    · exact ⟨_, rfl, L3, _, _, _, rfl, rfl, SqL.of eN, atI_nat (j := 3) rfl, fin _ _ f5 e12 ls5 nd5 hs5⟩
end
end Eh
set_option Elab.async false
set_option linter.all false
set_option maxRecDepth 100000
set_option maxHeartbeats 4000000
/-! sorted(xs), xs a list of keys that are tuples; keys of canon. -/
namespace NS
open PySem PySem.W PyProof.Rows L2
theorem canon_perm (ks : List NestedKey) : (canon ks).Perm (once ks) := by
  have e : ((once ks).map fun k => ((0 : Addr), k)).map (·.2) = once ks := by
    rw [List.map_map]
    exact List.map_id _
  have z := (List.mergeSort_perm ((once ks).map fun k => ((0 : Addr), k)) (dataLe false fun q : Addr × NestedKey => q.2.data)).map (·.2)
  rw [e] at z
  exact z
theorem mem_canon {x : NestedKey} {ks : List NestedKey} : x ∈ canon ks ↔ x ∈ ks := by
  rw [(canon_perm ks).mem_iff]
  exact mem_once ks
theorem once_le : ∀ ks : List NestedKey, (once ks).length ≤ ks.length
  | [] => Nat.le_refl _
  | k :: ks => by
    have z := once_le ks
    unfold once
    split
    · rw [List.length_cons]; omega
    · rw [List.length_cons, List.length_cons]; omega
theorem canon_le (ks : List NestedKey) : (canon ks).length ≤ ks.length := by
  rw [(canon_perm ks).length_eq]
  exact once_le ks
theorem canon_nodup (ks : List NestedKey) : (canon ks).Nodup := (canon_perm ks).nodup_iff.mpr (once_nodup ks)
/-- two lists with the same keys have one canon -/
theorem canon_congr {ks ls : List NestedKey} (h : ∀ x, x ∈ ks ↔ x ∈ ls) (al : ∀ a ∈ ks, ∀ b ∈ ks, alike a.data b.data = true) : canon ks = canon ls := by
  have e : ∀ l : List NestedKey, ((once l).map fun k => ((0 : Addr), k)).map (·.2) = once l := fun l => by
    rw [List.map_map]
    exact List.map_id _
  refine canon_is (L := (once ks).map fun k => ((0 : Addr), k)) (by rw [e]; exact once_nodup ks) (fun k => ?_) fun q hq r hr => ?_
  · rw [e, mem_once]
    exact h k
  · obtain ⟨a, ha, rfl⟩ := List.mem_map.mp hq
    obtain ⟨b, hb, rfl⟩ := List.mem_map.mp hr
    exact al a ((mem_once ks).mp ha) b ((mem_once ks).mp hb)
/-- sorted(xs): the same rows, in another order -/
def rSortedL (K : PySem.W.Frag) : List V → Hp → VK → Prop := fun vs H Q => ∃ (a : Addr) (L : List (Addr × NestedKey)), vs = [V.ref a] ∧ SqL K H a (L.map fun p => V.ref p.1) ∧ KeysAt K H L ∧ (∀ q ∈ L, ∀ r ∈ L, PySem.W.alike q.2.data r.2.data = true) ∧ (∀ q ∈ L, ∃ x r, q.2.data = .tuple (x :: r)) ∧ L.length < 64 ∧
  ∀ (L1 : List (Addr × NestedKey)) (p : Addr), L1.Perm L → H p = none → Q (.ref p) (upd H p (.lst (L1.map fun q => V.ref q.1)))
section
variable {X : Cx}
theorem cr_sortedL (hc : X.calm = true) (hu : X.A.units + 64 < cLine) : CallR X (.builtin "sorted") (rSortedL X.K) := by
  intro pins s σ H vs us Q I r h
  obtain ⟨a, L, rfl, hl, hk, hal, hne, few, q⟩ := h
  rw [Vals.ref1 r]
  obtain ⟨its, rv, pl, hz⟩ := I.list hl
  have ev : its = L.map fun q => Value.ref q.1 := by simpa using refs_back rv
  have er0 : EachIs (fun v (q : Addr × NestedKey) => v = Value.ref q.1 ∧ q ∈ L) its L := by
    rw [ev]
    exact each_refs L (fun q => q ∈ L) fun q h => h
  refine PySem.W.sorted_data (l := a) (vs := its) (bs := L) (enc := fun q : Addr × NestedKey => q.2.data) (R := fun v q => v = Value.ref q.1 ∧ q ∈ L) pl.isList er0 (er0.mono fun v q ⟨e, hq⟩ => ⟨[], by rw [e]; exact (reads_keys I hk q hq).1⟩) ?_ (.inl fun d hd' => ?_) ?_ (fun q hq => ?_) fun out lo eo => ?_
  · intro d hd' d' hd2
    obtain ⟨q, hq, rfl⟩ := List.mem_map.mp hd'
    obtain ⟨r, hr, rfl⟩ := List.mem_map.mp hd2
    exact hal q hq r hr
  · obtain ⟨q, hq, rfl⟩ := List.mem_map.mp hd'
    exact hne q hq
  · rw [sizeLine_eq]
    omega
  · have h8 := (hk q hq).2
    have hd8 : q.2.data.depth ≤ 8 := by rw [data_depth]; exact h8
    show X.A.units + 2 + q.2.data.depth < cLine
    omega
  · obtain ⟨c, hcc⟩ := sortedAll_at s.heap its (List.toArray out)
    have hn : H (s.heap.objs.size + 1) = none := I.hok.fresh (Nat.le_succ _)
    have hout : out = (L.mergeSort (dataLe false fun q : Addr × NestedKey => q.2.data)).map fun q => Value.ref q.1 := refs_each eo
    have hv : Vals ((L.mergeSort (dataLe false fun q : Addr × NestedKey => q.2.data)).map fun q => V.ref q.1) (List.toArray out).toList := by
      rw [hout]
      simpa using refs_on (L.mergeSort (dataLe false fun q : Addr × NestedKey => q.2.data))
    have hlen : ((L.mergeSort (dataLe false fun q : Addr × NestedKey => q.2.data)).map fun q => V.ref q.1).length ≤ sizeLine := by rw [List.length_map, List.length_mergeSort, sizeLine_eq]; omega
    have k : ∀ b o, s.heap.get? b = some o → (sortedAll s.heap its (List.toArray out)).get? b = some o := fun b o e => sortedAll_old e
    have J := I.laid (t' := s.toks) (a := s.heap.objs.size + 1) (o := .lst ((L.mergeSort (dataLe false fun q : Addr × NestedKey => q.2.data)).map fun q => V.ref q.1)) k (Nat.le_succ _) ⟨hlen, (List.toArray out).toList, c, hv, by rw [Array.toArray_toList]; exact hcc⟩
    exact ⟨.ref (s.heap.objs.size + 1), _, J, rfl, q _ _ (List.mergeSort_perm _ _) hn⟩
end
/-- pairs of values and keys -/
theorem pairs_of {K : PySem.W.Frag} {H : Hp} : ∀ {ks : List NestedKey} {vs : List V}, DpAll K H vs (NestedKey.datas ks) → (∀ k ∈ ks, ∃ l, k = .tup l) → (∀ k ∈ ks, k.depth ≤ 8) → ∃ L : List (Addr × NestedKey), vs = L.map (fun p => V.ref p.1) ∧ L.map (·.2) = ks ∧ KeysAt K H L
  | [], vs, h, _, _ => by
    rw [NestedKey.datas] at h
    cases h
    exact ⟨[], rfl, rfl, fun p hp => by cases hp⟩
  | k :: ks, vs, h, t, d => by
    rw [NestedKey.datas] at h
    cases h with
    | cons h1 h2 =>
      obtain ⟨L, rfl, e, at_⟩ := pairs_of h2 (fun k hk => t k (List.mem_cons_of_mem _ hk)) fun k hk => d k (List.mem_cons_of_mem _ hk)
      obtain ⟨l, rfl⟩ := t k List.mem_cons_self
      have d8 := d _ List.mem_cons_self
      have h1' := h1
      rw [NestedKey.data] at h1'
      cases h1' with
      | tup a b =>
        refine ⟨(_, .tup l) :: L, rfl, by rw [List.map_cons, e], fun p hp => ?_⟩
        rcases List.mem_cons.mp hp with z | z
        · rw [z]; exact ⟨h1, d8⟩
        · exact at_ p z
theorem keys_back {K : PySem.W.Frag} {H : Hp} : ∀ {L : List (Addr × NestedKey)}, KeysAt K H L → DpAll K H (L.map fun p => V.ref p.1) (NestedKey.datas (L.map (·.2)))
  | [], _ => by
    rw [List.map_nil, List.map_nil, NestedKey.datas]
    exact .nil
  | p :: L, h => by
    rw [List.map_cons, List.map_cons, NestedKey.datas]
    exact .cons (h p List.mem_cons_self).1 (keys_back fun q hq => h q (List.mem_cons_of_mem _ hq))
theorem ne_data {k : NestedKey} (h : ∃ a r, k = .tup (a :: r)) : ∃ x r, k.data = .tuple (x :: r) := by
  obtain ⟨a, r, rfl⟩ := h
  exact ⟨_, _, by rw [NestedKey.data, NestedKey.datas]⟩
/-- keys that a set may hold and sorted may order -/
structure Fit (ks : List NestedKey) : Prop where
  tup : ∀ k ∈ ks, ∃ a r, k = .tup (a :: r)
  dep : ∀ k ∈ ks, k.depth ≤ 8
  al : ∀ a ∈ ks, ∀ b ∈ ks, alike a.data b.data = true
/-- tuple(sorted(set(xs))) -/
theorem sst {K : PySem.W.Frag} {P : Program} {w : World} {H : Hp} {l : Addr} {vs : List V} {ks : List NestedKey} {Q : VK} (hl : SqL K H l vs) (hk : DpAll K H vs (NestedKey.datas ks)) (f : Fit ks) (few : ks.length < 64)
    (q : ∀ (H' : Hp) (r : Addr), Same H H' → Dp K H' (.ref r) (NestedKey.tup (canon ks)).data → Q (.ref r) H') :
    rSetOfN K P w [.ref l] H fun y H2 => rSortedN K P w [y] H2 fun z H3 => rTupOf K [z] H3 Q := by
  obtain ⟨L, rfl, e, ka⟩ := pairs_of hk (fun k hk => by obtain ⟨a, r, e⟩ := f.tup k hk; exact ⟨_, e⟩) f.dep
  have mem : ∀ p ∈ L, p.2 ∈ ks := fun p hp => by rw [← e]; exact List.mem_map.mpr ⟨p, hp, rfl⟩
  refine set_sorted_tuple (ks := L) hl ka (by rw [← e, List.length_map] at few; exact few) (fun a ha b hb => f.al _ (mem a ha) _ (mem b hb)) (fun a ha => ne_data (f.tup _ (mem a ha))) fun H' r L2 s e2 sub t => ?_
  refine q H' r s ?_
  rw [NestedKey.data]
  refine .tup t ?_
  rw [e] at e2
  rw [← e2]
  exact keys_back fun p hp => (ka.same s) p (sub p hp)
/-- sorted(set(xs)) -/
theorem ss_list {K : PySem.W.Frag} {P : Program} {w : World} {H : Hp} {l : Addr} {vs : List V} {ks : List NestedKey} {Q : VK} (hl : SqL K H l vs) (hk : DpAll K H vs (NestedKey.datas ks)) (f : Fit ks) (few : ks.length < 64)
    (q : ∀ (H' : Hp) (r : Addr) (us : List V), Same H H' → H r = none → H' r = some (.lst us) → DpAll K H' us (NestedKey.datas (canon ks)) → Q (.ref r) H') :
    rSetOfN K P w [.ref l] H fun y H2 => rSortedN K P w [y] H2 Q := by
  obtain ⟨ps, rfl, e, ka⟩ := pairs_of hk (fun k hk => by obtain ⟨a, r, e⟩ := f.tup k hk; exact ⟨_, e⟩) f.dep
  have mem : ∀ p ∈ ps, p.2 ∈ ks := fun p hp => by rw [← e]; exact List.mem_map.mpr ⟨p, hp, rfl⟩
  refine ⟨l, ps, rfl, hl, ka, by rw [← e, List.length_map] at few; exact few, fun a L na sub all nd => ?_⟩
  have s1 : Same H (upd H a (SetNO P w a L)) := up_same na
  refine ⟨a, L, rfl, upd_same, (fun p hp => ka.same s1 p (sub p hp)), fun q hq r hr => f.al _ (mem q (sub q hq)) _ (mem r (sub r hr)), fun q hq => ne_data (f.tup _ (mem q (sub q hq))), fun L1 p pm nd1 f1 np => ?_⟩
  have s2 : Same (upd H a (SetNO P w a L)) (upd (upd H a (SetNO P w a L)) p (.lst ((rowsSorted L1).map fun q => V.ref q.1))) := up_same np
  have np0 : H p = none := by
    cases z : H p with
    | none => rfl
    | some o => rw [s1 _ _ z] at np; cases np
  refine q _ p _ (s1.trans s2) np0 upd_same ?_
  have ek : (rowsSorted L1).map (·.2) = canon ks := by
    refine canon_is nd1 (fun k => ?_) fun x hx y hy => f.al _ (mem x (sub x (pm.mem_iff.mp hx))) _ (mem y (sub y (pm.mem_iff.mp hy)))
    rw [(pm.map (·.2)).mem_iff, ← e]
    constructor
    · intro h
      obtain ⟨x, hx, rfl⟩ := List.mem_map.mp h
      exact List.mem_map.mpr ⟨x, sub x hx, rfl⟩
    · intro h
      obtain ⟨x, hx, rfl⟩ := List.mem_map.mp h
      exact all x hx
  rw [← ek]
  exact keys_back fun x hx => (ka.same (s1.trans s2)) x (sub x (pm.mem_iff.mp ((List.mergeSort_perm L1 _).mem_iff.mp hx)))
/-- tuple(sorted(xs)) -/
theorem s_tuple {K : PySem.W.Frag} {H : Hp} {l : Addr} {vs : List V} {ks : List NestedKey} {Q : VK} (hl : SqL K H l vs) (hk : DpAll K H vs (NestedKey.datas ks)) (f : Fit ks) (few : ks.length < 64)
    (q : ∀ (H' : Hp) (r : Addr) (ls : List NestedKey), Same H H' → ls.Perm ks → Dp K H' (.ref r) (NestedKey.tup ls).data → Q (.ref r) H') :
    rSortedL K [.ref l] H fun z H3 => rTupOf K [z] H3 Q := by
  obtain ⟨L, rfl, e, ka⟩ := pairs_of hk (fun k hk => by obtain ⟨a, r, e⟩ := f.tup k hk; exact ⟨_, e⟩) f.dep
  have mem : ∀ p ∈ L, p.2 ∈ ks := fun p hp => by rw [← e]; exact List.mem_map.mpr ⟨p, hp, rfl⟩
  refine ⟨l, L, rfl, hl, ka, fun q hq r hr => f.al _ (mem q hq) _ (mem r hr), fun q hq => ne_data (f.tup _ (mem q hq)), by rw [← e, List.length_map] at few; exact few, fun L1 p pm np => ?_⟩
  have s1 := up_same (o := .lst (L1.map fun q => V.ref q.1)) np
  refine ⟨p, _, rfl, .inl ⟨SqL.of upd_same, fun r nr => q _ r (L1.map (·.2)) (s1.trans (up_same nr)) (by rw [← e]; exact pm.map _) ?_⟩⟩
  rw [NestedKey.data]
  exact .tup (SqT.of upd_same) (keys_back fun x hx => (ka.same (s1.trans (up_same nr))) x (pm.mem_iff.mp hx))
end NS
set_option Elab.async false
set_option linter.all false
set_option maxRecDepth 100000
set_option maxHeartbeats 8000000
/-! refs, target -/
namespace Eh
open PySem PySem.Spec PyProof.Rows L2 NS
def numsK (ns : List Nat) : NestedKey := .tup (ns.map fun n : Nat => .num n)
theorem nats_kys {K : PySem.W.Frag} {H : Hp} : ∀ ns : List Nat, Kys K H (ns.map fun n : Nat => V.int n) (ns.map fun n : Nat => .num n)
  | [] => .nil
  | n :: r => .cons (.num n) (nats_kys r)
theorem nats_inv {K : PySem.W.Frag} {H : Hp} : ∀ {ns : List Nat} {vs : List V}, Kys K H vs (ns.map fun n : Nat => .num n) → vs = ns.map fun n : Nat => V.int n
  | [], vs, h => h.nil_inv
  | n :: r, vs, h => by
    obtain ⟨v, u, rfl, a, b⟩ := h.cons_inv
    rw [a.num_inv, nats_inv b]
    rfl
theorem numsK_inv {K : PySem.W.Frag} {H : Hp} {v : V} {ns : List Nat} (h : Ky K H v (numsK ns)) : ∃ a, v = .ref a ∧ SqT K H a (ns.map fun n : Nat => V.int n) := by
  obtain ⟨a, vs, rfl, t, e⟩ := h.tup_inv
  rw [nats_inv e] at t
  exact ⟨a, rfl, t⟩
theorem nats_of {z : Nat} : ∀ {ks : List NestedKey}, (∀ k ∈ ks, ∃ s : Nat, k = .num s ∧ s < z) → ∃ ss : List Nat, ks = ss.map (fun n : Nat => .num n) ∧ ∀ s ∈ ss, s < z
  | [], _ => ⟨[], rfl, fun _ h => by cases h⟩
  | k :: ks, h => by
    obtain ⟨s, rfl, hs⟩ := h k List.mem_cons_self
    obtain ⟨ss, rfl, hh⟩ := nats_of fun k hk => h k (List.mem_cons_of_mem _ hk)
    exact ⟨s :: ss, rfl, fun x hx => by
      rcases List.mem_cons.mp hx with e | e
      · rw [e]; exact hs
      · exact hh x e⟩
abbrev NRf : List Str := ["_law_deck_here", "_law_many", "_law_size", "_law_k"]
theorem scRefs : FnScope NRf ["_law_deck_here", "_law_many", "_law_size"] (defScope sRefs) := ⟨rfl, rfl, rfl, by decide +kernel, rfl, by decide +kernel, by decide +kernel⟩
abbrev NTg : List Str := ["_law_deck_here", "_law_slots", "_law_size", "_law_mode", "_law_k"]
theorem scTarget : FnScope NTg ["_law_deck_here", "_law_slots", "_law_size"] (defScope sTarget) := ⟨rfl, rfl, rfl, by decide +kernel, rfl, by decide +kernel, by decide +kernel⟩
/-- a crash, a target -/
def crK (x : Nat × List Nat) : NestedKey := .tup [.num x.1, numsK x.2]
section
variable {P : Program} {w : World} {K : PySem.W.Frag} {mg : Str → Option Value} {base : Heap}
def spRefs (K : PySem.W.Frag) : Sp := fun us H Q _ => ∃ (p c : Addr) (m many size : Nat), us = [.ref p, .int many, .int size] ∧ Deck H p c m ∧ m < 900000 ∧ many ≤ 8 ∧ (many = 0 ∨ 0 < size) ∧ size < 1000000 ∧
  ∀ (H' : Hp) (v : V) (ns : List Nat), Kp p c H H' → Deck H' p c (m + 8) → ns.length = many → (∀ n ∈ ns, n < size) → Ky K H' v (numsK ns) → Q v H'
theorem ok_refs {f fD : Addr} {fd fdD : FuncData} {k : Nat} (F : Fun K "_law_refs" "_law_refs" sRefs f fd) (FD : Fun K "_law_draw" "_law_draw" sDraw fD fdD) (bD : Binds K fdD ["_law_deck_here", "_law_many"] []) (gD : mg "_law_draw" = some (.ref fD)) (mr : mg "range" = none) (mt : mg "tuple" = none) :
    FnOk P w K mg base CX0 (k + 2) f fd ["_law_deck_here", "_law_many", "_law_size"] (spRefs K) := by
  have GD : FnOk P w K mg base CX0 (k + 1) fD fdD ["_law_deck_here", "_law_many"] spDraw := ok_draw FD
  refine F.ok scRefs (fun us H Q E h => ?_) (fun cdv A outer s H us Q E hr h => ?_)
  · obtain ⟨p, c, m, many, size, rfl, _⟩ := h
    rfl
  · obtain ⟨p, c, m, many, size, rfl, dk, hm, hn, hz, hs, q⟩ := h
    refine ⟨_, pss_one (ps_ret (pe_callTy call_tuple_of (by rfl) mt (by decide +kernel) (pa_cons (pe_lc (own := [("_law_k", 3)]) (g := gName 3) (tt := tYes) rfl scRefs.nd (pi_range1 rfl mr (pa_cons (pv 1) pa_nil)) (blkOk_by (N := NRf) (sc := defScope sRefs) (by decide +kernel))
            (fun _ _ _ _ _ => pg_name (i := 3) scRefs.nd rfl (.inl rfl)) (fun _ _ _ _ _ => pts_nil) (fun _ _ _ _ _ => pe_call GD hr (by rfl) gD FD.kp bD .nil pass0 (pa_cons (pv 0) (pa_cons (pv 2) pa_nil)))) pa_nil))), ?_⟩
    refine ⟨_, rfl, (many : Int), rfl, by omega, by omega, fun D hD => ?_⟩
    refine cd_range (K := K) (m := m) (d := 1) (n := many) (Pk := fun k => ∃ s : Nat, k = .num s ∧ s < size) dk hD (by omega) (fun i H' Q' hi kk dd qq => ?_) fun H5 vs ks k5 d5 e5 y5 l5 p5 => ?_
    · refine ⟨_, rfl, _, rfl, p, c, _, (size : Int), rfl, dd, by omega, by omega, by omega, fun H6 j kj dj j0 j1 => ?_⟩
      obtain ⟨jn, rfl⟩ : ∃ jn : Nat, j = (jn : Int) := ⟨j.toNat, by omega⟩
      exact qq _ _ (.num jn) kj (by rw [Nat.succ_mul, ← Nat.add_assoc]; exact dj) (.num jn) ⟨jn, rfl, by omega⟩
    · obtain ⟨ns, rfl, hns⟩ := nats_of p5
      have ln : ns.length = many := by simpa using l5
      refine ⟨D, _, rfl, .inl ⟨SqL.of e5, fun r nr => q _ _ ns (k5.trans (.of_same (same_upd nr))) ?_ ln hns (.tup (SqT.of upd_same) (y5.tk (.new nr)))⟩⟩
      exact (d5.of_same (same_upd nr)).mono (by omega)
/-- a target: a mode and as many references as it has slots -/
def TgOk (sl : List Nat) (size : Nat) (x : Nat × List Nat) : Prop := sl[x.1]? = some x.2.length ∧ ∀ n ∈ x.2, n < size
def spTarget (K : PySem.W.Frag) : Sp := fun us H Q _ => ∃ (p c : Addr) (m size : Nat) (v : V) (sl : List Nat), us = [.ref p, v, .int size] ∧ Ky K H v (numsK sl) ∧ Deck H p c m ∧ m < 899000 ∧ size < 1000000 ∧ sl[0]? = some 0 ∧ sl.length ≤ 8 ∧ (∀ n ∈ sl, n ≤ 8) ∧
  ∀ (H' : Hp) (v : V) (x : Nat × List Nat), Kp p c H H' → Deck H' p c (m + 9) → TgOk sl size x → Ky K H' v (crK x) → Q v H'
def tTT (K : PySem.W.Frag) : TT := tOr (tTest (tOp rEq (tOp (rIxT K) (tVar 1) (tVar 4)) (tC (.int 0)))) (tTest (tOp (rI0 fun i j => .bl (decide (j < i))) (tVar 2) (tC (.int 0))))
theorem ok_target {f fD fP fR : Addr} {fd fdD fdP fdR : FuncData} {k : Nat} (F : Fun K "_law_target" "_law_target" sTarget f fd) (FD : Fun K "_law_draw" "_law_draw" sDraw fD fdD) (bD : Binds K fdD ["_law_deck_here", "_law_many"] []) (gD : mg "_law_draw" = some (.ref fD))
    (FP : Fun K "_law_pick" "_law_pick" sPick fP fdP) (bP : Binds K fdP ["_law_deck_here", "_law_some"] []) (gP : mg "_law_pick" = some (.ref fP)) (FR : Fun K "_law_refs" "_law_refs" sRefs fR fdR) (bR : Binds K fdR ["_law_deck_here", "_law_many", "_law_size"] []) (gR : mg "_law_refs" = some (.ref fR))
    (mr : mg "range" = none) (mt : mg "tuple" = none) (ml : mg "len" = none) :
    FnOk P w K mg base CX0 (k + 3) f fd ["_law_deck_here", "_law_slots", "_law_size"] (spTarget K) := by
  have GP : FnOk P w K mg base CX0 (k + 2) fP fdP ["_law_deck_here", "_law_some"] (spPick K) := ok_pick FP FD bD gD ml
  have GR : FnOk P w K mg base CX0 (k + 2) fR fdR ["_law_deck_here", "_law_many", "_law_size"] (spRefs K) := ok_refs FR FD bD gD mr mt
  refine F.ok scTarget (fun us H Q E h => ?_) (fun cdv A outer s H us Q E hr h => ?_)
  · obtain ⟨p, c, m, size, v, sl, rfl, _⟩ := h
    rfl
  · obtain ⟨p, c, m, size, v, sl, rfl, ys, dk, hm, hs, h0, hl, hb, q⟩ := h
    obtain ⟨sa, rfl, st⟩ := numsK_inv ys
    refine ⟨_, pss_cons (ps_set (i := 3) scTarget.nd rfl (.inl rfl) (pe_call GP hr (by rfl) gP FP.kp bP .nil pass0 (pa_cons (pv 0) (pa_cons
          (pe_lc (own := [("_law_k", 4)]) (g := gName 4) (tt := tTT K) (te := tVar 4) rfl scTarget.nd (pi_range1 rfl mr (pa_cons (pe_callB call_len_seq (by rfl) ml PySem.boot_len (pa_cons (pv 1) pa_nil)) pa_nil)) (blkOk_by (N := NTg) (sc := defScope sTarget) (by decide +kernel))
            (fun _ _ _ _ _ => pg_name (i := 4) scTarget.nd rfl (.inl rfl)) (fun _ _ _ _ _ => pts_one (PW.pt (pw_or (pt_cmpR op_eq (pe_ix ix_tup (pv 1) (pv 4) (fun _ _ => rfl)) pe_int (nomark _)) (pw_or1 (pt_cmpR op_gt (pv 2) pe_int (nomark _)))))) (fun _ _ _ _ _ => pv 4)) pa_nil))))
      (pss_one (ps_ret (pe_tup (pa_cons (pv 3) (pa_cons (pe_call GR hr (by rfl) gR FR.kp bR .nil pass0 (pa_cons (pv 0) (pa_cons (pe_ix ix_tup (pv 1) (pv 3) (fun _ _ => rfl)) (pa_cons (pv 2) pa_nil)))) pa_nil))))), ?_⟩
    refine ⟨_, rfl, _, rfl, sa, _, rfl, .inr st, (((sl.map fun n : Nat => V.int n).length : Nat) : Int), rfl, by omega, by rw [List.length_map]; omega, fun D hD => ?_⟩
    obtain ⟨nDp, nDc⟩ := dk.nep hD
    have sl0 : 0 < sl.length := (List.getElem?_eq_some_iff.mp h0).1
    refine lc_range (n := (sl.map fun n : Nat => V.int n).length) (fun i H' => Same H H' ∧ ∃ ks : List Nat, H' D = some (.lst (ks.map fun n : Nat => V.int n)) ∧ (∀ k ∈ ks, k < sl.length ∧ (sl[k]? = some 0 ∨ 0 < size)) ∧ (0 < i → 0 < ks.length) ∧ ks.length ≤ i) ⟨same_upd hD, [], upd_same, fun _ h => (by cases h), fun h => absurd h (Nat.lt_irrefl 0), Nat.le_refl 0⟩ ?_ ?_
    · rintro i H' hi ⟨s1, ks, e1, e2, e3, e4⟩
      rw [List.length_map] at hi
      obtain ⟨z, hz⟩ : ∃ z, sl[i]? = some z := ⟨_, List.getElem?_eq_getElem hi⟩
      have hzi : (sl.map fun n : Nat => V.int n)[i]? = some (V.int z) := by rw [List.getElem?_map, hz]; rfl
      have at_i : atI (sl.map fun n : Nat => V.int n) (0 + (i : Int)) = some (V.int z) := by rw [Int.zero_add]; exact atI_nat hzi
      refine ⟨rfl, ?_⟩
      have keep : (sl[i]? = some 0 ∨ 0 < size) → ∃ acc, H' D = some (.lst acc) ∧ acc.length < sizeLine ∧ (Same H (upd H' D (.lst (acc ++ [V.int (0 + (i : Int))]))) ∧ ∃ ks' : List Nat, (upd H' D (.lst (acc ++ [V.int (0 + (i : Int))]))) D = some (.lst (ks'.map fun n : Nat => V.int n)) ∧ (∀ k ∈ ks', k < sl.length ∧ (sl[k]? = some 0 ∨ 0 < size)) ∧ (0 < i + 1 → 0 < ks'.length) ∧ ks'.length ≤ i + 1) := fun hk => by
        refine ⟨_, e1, ?_, fun b o h => ?_, ks ++ [i], ?_, fun k hk' => ?_, fun _ => ?_, ?_⟩
        · rw [List.length_map]
          have h9 : 1000 ≤ sizeLine := by decide
          omega
        · rw [upd_ne (fun z => by rw [z, hD] at h; cases h)]
          exact s1 _ _ h
        · rw [upd_same, List.map_append, Int.zero_add]
          rfl
        · rcases List.mem_append.mp hk' with z | z
          · exact e2 k z
          · rw [List.mem_singleton.mp z]
            exact ⟨hi, hk⟩
        · rw [List.length_append]; exact Nat.succ_pos _
        · rw [List.length_append]; exact Nat.succ_le_succ e4
      refine ⟨_, rfl, _, rfl, sa, _, _, _, rfl, rfl, sqT_of s1 st, at_i, rfl, _, rfl, ?_⟩
      by_cases hz0 : z = 0
      · subst hz0
        refine iteT ?_
        refine iteT ?_
        exact ⟨_, rfl, keep (.inl hz)⟩
      · have hne : decide (V.int (z : Int) = V.int 0) = false := decide_eq_false fun h => by
          injection h with h
          omega
        rw [hne]
        refine iteF ?_
        refine ⟨_, rfl, _, _, rfl, rfl, _, rfl, ?_⟩
        by_cases hsz : 0 < size
        · rw [decide_eq_true (by omega)]
          refine iteT ?_
          exact ⟨_, rfl, keep (.inr hsz)⟩
        · rw [decide_eq_false (by omega)]
          refine iteF ?_
          refine ⟨s1, ks, e1, e2, fun _ => ?_, Nat.le_succ_of_le e4⟩
          refine e3 ?_
          rcases Nat.eq_zero_or_pos i with hi0 | hi0
          · rw [hi0, h0] at hz
            cases hz
            exact absurd rfl hz0
          · exact hi0
    · rintro H1 ⟨s1, ks, e1, e2, e3, e4⟩
      have kpos : 0 < ks.length := e3 (by rw [List.length_map]; exact sl0)
      rw [List.length_map] at e4
      refine ⟨p, c, D, m, _, rfl, dk.of_same s1, by omega, .inl ⟨SqL.of e1, nDp, nDc⟩, by rw [List.length_map]; exact kpos, by rw [List.length_map]; omega, fun H2 i v k2 d2 hv => ?_⟩
      rw [List.getElem?_map] at hv
      cases hki : ks[i]? with
      | none => rw [hki] at hv; cases hv
      | some md =>
        rw [hki] at hv
        cases hv
        obtain ⟨md1, md2⟩ := e2 md (List.mem_of_getElem? hki)
        obtain ⟨z, hz⟩ : ∃ z, sl[md]? = some z := ⟨_, List.getElem?_eq_getElem md1⟩
        have hzi : (sl.map fun n : Nat => V.int n)[md]? = some (V.int z) := by rw [List.getElem?_map, hz]; rfl
        have k02 : Kp p c H H2 := (Kp.of_same s1).trans k2
        have t02 : TK K H H2 := .kp dk k02
        refine ⟨_, rfl, _, rfl, _, rfl, _, rfl, sa, _, _, _, rfl, rfl, t02 _ _ st, atI_nat hzi, _, rfl, p, c, m + 1, z, size, rfl, d2, by omega, hb z (List.mem_of_getElem? hz), ?_, hs, fun H3 v3 ns k3 d3 l3 b3 y3 => ?_⟩
        · rcases md2 with h | h
          · rw [hz] at h
            cases h
            exact .inl rfl
          · exact .inr h
        · refine ⟨by show 2 ≤ sizeLine; decide, fun r nr => ?_⟩
          refine q _ _ (md, ns) ((k02.trans k3).trans (.of_same (same_upd nr))) (d3.of_same (same_upd nr)) ⟨by rw [hz, l3], b3⟩ (.tup (SqT.of upd_same) (.cons (.num _) (.one (y3.tk (.new nr)))))
end
end Eh
set_option Elab.async false
set_option linter.all false
set_option maxRecDepth 100000
set_option maxHeartbeats 8000000
/-! case -/
namespace Eh
open PySem PySem.Spec PyProof.Rows L2 NS
abbrev NCs : List Str := ["_law_deck_here", "_law_slots", "_law_size", "_law_replies", "_law_found", "_law_turn", "_law_reply", "_law_many", "_law_pair"]
theorem scCase : FnScope NCs ["_law_deck_here", "_law_slots", "_law_size", "_law_replies"] (defScope sCase) := ⟨rfl, rfl, rfl, by decide +kernel, rfl, by decide +kernel, by decide +kernel⟩
structure Outc where
  reply : Str
  res : List Nat
  after : Nat
  ns : List Nat
def outK (o : Outc) : NestedKey := .tup [.text o.reply, numsK o.res, .num o.after, numsK o.ns]
structure OutOk (sl : List Nat) (size : Nat) (o : Outc) : Prop where
  lt : Lt 8 o.reply
  few : o.res.length ≤ 2
  res : ∀ n ∈ o.res, n < size
  tg : TgOk sl size (o.after, o.ns)
def OutP (sl : List Nat) (size : Nat) (k : NestedKey) : Prop := ∃ o, k = outK o ∧ OutOk sl size o
def repK (r : Str × Nat) : NestedKey := .tup [.text r.1, .num r.2]
theorem nats_depth : ∀ l : List Nat, NestedKey.depthAll (l.map fun n : Nat => .num n) = 0
  | [] => by simp [NestedKey.depthAll]
  | n :: l => by rw [List.map_cons, NestedKey.depthAll, nats_depth l, NestedKey.depth]; rfl
theorem nats_alike : ∀ l m : List Nat, PySem.W.alikeAll (NestedKey.datas (l.map fun n : Nat => .num n)) (NestedKey.datas (m.map fun n : Nat => .num n)) = true
  | [], _ => by rw [List.map_nil, NestedKey.datas, PySem.W.alikeAll]
  | _ :: _, [] => by rw [List.map_cons, List.map_nil, NestedKey.datas, NestedKey.datas, PySem.W.alikeAll]
  | a :: l, b :: m => by
    rw [List.map_cons, List.map_cons, NestedKey.datas, NestedKey.datas, PySem.W.alikeAll, NestedKey.data, NestedKey.data, PySem.W.alike, nats_alike l m]
    rfl
theorem outK_fit {ks : List NestedKey} (h : ∀ k ∈ ks, ∃ o, k = outK o) : Fit ks where
  tup k hk := by
    obtain ⟨o, rfl⟩ := h k hk
    exact ⟨_, _, rfl⟩
  dep k hk := by
    obtain ⟨o, rfl⟩ := h k hk
    simp [outK, numsK, NestedKey.depth, NestedKey.depthAll, nats_depth]
  al a ha b hb := by
    obtain ⟨o, rfl⟩ := h a ha
    obtain ⟨o', rfl⟩ := h b hb
    simp [outK, numsK, NestedKey.data, NestedKey.datas, PySem.W.alike, PySem.W.alikeAll, nats_alike]
theorem crK_fit {ks : List NestedKey} (h : ∀ k ∈ ks, ∃ o, k = crK o) : Fit ks where
  tup k hk := by
    obtain ⟨o, rfl⟩ := h k hk
    exact ⟨_, _, rfl⟩
  dep k hk := by
    obtain ⟨o, rfl⟩ := h k hk
    simp [crK, numsK, NestedKey.depth, NestedKey.depthAll, nats_depth]
  al a ha b hb := by
    obtain ⟨o, rfl⟩ := h a ha
    obtain ⟨o', rfl⟩ := h b hb
    simp [crK, numsK, NestedKey.data, NestedKey.datas, PySem.W.alike, PySem.W.alikeAll, nats_alike]
theorem Ky.tup2 {K : PySem.W.Frag} {H : Hp} {v : V} {a b : NestedKey} (h : Ky K H v (.tup [a, b])) : ∃ p x y, v = .ref p ∧ SqT K H p [x, y] ∧ Ky K H x a ∧ Ky K H y b := by
  obtain ⟨p, vs, rfl, t, e⟩ := h.tup_inv
  obtain ⟨x, r, rfl, hx, e⟩ := e.cons_inv
  obtain ⟨y, r, rfl, hy, e⟩ := e.cons_inv
  rw [e.nil_inv] at t
  exact ⟨p, x, y, rfl, t, hx, hy⟩
section
variable {P : Program} {w : World} {K : PySem.W.Frag} {mg : Str → Option Value} {base : Heap}
structure RepsOk (reps : List (Str × Nat)) : Prop where
  first : ∃ s, reps[0]? = some (s, 0)
  few : reps.length ≤ 8
  ok : ∀ r ∈ reps, Lt 8 r.1 ∧ r.2 ≤ 2
def spCase (K : PySem.W.Frag) : Sp := fun us H Q _ => ∃ (p c rl : Addr) (m size : Nat) (v : V) (sl : List Nat) (rvs : List V) (reps : List (Str × Nat)), us = [.ref p, v, .int size, .ref rl] ∧ Ky K H v (numsK sl) ∧ H rl = some (.lst rvs) ∧ rl ≠ p ∧ rl ≠ c ∧ Kys K H rvs (reps.map repK) ∧ RepsOk reps ∧
  Deck H p c m ∧ m < 898000 ∧ size < 1000000 ∧ sl[0]? = some 0 ∧ sl.length ≤ 8 ∧ (∀ n ∈ sl, n ≤ 8) ∧
  ∀ (H' : Hp) (v : V) (ks : List NestedKey), Kp p c H H' → Deck H' p c (m + 100) → (∀ k ∈ ks, OutP sl size k) → 0 < ks.length → ks.length ≤ 3 → Ky K H' v (.tup ks) → Q v H'
def tTC (K : PySem.W.Frag) : TT := tOr (tTest (tOp rEq (tOp (rIxT K) (tVar 8) (tC (.int 1))) (tC (.int 0)))) (tTest (tOp (rI0 fun i j => .bl (decide (j < i))) (tVar 2) (tC (.int 0))))
theorem ok_case {f fD fP fR fT : Addr} {fd fdD fdP fdR fdT : FuncData} {k : Nat} (F : Fun K "_law_case" "_law_case" sCase f fd) (FD : Fun K "_law_draw" "_law_draw" sDraw fD fdD) (bD : Binds K fdD ["_law_deck_here", "_law_many"] []) (gD : mg "_law_draw" = some (.ref fD))
    (FP : Fun K "_law_pick" "_law_pick" sPick fP fdP) (bP : Binds K fdP ["_law_deck_here", "_law_some"] []) (gP : mg "_law_pick" = some (.ref fP)) (FR : Fun K "_law_refs" "_law_refs" sRefs fR fdR) (bR : Binds K fdR ["_law_deck_here", "_law_many", "_law_size"] []) (gR : mg "_law_refs" = some (.ref fR))
    (FT : Fun K "_law_target" "_law_target" sTarget fT fdT) (bT : Binds K fdT ["_law_deck_here", "_law_slots", "_law_size"] []) (gT : mg "_law_target" = some (.ref fT))
    (mr : mg "range" = none) (mt : mg "tuple" = none) (ml : mg "len" = none) (ms : mg "set" = none) (mo : mg "sorted" = none) :
    FnOk P w K mg base CX0 (k + 4) f fd ["_law_deck_here", "_law_slots", "_law_size", "_law_replies"] (spCase K) := by
  have GD : FnOk P w K mg base CX0 (k + 3) fD fdD ["_law_deck_here", "_law_many"] spDraw := ok_draw FD
  have GP : FnOk P w K mg base CX0 (k + 3) fP fdP ["_law_deck_here", "_law_some"] (spPick K) := ok_pick FP FD bD gD ml
  have GR : FnOk P w K mg base CX0 (k + 3) fR fdR ["_law_deck_here", "_law_many", "_law_size"] (spRefs K) := ok_refs FR FD bD gD mr mt
  have GT : FnOk P w K mg base CX0 (k + 3) fT fdT ["_law_deck_here", "_law_slots", "_law_size"] (spTarget K) := ok_target FT FD bD gD FP bP gP FR bR gR mr mt ml
  refine F.ok scCase (fun us H Q E h => ?_) (fun cdv A outer s H us Q E hr h => ?_)
  · obtain ⟨p, c, rl, m, size, v, sl, rvs, reps, rfl, _⟩ := h
    rfl
  · obtain ⟨p, c, rl, m, size, v, sl, rvs, reps, rfl, ys, e0, np, nc, yr, ro, dk, hm, hs, h0, hl, hb, q⟩ := h
    have hu : (cxOf CX0 P w K mg base NCs "_law_case" (defScope sCase) f cdv A outer s H E).nox.A.units + 64 < cLine := hr.units
    refine ⟨_, pss_cons (ps_set (i := 4) scCase.nd rfl (.inl rfl) (pe_lst pa_nil))
      (pss_cons (ps_for PassesOwn.never rfl (pi_range1 rfl mr (pa_cons (pe_op op_add pe_int (pe_call GD hr (by rfl) gD FD.kp bD .nil pass0 (pa_cons (pv 0) (pa_cons pe_int pa_nil)))) pa_nil)) (pg_name (i := 5) scCase.nd rfl (.inl rfl))
        (pss_cons (ps_asg (pe_call GP hr (by rfl) gP FP.kp bP .nil pass0 (pa_cons (pv 0) (pa_cons
          (pe_lc (own := [("_law_pair", 8)]) (g := gName 8) (tt := tTC K) (te := tVar 8) rfl scCase.nd (pi_list (pv 3)) (blkOk_by (N := NCs) (sc := defScope sCase) (by decide +kernel))
            (fun _ _ _ _ _ => pg_name (i := 8) scCase.nd rfl (.inl rfl)) (fun _ _ _ _ _ => pts_one (PW.pt (pw_or (pt_cmpR op_eq (pe_ix ix_tup (pv 8) pe_int (fun _ _ => rfl)) pe_int (nomark _)) (pw_or1 (pt_cmpR op_gt (pv 2) pe_int (nomark _)))))) (fun _ _ _ _ _ => pv 8)) pa_nil)))
          (pg_tup rfl (pgs_cons (pg_name (i := 6) scCase.nd rfl (.inl rfl)) (pgs_cons (pg_name (i := 7) scCase.nd rfl (.inl rfl)) pgs_nil))))
        (pss_one (ps_expr (pe_bm PySem.F.plainAttrs_list PySem.F.slot_list_append PySem.F.type_list_append mt_append (pv 4) (pa_cons (pe_op op_catA (pe_tup (pa_cons (pv 6) (pa_cons (pe_call GR hr (by rfl) gR FR.kp bR .nil pass0 (pa_cons (pv 0) (pa_cons (pv 7) (pa_cons (pv 2) pa_nil)))) pa_nil)))
            (pe_call GT hr (by rfl) gT FT.kp bT .nil pass0 (pa_cons (pv 0) (pa_cons (pv 1) (pa_cons (pv 2) pa_nil))))) pa_nil))))))
      (pss_one (ps_ret (pe_callTy call_tuple_of (by rfl) mt (by decide +kernel) (pa_cons (pe_callB (cr_sortedN rfl hu) (by rfl) mo (by decide +kernel) (pa_cons (pe_callTy (cr_setOfN rfl hu) (by rfl) ms (by decide +kernel) (pa_cons (pv 4) pa_nil)) pa_nil)) pa_nil))))), ?_⟩
    refine ⟨by show 0 ≤ sizeLine; decide, fun fl nf => ?_⟩
    obtain ⟨nfp, nfc⟩ := dk.nep nf
    have s1 : Same H (upd H fl (.lst [])) := same_upd nf
    have e1 : (upd H fl (.lst [])) fl = some (.lst []) := upd_same
    show tSeq _ _ _ _ (upd H fl (.lst []))
    generalize upd H fl (.lst []) = H1 at s1 e1 ⊢
    refine ⟨_, rfl, p, c, m, 3, rfl, dk.of_same s1, by omega, by decide, by decide, fun H2 r k2 d2 r0 r1 => ?_⟩
    obtain ⟨rn, rfl⟩ : ∃ rn : Nat, r = (rn : Int) := ⟨r.toNat, by omega⟩
    refine ⟨_, _, rfl, rfl, _, rfl, by omega, by omega, ?_⟩
    have e2 : H2 fl = some (.lst []) := k2 _ _ nfp nfc e1
    have k02 : Kp p c H H2 := (Kp.of_same s1).trans k2
    rw [show ((1 + (rn : Int)).toNat) = 1 + rn by omega]
    refine for_range (n := 1 + rn) (fun i σ H' => Kp p c H H' ∧ Deck H' p c (m + 1 + i * 18) ∧ (∃ vs ks, H' fl = some (.lst vs) ∧ Kys K H' vs ks ∧ ks.length = i ∧ ∀ k ∈ ks, OutP sl size k) ∧ ∃ a b d e, σ = [some (.ref p), some v, some (.int size), some (.ref rl), some (.ref fl), a, b, d, e])
      ⟨k02, by rw [Nat.zero_mul]; exact d2, ⟨[], [], e2, .nil, rfl, fun _ h => (by cases h)⟩, _, _, _, _, rfl⟩ ?_ ?_
    · rintro i σ H3 hi ⟨k3, d3, ⟨vs, ks, e3, y3, l3, p3⟩, a, b, d, e, rfl⟩
      have t3 : TK K H H3 := .kp dk k3
      have er3 : H3 rl = some (.lst rvs) := k3 _ _ np nc e0
      have yr3 := yr.tk t3
      refine ⟨_, rfl, _, rfl, rl, rfl, ⟨_, SqL.of er3⟩, fun D hD => ?_⟩
      obtain ⟨nDp, nDc⟩ := d3.nep hD
      refine lc_list (xs := rvs) (fun j H' => Same H3 H' ∧ ∃ us : List V, H' D = some (.lst us) ∧ (∀ u ∈ us, ∃ rp ∈ reps, Ky K H3 u (repK rp) ∧ (rp.2 = 0 ∨ 0 < size)) ∧ (0 < j → 0 < us.length) ∧ us.length ≤ j) ⟨same_upd hD, [], upd_same, fun _ h => (by cases h), fun h => absurd h (Nat.lt_irrefl 0), Nat.le_refl 0⟩ (fun j H' hj z => SqL.of (z.1 _ _ er3)) ?_ ?_
      · rintro j x H' hx ⟨s4, us, f1, f2, f3, f4⟩
        have hj := (List.getElem?_eq_some_iff.mp hx).1
        rw [yr.length, List.length_map] at hj
        have rf := ro.few
        obtain ⟨kk, hk, hy⟩ := yr3.at hx
        rw [List.getElem?_map] at hk
        cases hrp : reps[j]? with
        | none => rw [hrp] at hk; cases hk
        | some rp =>
          rw [hrp] at hk
          cases hk
          have hmem := List.mem_of_getElem? hrp
          obtain ⟨ta, tx, ty, rfl, tt, tx1, ty1⟩ := hy.tup2
          rw [tx1.text_inv, ty1.num_inv] at tt
          refine ⟨rfl, ?_⟩
          have keep : (rp.2 = 0 ∨ 0 < size) → ∃ acc, H' D = some (.lst acc) ∧ acc.length < sizeLine ∧ (Same H3 (upd H' D (.lst (acc ++ [V.ref ta]))) ∧ ∃ us' : List V, (upd H' D (.lst (acc ++ [V.ref ta]))) D = some (.lst us') ∧ (∀ u ∈ us', ∃ rp ∈ reps, Ky K H3 u (repK rp) ∧ (rp.2 = 0 ∨ 0 < size)) ∧ (0 < j + 1 → 0 < us'.length) ∧ us'.length ≤ j + 1) := fun hk => by
            refine ⟨_, f1, ?_, fun b o h => ?_, us ++ [V.ref ta], upd_same, fun u hu' => ?_, fun _ => ?_, ?_⟩
            · have h9 : 1000 ≤ sizeLine := by decide
              omega
            · rw [upd_ne (fun z => by rw [z, hD] at h; cases h)]
              exact s4 _ _ h
            · rcases List.mem_append.mp hu' with z | z
              · exact f2 u z
              · rw [List.mem_singleton.mp z]
                exact ⟨rp, hmem, hy, hk⟩
            · rw [List.length_append]; exact Nat.succ_pos _
            · rw [List.length_append]; exact Nat.succ_le_succ f4
          refine ⟨_, rfl, ta, _, 1, _, rfl, rfl, sqT_of s4 tt, atI_nat (j := 1) rfl, rfl, _, rfl, ?_⟩
          by_cases hz0 : rp.2 = 0
          · rw [hz0]
            refine iteT ?_
            refine iteT ?_
            exact ⟨_, rfl, keep (.inl hz0)⟩
          · have hne : decide (V.int (rp.2 : Int) = V.int 0) = false := decide_eq_false fun h => by
              injection h with h
              omega
            rw [hne]
            refine iteF ?_
            refine ⟨_, rfl, _, _, rfl, rfl, _, rfl, ?_⟩
            by_cases hsz : 0 < size
            · rw [decide_eq_true (by omega)]
              refine iteT ?_
              exact ⟨_, rfl, keep (.inr hsz)⟩
            · rw [decide_eq_false (by omega)]
              refine iteF ?_
              refine ⟨s4, us, f1, f2, fun _ => ?_, Nat.le_succ_of_le f4⟩
              refine f3 ?_
              rcases Nat.eq_zero_or_pos j with hj0 | hj0
              · obtain ⟨s0, hs0⟩ := ro.first
                rw [hj0, hs0] at hrp
                cases hrp
                exact absurd rfl hz0
              · exact hj0
      · rintro H4 ⟨s4, us, f1, f2, f3, f4⟩
        have rl1 : rvs.length = reps.length := by rw [yr.length, List.length_map]
        have rpos : 0 < reps.length := by
          obtain ⟨s0, hs0⟩ := ro.first
          exact (List.getElem?_eq_some_iff.mp hs0).1
        have upos := f3 (by omega)
        have rf := ro.few
        refine ⟨p, c, D, _, us, rfl, d3.of_same s4, by omega, .inl ⟨SqL.of f1, nDp, nDc⟩, upos, by omega, fun H5 j u k5 d5 hu5 => ?_⟩
        obtain ⟨rp, hrp, hy, hk⟩ := f2 u (List.mem_of_getElem? hu5)
        have t35 : TK K H3 H5 := (TK.same s4).trans (.kp (d3.of_same s4) k5)
        obtain ⟨ta, tx, ty, rfl, tt, tx1, ty1⟩ := (hy.tk t35).tup2
        rw [tx1.text_inv, ty1.num_inv] at tt
        obtain ⟨o1, o2⟩ := ro.ok rp hrp
        refine ⟨ta, _, rfl, tt, rfl, _, _, rfl, _, _, rfl, rfl, ?_⟩
        have k35 : Kp p c H3 H5 := (Kp.of_same s4).trans k5
        have e5 : H5 fl = some (.lst vs) := k35 _ _ nfp nfc e3
        refine ⟨_, rfl, .inl ⟨rfl, _, SqL.of e5⟩, ?_⟩
        refine ⟨_, rfl, _, rfl, _, rfl, _, rfl, p, c, _, rp.2, size, rfl, d5, by omega, by omega, hk, hs, fun H6 v6 ns6 k6 d6 l6 b6 y6 => ?_⟩
        refine ⟨by show 2 ≤ sizeLine; decide, fun t7 n7 => ?_⟩
        have s7 : Same H6 (upd H6 t7 (.tup [.str rp.1, v6])) := same_upd n7
        have e7 : (upd H6 t7 (.tup [.str rp.1, v6])) t7 = some (.tup [.str rp.1, v6]) := upd_same
        have d7 : Deck (upd H6 t7 (.tup [.str rp.1, v6])) p c (m + 1 + i * 18 + 1 + 8) := d6.of_same s7
        generalize upd H6 t7 (.tup [.str rp.1, v6]) = H7 at s7 e7 d7 ⊢
        have k37 : Kp p c H3 H7 := (k35.trans k6).trans (.of_same s7)
        have t07 : TK K H H7 := .kp dk (k3.trans k37)
        refine ⟨_, rfl, _, rfl, _, rfl, p, c, _, size, v, sl, rfl, ys.tk t07, d7, by omega, hs, h0, hl, hb, fun H8 v8 x8 k8 d8 g8 y8 => ?_⟩
        obtain ⟨ca, cx, cy, rfl, ct, cx1, cy1⟩ := y8.tup2
        rw [cx1.num_inv] at ct
        have e8 : SqT K H8 t7 [.str rp.1, v6] := TK.kp d7 k8 _ _ (SqT.of e7)
        refine ⟨t7, ca, _, _, rfl, rfl, e8, ct, by show 2 + 2 ≤ sizeLine; decide, fun z => (by cases z), fun _ z => (by cases z), fun _ _ r nr => ?_⟩
        have k38 : Kp p c H3 H8 := k37.trans k8
        have s9 : Same H8 (upd H8 r (.tup ([.str rp.1, v6] ++ [.int x8.1, cy]))) := same_upd nr
        have e9 : (upd H8 r (.tup ([.str rp.1, v6] ++ [.int x8.1, cy]))) r = some (.tup ([.str rp.1, v6] ++ [.int x8.1, cy])) := upd_same
        have d9 : Deck (upd H8 r (.tup ([.str rp.1, v6] ++ [.int x8.1, cy]))) p c (m + 1 + i * 18 + 1 + 8 + 9) := d8.of_same s9
        generalize upd H8 r (.tup ([.str rp.1, v6] ++ [.int x8.1, cy])) = H9 at s9 e9 d9 ⊢
        have k39 : Kp p c H3 H9 := k38.trans (.of_same s9)
        have f9 : H9 fl = some (.lst vs) := k39 _ _ nfp nfc e3
        have t39 : TK K H3 H9 := .kp d3 k39
        have t69 : TK K H6 H9 := (TK.same s7).trans ((TK.kp d7 k8).trans (.same s9))
        have hkey : Ky K H9 (.ref r) (outK ⟨rp.1, ns6, x8.1, x8.2⟩) := .tup (SqT.of e9) (.cons (.text _) (.cons (y6.tk t69) (.cons (.num _) (.one (cy1.tk (.same s9))))))
        have tp := TK.put (K := K) (zs := vs ++ [.ref r]) f9
        have lv := y3.length
        refine ⟨fl, vs, _, rfl, rfl, f9, ?_, ?_⟩
        · have h9 : 1000 ≤ sizeLine := by decide
          omega
        · refine ⟨fun b' o b1 b2 h => ?_, (d9.put nfp nfc).mono (by omega), ⟨vs ++ [.ref r], ks ++ [outK ⟨rp.1, ns6, x8.1, x8.2⟩], upd_same, ((y3.tk t39).tk tp).app (.one (hkey.tk tp)), by rw [List.length_append, l3]; rfl, fun k hk' => ?_⟩, _, _, _, _, rfl⟩
          · rw [upd_ne (fun z => by rw [z, nf] at h; cases h)]
            exact k39 _ _ b1 b2 (k3 _ _ b1 b2 h)
          · rcases List.mem_append.mp hk' with z | z
            · exact p3 k z
            · rw [List.mem_singleton.mp z]
              exact ⟨_, rfl, o1, by show ns6.length ≤ 2; omega, b6, g8⟩
    · rintro σ H3 ⟨k3, d3, ⟨vs, ks, e3, y3, l3, p3⟩, a, b, d, e, rfl⟩
      refine ⟨_, rfl, ?_⟩
      refine sst (SqL.of e3) y3 (outK_fit fun k hk => by obtain ⟨o, e, _⟩ := p3 k hk; exact ⟨o, e⟩) (by omega) fun H4 r s4 y4 => ?_
      refine q H4 _ _ (k3.trans (.of_same s4)) ((d3.of_same s4).mono (by omega)) (fun k hk => p3 k (mem_canon.mp hk)) ?_ (Nat.le_trans (canon_le ks) (by omega)) y4
      rcases Nat.eq_zero_or_pos (canon ks).length with z | z
      · have ne : 0 < ks.length := by omega
        have m0 : ks[0] ∈ canon ks := mem_canon.mpr (List.getElem_mem ne)
        rw [List.length_eq_zero_iff.mp z] at m0
        cases m0
      · exact z
end
end Eh
set_option Elab.async false
set_option linter.all false
set_option maxRecDepth 100000
set_option maxHeartbeats 8000000
/-! held -/
namespace Eh
open PySem PySem.Spec PyProof.Rows L2 NS
abbrev NHd : List Str := ["_law_deck_here", "_law_many", "_law_way", "_law_first", "_law_some", "_law_k"]
theorem scHeld : FnScope NHd ["_law_deck_here", "_law_many", "_law_way"] (defScope sHeld) := ⟨rfl, rfl, rfl, by decide +kernel, rfl, by decide +kernel, by decide +kernel⟩
def Val (n : Int) : Prop := 0 ≤ n ∧ n ≤ 1000000000
theorem ints_of {R : Int → Prop} : ∀ {ks : List NestedKey}, (∀ k ∈ ks, ∃ s : Int, k = .num s ∧ R s) → ∃ ss : List Int, ks = ss.map .num ∧ ∀ s ∈ ss, R s
  | [], _ => ⟨[], rfl, fun _ h => by cases h⟩
  | k :: ks, h => by
    obtain ⟨s, rfl, hs⟩ := h k List.mem_cons_self
    obtain ⟨ss, rfl, hh⟩ := ints_of fun k hk => h k (List.mem_cons_of_mem _ hk)
    exact ⟨s :: ss, rfl, fun x hx => by
      rcases List.mem_cons.mp hx with e | e
      · rw [e]; exact hs
      · exact hh x e⟩
def intsK (ns : List Int) : NestedKey := .tup (ns.map .num)
section
variable {P : Program} {w : World} {K : PySem.W.Frag} {mg : Str → Option Value} {base : Heap}
def spHeld (K : PySem.W.Frag) : Sp := fun us H Q _ => ∃ (p c : Addr) (m many : Nat) (way : Int), us = [.ref p, .int many, .int way] ∧ Deck H p c m ∧ m < 900000 ∧ many ≤ 8 ∧ 0 ≤ way ∧ way < 4 ∧
  ∀ (H' : Hp) (v : V) (ns : List Int), Kp p c H H' → Deck H' p c (m + 9) → ns.length = many → (∀ n ∈ ns, Val n) → Ky K H' v (intsK ns) → Q v H'
theorem ok_held {f fD : Addr} {fd fdD : FuncData} {k : Nat} (F : Fun K "_law_held" "_law_held" sHeld f fd) (FD : Fun K "_law_draw" "_law_draw" sDraw fD fdD) (bD : Binds K fdD ["_law_deck_here", "_law_many"] []) (gD : mg "_law_draw" = some (.ref fD)) (mr : mg "range" = none) (mt : mg "tuple" = none) :
    FnOk P w K mg base CX0 (k + 2) f fd ["_law_deck_here", "_law_many", "_law_way"] (spHeld K) := by
  have GD : FnOk P w K mg base CX0 (k + 1) fD fdD ["_law_deck_here", "_law_many"] spDraw := ok_draw FD
  refine F.ok scHeld (fun us H Q E h => ?_) (fun cdv A outer s H us Q E hr h => ?_)
  · obtain ⟨p, c, m, many, way, rfl, _⟩ := h
    rfl
  · obtain ⟨p, c, m, many, way, rfl, dk, hm, hn, w0, w1, q⟩ := h
    refine ⟨_, pss_cons (ps_set (i := 3) scHeld.nd rfl (.inr rfl) (pe_call GD hr (by rfl) gD FD.kp bD .nil pass0 (pa_cons (pv 0) (pa_cons pe_int pa_nil))))
      (pss_cons (ps_set (i := 4) scHeld.nd rfl (.inl rfl) (pe_lst (pa_cons
          (pe_lc (own := [("_law_k", 5)]) (g := gName 5) (tt := tYes) rfl scHeld.nd (pi_range1 rfl mr (pa_cons (pv 1) pa_nil)) (blkOk_by (N := NHd) (sc := defScope sHeld) (by decide +kernel))
            (fun _ _ _ _ _ => pg_name (i := 5) scHeld.nd rfl (.inl rfl)) (fun _ _ _ _ _ => pts_nil) (fun _ _ _ _ _ => pe_op op_add (pv 3) (pv 5)))
          (pa_cons (pe_op op_rep (pe_lst (pa_cons (pv 3) pa_nil)) (pv 1))
          (pa_cons (pe_lc (own := [("_law_k", 5)]) (g := gName 5) (tt := tYes) (te := tOp (rIxL K) _ _) rfl scHeld.nd (pi_range1 rfl mr (pa_cons (pv 1) pa_nil)) (blkOk_by (N := NHd) (sc := defScope sHeld) (by decide +kernel))
            (fun _ _ _ _ _ => pg_name (i := 5) scHeld.nd rfl (.inl rfl)) (fun _ _ _ _ _ => pts_nil) (fun _ _ _ _ _ => pe_ix ix_list (pe_lst (pa_cons pe_int (pa_cons (pe_op op_pow pe_int pe_int) pa_nil))) (pe_op op_mod (pv 5) pe_int) (fun _ _ => rfl))) pa_nil)))))
      (pss_one (ps_ret (pe_callTy call_tuple_of (by rfl) mt (by decide +kernel) (pa_cons (pe_ix ix_list (pe_op op_cat (pv 4) (pe_lst (pa_cons
          (pe_lc (own := [("_law_k", 5)]) (g := gName 5) (tt := tYes) rfl scHeld.nd (pi_range1 rfl mr (pa_cons (pv 1) pa_nil)) (blkOk_by (N := NHd) (sc := defScope sHeld) (by decide +kernel))
            (fun _ _ _ _ _ => pg_name (i := 5) scHeld.nd rfl (.inl rfl)) (fun _ _ _ _ _ => pts_nil) (fun _ _ _ _ _ => pe_call GD hr (by rfl) gD FD.kp bD .nil pass0 (pa_cons (pv 0) (pa_cons pe_int pa_nil)))) pa_nil))) (pv 2) (fun _ _ => rfl)) pa_nil))))), ?_⟩
    refine ⟨_, rfl, p, c, m, 1000, rfl, dk, by omega, by decide, by decide, fun H1 fi k1 d1 f0 f1 => ?_⟩
    refine ⟨_, rfl, (many : Int), rfl, by omega, by omega, fun D1 hD1 => ?_⟩
    obtain ⟨a1p, a1c⟩ := d1.nep hD1
    refine cd_range (K := K) (m := m + 1) (d := 0) (n := many) (Pk := fun k => ∃ s : Int, k = .num s ∧ Val s) d1 hD1 (by omega) (fun i H' Q' hi kk dd qq => ?_) fun H2 vs ks k2 d2 e2 y2 l2 p2 => ?_
    · exact ⟨_, rfl, _, rfl, _, _, rfl, rfl, qq _ _ (.num _) (Kp.refl p c _) dd (.num _) ⟨_, rfl, by omega, by omega⟩⟩
    obtain ⟨n1, rfl, hn1⟩ := ints_of p2
    have l1 : n1.length = many := by simpa using l2
    rw [y2.nums_inv] at e2
    have d2' : Deck H2 p c (m + 1) := d2
    clear d2
    refine ⟨_, rfl, by show 1 ≤ sizeLine; decide, fun lx nx => ?_⟩
    have sx : Same H2 (upd H2 lx (.lst [.int fi])) := same_upd nx
    have ex : (upd H2 lx (.lst [.int fi])) lx = some (.lst [.int fi]) := upd_same
    have dx := d2'.of_same sx
    generalize upd H2 lx (.lst [.int fi]) = H3 at sx ex dx ⊢
    refine ⟨_, rfl, lx, (many : Int), _, rfl, rfl, ex, by omega, by omega, ?_, fun D2 hD2 => ?_⟩
    · have h9 : 1000 ≤ sizeLine := by decide
      show 1 * many ≤ sizeLine
      omega
    have er : (List.replicate ((many : Int)).toNat [V.int fi]).flatten = (List.replicate many fi).map V.int := by
      rw [Int.toNat_natCast, List.flatten_replicate_singleton, List.map_replicate]
    rw [er]
    obtain ⟨a2p, a2c⟩ := dx.nep hD2
    have s4 : Same H3 (upd H3 D2 (.lst ((List.replicate many fi).map V.int))) := same_upd hD2
    have e4 : (upd H3 D2 (.lst ((List.replicate many fi).map V.int))) D2 = some (.lst ((List.replicate many fi).map V.int)) := upd_same
    have d4 := dx.of_same s4
    generalize upd H3 D2 (.lst ((List.replicate many fi).map V.int)) = H4 at s4 e4 d4 ⊢
    have e4a : H4 D1 = some (.lst (n1.map V.int)) := s4 _ _ (sx _ _ e2)
    refine ⟨_, rfl, (many : Int), rfl, by omega, by omega, fun D3 hD3 => ?_⟩
    obtain ⟨a3p, a3c⟩ := d4.nep hD3
    refine cd_range (K := K) (m := m + 1) (d := 0) (n := many) (Pk := fun k => ∃ s : Int, k = .num s ∧ Val s) d4 hD3 (by omega) (fun i H' Q' hi kk dd qq => ?_) fun H5 vs ks k5 d5 e5 y5 l5 p5 => ?_
    · refine ⟨10, 9, rfl, rfl, ⟨by decide, by decide, by decide⟩, by show 2 ≤ sizeLine; decide, fun lz nz => ?_⟩
      have sz : Same H' (upd H' lz (.lst [V.int 0, V.int 1000000000])) := same_upd nz
      have ez : (upd H' lz (.lst [V.int 0, V.int 1000000000])) lz = some (.lst [V.int 0, V.int 1000000000]) := upd_same
      have z := emod_bd (0 + (i : Int)) (b := 2) (by decide)
      rcases (show (0 + (i : Int)) % 2 = ((0 : Nat) : Int) ∨ (0 + (i : Int)) % 2 = ((1 : Nat) : Int) by omega) with h | h
      · refine ⟨_, rfl, _, _, rfl, rfl, (by show (0 : Int) < 2; decide), lz, _, _, V.int 0, rfl, rfl, SqL.of ez, ?_, ?_⟩
        · rw [h]; exact atI_nat (j := 0) rfl
        · exact qq _ _ (.num 0) (.of_same sz) (dd.of_same sz) (.num 0) ⟨_, rfl, by decide, by decide⟩
      · refine ⟨_, rfl, _, _, rfl, rfl, (by show (0 : Int) < 2; decide), lz, _, _, V.int 1000000000, rfl, rfl, SqL.of ez, ?_, ?_⟩
        · rw [h]; exact atI_nat (j := 1) rfl
        · exact qq _ _ (.num 1000000000) (.of_same sz) (dd.of_same sz) (.num _) ⟨_, rfl, by decide, by decide⟩
    obtain ⟨n3, rfl, hn3⟩ := ints_of p5
    have l3 : n3.length = many := by simpa using l5
    rw [y5.nums_inv] at e5
    have d5' : Deck H5 p c (m + 1) := d5
    clear d5
    have e5a : H5 D1 = some (.lst (n1.map V.int)) := k5 _ _ a1p a1c e4a
    have e5b : H5 D2 = some (.lst ((List.replicate many fi).map V.int)) := k5 _ _ a2p a2c e4
    refine ⟨by show 3 ≤ sizeLine; decide, fun L1 nL => ?_⟩
    obtain ⟨aLp, aLc⟩ := d5'.nep nL
    have s6 : Same H5 (upd H5 L1 (.lst [.ref D1, .ref D2, .ref D3])) := same_upd nL
    have e6 : (upd H5 L1 (.lst [.ref D1, .ref D2, .ref D3])) L1 = some (.lst [.ref D1, .ref D2, .ref D3]) := upd_same
    have d6 := d5'.of_same s6
    have e6a := s6 _ _ e5a
    have e6b := s6 _ _ e5b
    have e6c := s6 _ _ e5
    generalize upd H5 L1 (.lst [.ref D1, .ref D2, .ref D3]) = H6 at s6 e6 d6 e6a e6b e6c ⊢
    have k06 : Kp p c H H6 := ((((((k1.trans k2).trans (.of_same sx)).trans (.of_same s4))).trans k5).trans (.of_same s6))
    refine ⟨_, rfl, _, rfl, (many : Int), rfl, by omega, by omega, fun D4 hD4 => ?_⟩
    refine cd_range (K := K) (m := m + 1) (d := 1) (n := many) (Pk := fun k => ∃ s : Int, k = .num s ∧ Val s) d6 hD4 (by omega) (fun i H' Q' hi kk dd qq => ?_) fun H7 vs ks k7 d7 e7 y7 l7 p7 => ?_
    · refine ⟨_, rfl, p, c, _, 3, rfl, dd, by omega, by decide, by decide, fun H8 j kj dj j0 j1 => ?_⟩
      exact qq _ _ (.num j) kj (by rw [Nat.succ_mul, ← Nat.add_assoc]; exact dj) (.num j) ⟨j, rfl, j0, by omega⟩
    obtain ⟨n4, rfl, hn4⟩ := ints_of p7
    have l4 : n4.length = many := by simpa using l7
    rw [y7.nums_inv] at e7
    have e7a : H7 D1 = some (.lst (n1.map V.int)) := k7 _ _ a1p a1c e6a
    have e7b : H7 D2 = some (.lst ((List.replicate many fi).map V.int)) := k7 _ _ a2p a2c e6b
    have e7c : H7 D3 = some (.lst (n3.map V.int)) := k7 _ _ a3p a3c e6c
    have e7L : H7 L1 = some (.lst [.ref D1, .ref D2, .ref D3]) := k7 _ _ aLp aLc e6
    have k07 : Kp p c H H7 := k06.trans k7
    refine ⟨by show 1 ≤ sizeLine; decide, fun L2 n2 => ?_⟩
    have sM := same_upd (o := .lst [.ref D4]) n2
    have eM : (upd H7 L2 (.lst [.ref D4])) L2 = some (.lst [.ref D4]) := upd_same
    refine ⟨L1, L2, _, _, rfl, rfl, sM _ _ e7L, eM, by show 3 + 1 ≤ sizeLine; decide, fun L3 n3' => ?_⟩
    have sN := same_upd (o := .lst ([.ref D1, .ref D2, .ref D3] ++ [.ref D4])) n3'
    have eN : (upd (upd H7 L2 (.lst [.ref D4])) L3 (.lst ([.ref D1, .ref D2, .ref D3] ++ [.ref D4]))) L3 = some (.lst ([.ref D1, .ref D2, .ref D3] ++ [.ref D4])) := upd_same
    have s2 := sM.trans sN
    have d9 := d7.of_same s2
    have k09 : Kp p c H _ := k07.trans (.of_same s2)
    have fin : ∀ (a : Addr) (ns : List Int), H7 a = some (.lst (ns.map V.int)) → ns.length = many → (∀ n ∈ ns, Val n) → rTupOf K [.ref a] (upd (upd H7 L2 (.lst [.ref D4])) L3 (.lst ([.ref D1, .ref D2, .ref D3] ++ [.ref D4]))) Q := fun a ns h1 h2 h3 => by
      refine ⟨a, _, rfl, .inl ⟨SqL.of (s2 _ _ h1), fun r nr => q _ _ ns (k09.trans (.of_same (same_upd nr))) ?_ h2 h3 (.tup (SqT.of upd_same) (Kys.nums ns))⟩⟩
      exact (d9.of_same (same_upd nr)).mono (by omega)
    have wy : way = ((0 : Nat) : Int) ∨ way = ((1 : Nat) : Int) ∨ way = ((2 : Nat) : Int) ∨ way = ((3 : Nat) : Int) := by omega
    rcases wy with rfl | rfl | rfl | rfl
    · exact ⟨_, rfl, L3, _, _, _, rfl, rfl, SqL.of eN, atI_nat (j := 0) rfl, fin _ _ e7a l1 hn1⟩
    · exact ⟨_, rfl, L3, _, _, _, rfl, rfl, SqL.of eN, atI_nat (j := 1) rfl, fin _ _ e7b (by rw [List.length_replicate]) fun n hn => by rw [List.eq_of_mem_replicate hn]; exact ⟨f0, by omega⟩⟩
    · exact ⟨_, rfl, L3, _, _, _, rfl, rfl, SqL.of eN, atI_nat (j := 2) rfl, fin _ _ e7c l3 hn3⟩
    · exact ⟨_, rfl, L3, _, _, _, rfl, rfl, SqL.of eN, atI_nat (j := 3) rfl, fin _ _ e7 l4 hn4⟩
end
end Eh
set_option Elab.async false
set_option linter.all false
set_option maxRecDepth 100000
set_option maxHeartbeats 4000000
/-! rows of crashes: closing them -/
namespace Eh
open PySem PySem.Spec PyProof.Rows L2 NS
abbrev Cr := Nat × List Nat
def thenC (x y : Cr) : Cr := (y.1, y.2.map fun n => x.2.getD n 0)
def tot (cs : List (List Cr)) : Nat := (cs.map (·.length)).sum
theorem tot_set : ∀ {cs : List (List Cr)} {m : Nat} {c : List Cr} (x : Cr), cs[m]? = some c → tot (cs.set m (c ++ [x])) = tot cs + 1
  | [], _, _, _, h => by cases h
  | d :: cs, 0, c, x, h => by
    cases h
    simp only [tot, List.set_cons_zero, List.map_cons, List.sum_cons, List.length_append, List.length_cons, List.length_nil]
    omega
  | d :: cs, m + 1, c, x, h => by
    have z := tot_set (cs := cs) (m := m) x (by simpa using h)
    simp only [tot, List.set_cons_succ, List.map_cons, List.sum_cons] at z ⊢
    omega
theorem tot_le : ∀ {cs : List (List Cr)}, (∀ c ∈ cs, c.length ≤ 4) → tot cs ≤ 4 * cs.length
  | [], _ => Nat.le_refl _
  | c :: cs, h => by
    have a := h c List.mem_cons_self
    have b := tot_le (cs := cs) fun d hd => h d (List.mem_cons_of_mem _ hd)
    simp only [tot, List.map_cons, List.sum_cons, List.length_cons] at b ⊢
    omega
structure Vld (sl : List Nat) (cs : List (List Cr)) : Prop where
  len : cs.length = sl.length
  ne : ∀ c ∈ cs, 0 < c.length
  ok : ∀ (m : Nat) (c : List Cr), cs[m]? = some c → ∀ x ∈ c, ∃ sz, sl[m]? = some sz ∧ TgOk sl sz x
def ClosedAt (cs : List (List Cr)) (m : Nat) : Prop := ∀ c : List Cr, cs[m]? = some c → ∀ x ∈ c, ∀ d : List Cr, cs[x.1]? = some d → ∀ y ∈ d, thenC x y ∈ c
def Closed (cs : List (List Cr)) : Prop := ∀ m, ClosedAt cs m
theorem thenC_ok {sl : List Nat} {sz sx : Nat} {x y : Cr} (hx : TgOk sl sz x) (hs : sl[x.1]? = some sx) (hy : TgOk sl sx y) : TgOk sl sz (thenC x y) := by
  have e : sx = x.2.length := by
    have z := hx.1
    rw [hs] at z
    exact Option.some.inj z
  refine ⟨?_, fun n hn => ?_⟩
  · rw [show (thenC x y).1 = y.1 from rfl, show (thenC x y).2.length = y.2.length from List.length_map ..]
    exact hy.1
  · obtain ⟨k, hk, rfl⟩ := List.mem_map.mp hn
    have lt := hy.2 k hk
    rw [e] at lt
    have ge : x.2.getD k 0 = x.2[k] := by simp [List.getD_eq_getElem?_getD, lt]
    show x.2.getD k 0 < sz
    rw [ge]
    exact hx.2 _ (List.getElem_mem lt)
theorem Vld.put {sl : List Nat} {cs : List (List Cr)} {m : Nat} {c : List Cr} {z : Cr} {sz : Nat} (v : Vld sl cs) (hc : cs[m]? = some c) (hs : sl[m]? = some sz) (hz : TgOk sl sz z) : Vld sl (cs.set m (c ++ [z])) where
  len := by rw [List.length_set]; exact v.len
  ne d hd := by
    rcases List.mem_or_eq_of_mem_set hd with h | h
    · exact v.ne d h
    · rw [h, List.length_append]; exact Nat.succ_pos _
  ok i d hd x hx := by
    rw [List.getElem?_set] at hd
    by_cases hi : m = i
    · subst hi
      rw [if_pos rfl, if_pos (List.getElem?_eq_some_iff.mp hc).1] at hd
      cases hd
      rcases List.mem_append.mp hx with h | h
      · exact v.ok m c hc x h
      · rw [List.mem_singleton.mp h]
        exact ⟨sz, hs, hz⟩
    · rw [if_neg hi] at hd
      exact v.ok i d hd x hx
/-- what has been reached in a pass that began with cs0 -/
def Acc (cs0 : List (List Cr)) (g : Bool) (cs : List (List Cr)) (C : Prop) : Prop := (g = true → tot cs0 < tot cs) ∧ (g = false → cs = cs0 ∧ C)
theorem Acc.le {cs0 cs : List (List Cr)} {g : Bool} {C : Prop} (a : Acc cs0 g cs C) : tot cs0 ≤ tot cs := by
  cases g with
  | true => exact Nat.le_of_lt (a.1 rfl)
  | false => rw [(a.2 rfl).1]; exact Nat.le_refl _
theorem Acc.imp {cs0 cs : List (List Cr)} {g : Bool} {C D : Prop} (a : Acc cs0 g cs C) (f : g = false → cs = cs0 → C → D) : Acc cs0 g cs D := ⟨a.1, fun h => ⟨(a.2 h).1, f h (a.2 h).1 (a.2 h).2⟩⟩
theorem Acc.put {cs0 cs : List (List Cr)} {g : Bool} {C D : Prop} {m : Nat} {c : List Cr} (a : Acc cs0 g cs C) (z : Cr) (hc : cs[m]? = some c) : Acc cs0 true (cs.set m (c ++ [z])) D := by
  refine ⟨fun _ => ?_, fun h => by cases h⟩
  rw [tot_set z hc]
  exact Nat.lt_succ_of_le a.le
/-! rows in the heap -/
structure RowsAt (K : PySem.W.Frag) (H : Hp) (rs : List Addr) (cs : List (List Cr)) : Prop where
  len : rs.length = cs.length
  nd : rs.Nodup
  row : ∀ (i : Nat) (r : Addr) (c : List Cr), rs[i]? = some r → cs[i]? = some c → ∃ vs, H r = some (.lst vs) ∧ Kys K H vs (c.map crK)
theorem RowsAt.keep {K : PySem.W.Frag} {H H' : Hp} {rs : List Addr} {cs : List (List Cr)} (h : RowsAt K H rs cs) (k : ∀ r ∈ rs, ∀ o, H r = some o → H' r = some o) (t : TK K H H') : RowsAt K H' rs cs where
  len := h.len
  nd := h.nd
  row i r c hr hc := by
    obtain ⟨vs, e, y⟩ := h.row i r c hr hc
    exact ⟨vs, k r (List.mem_of_getElem? hr) _ e, y.tk t⟩
theorem RowsAt.same {K : PySem.W.Frag} {H H' : Hp} {rs : List Addr} {cs : List (List Cr)} (h : RowsAt K H rs cs) (s : Same H H') : RowsAt K H' rs cs := h.keep (fun r _ o e => s r o e) (.same s)
theorem RowsAt.put {K : PySem.W.Frag} {H : Hp} {rs : List Addr} {cs : List (List Cr)} {m : Nat} {r : Addr} {c : List Cr} {vs : List V} {v : V} {z : Cr} (h : RowsAt K H rs cs) (hr : rs[m]? = some r) (hc : cs[m]? = some c) (hv : H r = some (.lst vs)) (hz : Ky K H v (crK z)) :
    RowsAt K (upd H r (.lst (vs ++ [v]))) rs (cs.set m (c ++ [z])) where
  len := by rw [List.length_set]; exact h.len
  nd := h.nd
  row i q d hq hd := by
    have t : TK K H (upd H r (.lst (vs ++ [v]))) := .put hv
    rw [List.getElem?_set] at hd
    by_cases hi : m = i
    · subst hi
      rw [if_pos rfl, if_pos (List.getElem?_eq_some_iff.mp hc).1] at hd
      cases hd
      rw [hr] at hq
      cases hq
      obtain ⟨us, e, y⟩ := h.row m r c hr hc
      rw [hv] at e
      cases e
      exact ⟨_, upd_same, by rw [List.map_append]; exact (y.tk t).app (.one (hz.tk t))⟩
    · rw [if_neg hi] at hd
      obtain ⟨us, e, y⟩ := h.row i q d hq hd
      have ne : q ≠ r := fun z => by
        subst z
        have i1 := (List.getElem?_eq_some_iff.mp hr).1
        exact hi ((List.getElem?_inj i1 h.nd).mp (hr.trans hq.symm))
      exact ⟨us, by rw [upd_ne ne]; exact e, y.tk t⟩
theorem crs_of {R : Cr → Prop} : ∀ {ks : List NestedKey}, (∀ k ∈ ks, ∃ s : Cr, k = crK s ∧ R s) → ∃ ss : List Cr, ks = ss.map crK ∧ ∀ s ∈ ss, R s
  | [], _ => ⟨[], rfl, fun _ h => by cases h⟩
  | k :: ks, h => by
    obtain ⟨s, rfl, hs⟩ := h k List.mem_cons_self
    obtain ⟨ss, rfl, hh⟩ := crs_of fun k hk => h k (List.mem_cons_of_mem _ hk)
    exact ⟨s :: ss, rfl, fun x hx => by
      rcases List.mem_cons.mp hx with e | e
      · rw [e]; exact hs
      · exact hh x e⟩
theorem nats_inj : ∀ {a b : List Nat}, a.map (fun n : Nat => NestedKey.num n) = b.map (fun n : Nat => NestedKey.num n) → a = b
  | [], [], _ => rfl
  | [], _ :: _, h => by cases h
  | _ :: _, [], h => by cases h
  | x :: a, y :: b, h => by
    simp only [List.map_cons, List.cons.injEq, NestedKey.num.injEq] at h
    rw [nats_inj h.2, Int.ofNat.inj h.1]
theorem numsK_inj {a b : List Nat} (h : numsK a = numsK b) : a = b := by
  unfold numsK at h
  injection h with h
  exact nats_inj h
theorem crK_inj {a b : Cr} (h : crK a = crK b) : a = b := by
  obtain ⟨a1, a2⟩ := a
  obtain ⟨b1, b2⟩ := b
  unfold crK at h
  simp only [NestedKey.tup.injEq, List.cons.injEq, NestedKey.num.injEq, and_true] at h
  obtain ⟨h1, h2⟩ := h
  rw [Int.ofNat.inj h1, numsK_inj h2]
theorem crK_mem {x : Cr} {c : List Cr} : crK x ∈ c.map crK ↔ x ∈ c := by
  constructor
  · intro h
    obtain ⟨y, hy, e⟩ := List.mem_map.mp h
    rw [← crK_inj e]
    exact hy
  · exact fun h => List.mem_map.mpr ⟨x, h, rfl⟩
/-- canon of a row's keys is a row's keys -/
theorem canon_cr (c : List Cr) : ∃ d : List Cr, canon (c.map crK) = d.map crK ∧ (∀ x, x ∈ d ↔ x ∈ c) ∧ d.length ≤ c.length := by
  obtain ⟨d, e, _⟩ := crs_of (R := fun _ => True) (ks := canon (c.map crK)) fun k hk => by
    obtain ⟨x, hx, rfl⟩ := List.mem_map.mp (mem_canon.mp hk)
    exact ⟨x, rfl, trivial⟩
  refine ⟨d, e, fun x => ?_, ?_⟩
  · rw [← crK_mem (c := d), ← e, mem_canon, crK_mem]
  · have z := canon_le (c.map crK)
    rw [e, List.length_map, List.length_map] at z
    exact z
theorem keys_any {ks : List NestedKey} {a : NestedKey} : (NestedKey.datas ks).any (fun z => PyData.eqv z a.data) = true ↔ a ∈ ks := by
  induction ks with
  | nil => rw [NestedKey.datas]; simp
  | cons k ks ih =>
    rw [NestedKey.datas, List.any_cons, Bool.or_eq_true, ih, eqv_beq, List.mem_cons]
    constructor
    · rintro (h | h)
      · exact .inl (NestedKey.eq_of_beq _ _ h).symm
      · exact .inr h
    · rintro (h | h)
      · rw [h]; exact .inl (NestedKey.beq_self k)
      · exact .inr h
theorem nats_lay : ∀ l : List Nat, PyData.canLayAll0 (NestedKey.datas (l.map fun n : Nat => .num n)) = true ∧ PyData.depthAll (NestedKey.datas (l.map fun n : Nat => .num n)) = 0
  | [] => by rw [List.map_nil, NestedKey.datas]; simp [PyData.canLayAll0, PyData.depthAll]
  | n :: l => by
    obtain ⟨a, b⟩ := nats_lay l
    rw [List.map_cons, NestedKey.datas, NestedKey.data, PyData.canLayAll0, PyData.depthAll, a, b]
    simp [PyData.canLay0, PyData.depth]
theorem cr_lay (c : Cr) : PyData.canLay0 (crK c).data = true ∧ (crK c).data.depth ≤ 2 := by
  obtain ⟨a, b⟩ := nats_lay c.2
  simp [crK, numsK, NestedKey.data, NestedKey.datas, PyData.canLay0, PyData.canLayAll0, PyData.depth, PyData.depthAll, a, b]
theorem cr_shaped (c : Cr) : SeqAt.shaped (crK c).data = true := by
  obtain ⟨a, b⟩ := cr_lay c
  unfold SeqAt.shaped
  rw [a, decide_eq_true (by omega)]
  rfl
theorem crs_lay : ∀ c : List Cr, PyData.canLayAll0 (NestedKey.datas (c.map crK)) = true ∧ PyData.depthAll (NestedKey.datas (c.map crK)) ≤ 2
  | [] => by rw [List.map_nil, NestedKey.datas]; simp [PyData.canLayAll0, PyData.depthAll]
  | x :: c => by
    obtain ⟨a, b⟩ := crs_lay c
    obtain ⟨a1, b1⟩ := cr_lay x
    rw [List.map_cons, NestedKey.datas, PyData.canLayAll0, PyData.depthAll, a, a1]
    exact ⟨rfl, Nat.max_le.mpr ⟨b1, b⟩⟩
theorem crs_shaped (c : List Cr) : SeqAt.shaped (.list (NestedKey.datas (c.map crK))) = true := by
  obtain ⟨a, b⟩ := crs_lay c
  unfold SeqAt.shaped
  rw [PyData.canLay0, a, PyData.depth, decide_eq_true (by omega)]
  rfl
end Eh
set_option Elab.async false
set_option linter.all false
set_option maxRecDepth 100000
set_option maxHeartbeats 16000000
/-! transitive -/
namespace Eh
open PySem PySem.Spec PyProof.Rows L2 NS
abbrev NTr : List Str := ["_law_crashes_here", "_law_found", "_law_grown", "_law_some", "_law_middle", "_law_kept", "_law_mode", "_law_more", "_law_one", "_law_ref"]
theorem scTrans : FnScope NTr ["_law_crashes_here"] (defScope sTrans) := ⟨rfl, rfl, rfl, by decide +kernel, rfl, by decide +kernel, by decide +kernel⟩
theorem RowsAt.snoc {K : PySem.W.Frag} {H : Hp} {rs : List Addr} {cs : List (List Cr)} {r : Addr} {c : List Cr} {vs : List V} (h : RowsAt K H rs cs) (hn : r ∉ rs) (hv : H r = some (.lst vs)) (hy : Kys K H vs (c.map crK)) : RowsAt K H (rs ++ [r]) (cs ++ [c]) where
  len := by rw [List.length_append, List.length_append, h.len]; rfl
  nd := List.nodup_append.mpr ⟨h.nd, by simp, fun a ha b hb => by rw [List.mem_singleton.mp hb]; exact fun e => hn (e ▸ ha)⟩
  row i q d hq hd := by
    by_cases hi : i < rs.length
    · rw [List.getElem?_append_left hi] at hq
      rw [List.getElem?_append_left (by rw [← h.len]; exact hi)] at hd
      exact h.row i q d hq hd
    · rw [List.getElem?_append_right (by omega)] at hq
      rw [List.getElem?_append_right (by rw [← h.len]; omega), ← h.len] at hd
      cases hz : i - rs.length with
      | zero =>
        rw [hz] at hq hd
        cases hq
        cases hd
        exact ⟨vs, hv, hy⟩
      | succ n => rw [hz] at hq; cases hq
section
variable {P : Program} {w : World} {K : PySem.W.Frag} {mg : Str → Option Value} {base : Heap}
def spTrans (K : PySem.W.Frag) : Sp := fun us H Q _ => ∃ (cl : Addr) (as : List Addr) (cs : List (List Cr)) (sl : List Nat), us = [.ref cl] ∧ H cl = some (.lst (as.map V.ref)) ∧ RowsAt K H as cs ∧ Vld sl cs ∧ sl.length ≤ 8 ∧ (∀ n ∈ sl, n ≤ 8) ∧ (∀ c ∈ cs, c.length ≤ 4) ∧
  (∀ H', Same H H' → Q .non H') ∧
  ∀ (H' : Hp) (fa : Addr) (rs : List Addr) (cs' : List (List Cr)), Same H H' → H fa = none → (∀ r ∈ rs, H r = none) → H' fa = some (.lst (rs.map V.ref)) → RowsAt K H' rs cs' → Vld sl cs' → Closed cs' → (∀ c ∈ cs', c.length ≤ 4) → Q (.ref fa) H'
def eSo (K : PySem.W.Frag) (P : Program) (w : World) : TE := tCB (rSortedN K P w) (tCons (tCB (rSetOfN K P w) (tCons (tVar 3) tNil)) tNil)
theorem ok_trans {f : Addr} {fd : FuncData} {k : Nat} (F : Fun K "_law_transitive" "_law_transitive" sTrans f fd) (mt : mg "tuple" = none) (ml : mg "len" = none) (ms : mg "set" = none) (mo : mg "sorted" = none) (mli : mg "list" = none) :
    FnOk P w K mg base CX0 (k + 1) f fd ["_law_crashes_here"] (spTrans K) := by
  refine F.ok scTrans (fun us H Q E h => ?_) (fun cdv A outer s H us Q E hr h => ?_)
  · obtain ⟨cl, as, cs, sl, rfl, _⟩ := h
    rfl
  · obtain ⟨cl, as, cs, sl, rfl, e0, ra0, v0, hl, hb8, h4, qn, q⟩ := h
    have hu : (cxOf CX0 P w K mg base NTr "_law_transitive" (defScope sTrans) f cdv A outer s H E).nox.A.units + 64 < cLine := hr.units
    have hu5 : (cxOf CX0 P w K mg base NTr "_law_transitive" (defScope sTrans) f cdv A outer s H E).nox.A.units + 65 < cLine := by
      have z := hr.un
      show (A.deeper _).units + 65 < cLine
      omega
    refine ⟨_, pss_cons (ps_par (i := 1) (j := 2) rfl scTrans.nd rfl rfl (by decide) rfl rfl (pa_cons
          (pe_lc (own := [("_law_some", 3)]) (g := gName 3) (tt := tYes) (te := eSo K P w) rfl scTrans.nd (pi_list (pv 0)) (blkOk_by (N := NTr) (sc := defScope sTrans) (by decide +kernel))
            (fun _ _ _ _ _ => pg_name (i := 3) scTrans.nd rfl (.inl rfl)) (fun _ _ _ _ _ => pts_nil) (fun _ _ _ _ _ => pe_callB (cr_sortedN rfl hu) (by rfl) mo (by decide +kernel) (pa_cons (pe_callTy (cr_setOfN rfl hu) (by rfl) ms (by decide +kernel) (pa_cons (pv 3) pa_nil)) pa_nil)))
          (pa_cons pe_bl pa_nil)) rfl)
      (pss_cons (ps_while PassesOwn.never (pt_val (pv 2)) (pss_cons (ps_set (i := 2) scTrans.nd rfl (.inl rfl) pe_bl)
        (pss_one (ps_for PassesOwn.never rfl (pi_list (pv 1)) (pg_name (i := 3) scTrans.nd rfl (.inl rfl))
          (pss_cons (ps_for PassesOwn.never rfl (pi_list (pe_callTy call_list_of (by rfl) mli (by decide +kernel) (pa_cons (pv 3) pa_nil))) (pg_tup rfl (pgs_cons (pg_name (i := 4) scTrans.nd rfl (.inl rfl)) (pgs_cons (pg_name (i := 5) scTrans.nd rfl (.inr rfl)) pgs_nil)))
            (pss_one (ps_for PassesOwn.never rfl (pi_list (pe_callTy call_list_of (by rfl) mli (by decide +kernel) (pa_cons (pe_ix ix_list (pv 1) (pv 4) (fun _ _ => rfl)) pa_nil))) (pg_tup rfl (pgs_cons (pg_name (i := 6) scTrans.nd rfl (.inl rfl)) (pgs_cons (pg_name (i := 7) scTrans.nd rfl (.inl rfl)) pgs_nil)))
              (pss_cons (ps_set (i := 8) scTrans.nd rfl (.inl rfl) (pe_tup (pa_cons (pv 6) (pa_cons (pe_callTy call_tuple_of (by rfl) mt (by decide +kernel) (pa_cons
                  (pe_lc (own := [("_law_ref", 9)]) (g := gName 9) (tt := tYes) (te := tOp (rIxT K) (tVar 5) (tVar 9)) rfl scTrans.nd (pi_tup (pv 7)) (blkOk_by (N := NTr) (sc := defScope sTrans) (by decide +kernel))
                    (fun _ _ _ _ _ => pg_name (i := 9) scTrans.nd rfl (.inl rfl)) (fun _ _ _ _ _ => pts_nil) (fun _ _ _ _ _ => pe_ix ix_tup (pv 5) (pv 9) (fun _ _ => rfl))) pa_nil)) pa_nil))))
              (pss_one (ps_if (pt_cmpR (op_notInD hu5) (pv 8) (pv 3) rfl)
                (pss_cons (ps_expr (pe_bm PySem.F.plainAttrs_list PySem.F.slot_list_append PySem.F.type_list_append mt_append (pv 3) (pa_cons (pv 8) pa_nil))) (pss_one (ps_set (i := 2) scTrans.nd rfl (.inl rfl) pe_bl))) pss_nil))))))
          (pss_one (ps_if (pt_cmpR op_gt (pe_callB call_len_seq (by rfl) ml PySem.boot_len (pa_cons (pv 3) pa_nil)) pe_int (nomark _)) (pss_one (ps_ret pe_non)) pss_nil)))))))
      (pss_one (ps_ret (pv 1)))), ?_⟩
    refine ⟨_, rfl, cl, rfl, ⟨_, SqL.of e0⟩, fun D hD => ?_⟩
    refine lc_list (xs := as.map V.ref) (fun i H' => Same H H' ∧ ∃ (rs : List Addr) (cs' : List (List Cr)), H' D = some (.lst (rs.map V.ref)) ∧ rs.length = i ∧ D ∉ rs ∧ (∀ r ∈ rs, H r = none) ∧ RowsAt K H' rs cs' ∧
        (∀ (j : Nat) (c' : List Cr), cs'[j]? = some c' → ∃ c : List Cr, cs[j]? = some c ∧ (∀ x, x ∈ c' ↔ x ∈ c) ∧ c'.length ≤ c.length)) ⟨same_upd hD, [], [], upd_same, rfl, by simp, by simp, ⟨rfl, List.nodup_nil, fun i r c h => by cases h⟩, fun j c h => by cases h⟩ (fun i H' hi z => SqL.of (z.1 _ _ e0)) ?_ ?_
    · rintro i x H' hx ⟨s1, rs, cs', e1, l1, nD, nr, ra, rel⟩
      rw [List.getElem?_map] at hx
      cases hai : as[i]? with
      | none => rw [hai] at hx; cases hx
      | some a =>
        rw [hai] at hx
        cases hx
        have hi := (List.getElem?_eq_some_iff.mp hai).1
        have hi2 : i < cs.length := by rw [← ra0.len]; exact hi
        have hci := List.getElem?_eq_getElem hi2
        generalize cs[i] = c at hci
        obtain ⟨vs, ev, yv⟩ := ra0.row i a c hai hci
        have c4 := h4 c (List.mem_of_getElem? hci)
        refine ⟨rfl, ?_⟩
        dsimp only [tYes]
        rw [if_pos rfl]
        refine ⟨_, rfl, ?_⟩
        dsimp only [tNil]
        refine ss_list (ks := c.map crK) (SqL.of (s1 _ _ ev)) (Kys.tk yv (.same s1)) (crK_fit fun k hk => by obtain ⟨x, _, e⟩ := List.mem_map.mp hk; exact ⟨x, e.symm⟩) (by rw [List.length_map]; omega) fun H2 r us s2 nr2 er2 yr2 => ?_
        obtain ⟨d, ed, dm, dl⟩ := canon_cr c
        rw [ed] at yr2
        have eD := s2 _ _ e1
        have nrD : r ≠ D := fun z => by rw [z, e1] at nr2; cases nr2
        have hr0 : H r = none := by
          cases z : H r with
          | none => rfl
          | some o => rw [s1 _ _ z] at nr2; cases nr2
        have tp := TK.put (K := K) (zs := rs.map V.ref ++ [.ref r]) eD
        have nri : r ∉ rs := fun hm => by
          obtain ⟨j, hj⟩ := List.mem_iff_getElem?.mp hm
          have hj2 : j < cs'.length := by rw [← ra.len]; exact (List.getElem?_eq_some_iff.mp hj).1
          obtain ⟨ws, ew, _⟩ := ra.row j r _ hj (List.getElem?_eq_getElem hj2)
          rw [ew] at nr2
          cases nr2
        refine ⟨_, eD, ?_, fun b o h => ?_, rs ++ [r], cs' ++ [d], ?_, ?_, ?_, fun y hy => ?_, ?_, fun j c' hj => ?_⟩
        · have h9 : 1000 ≤ sizeLine := by decide
          have hl' := v0.len
          rw [List.length_map]
          omega
        · rw [upd_ne (fun z => by rw [z, hD] at h; cases h)]
          exact s2 _ _ (s1 _ _ h)
        · rw [upd_same, List.map_append]
          rfl
        · rw [List.length_append, l1]
          rfl
        · intro hm
          rcases List.mem_append.mp hm with z | z
          · exact nD z
          · exact nrD (List.mem_singleton.mp z).symm
        · rcases List.mem_append.mp hy with z | z
          · exact nr y z
          · rw [List.mem_singleton.mp z]; exact hr0
        · refine ((ra.same s2).keep (fun y hy o ho => ?_) tp).snoc nri (by rw [upd_ne nrD]; exact er2) (Kys.tk yr2 tp)
          rw [upd_ne (fun z => nD (by rw [← z]; exact hy))]
          exact ho
        · have lc : cs'.length = i := by rw [← ra.len, l1]
          by_cases hji : j < cs'.length
          · rw [List.getElem?_append_left hji] at hj
            exact rel j c' hj
          · rw [List.getElem?_append_right (by omega)] at hj
            cases hz : j - cs'.length with
            | zero =>
              rw [hz] at hj
              cases hj
              have : j = i := by omega
              subst this
              exact ⟨c, hci, dm, dl⟩
            | succ n => rw [hz] at hj; cases hj
    · rintro H1 ⟨s1, rs, cs1, e1, l1, nD, nr, ra1, rel⟩
      rw [List.length_map] at l1
      have lc1 : cs1.length = cs.length := by rw [← ra1.len, l1, ra0.len]
      have v1 : Vld sl cs1 := {
        len := by rw [lc1]; exact v0.len
        ne := fun c hc => by
          obtain ⟨j, hj⟩ := List.mem_iff_getElem?.mp hc
          obtain ⟨c0, h0, hm, _⟩ := rel j c hj
          have p0 := v0.ne c0 (List.mem_of_getElem? h0)
          exact List.length_pos_of_mem ((hm _).mpr (List.getElem_mem p0))
        ok := fun m c hc x hx => by
          obtain ⟨c0, h0, hm, _⟩ := rel m c hc
          exact v0.ok m c0 h0 x ((hm x).mp hx) }
      have h41 : ∀ c ∈ cs1, c.length ≤ 4 := fun c hc => by
        obtain ⟨j, hj⟩ := List.mem_iff_getElem?.mp hc
        obtain ⟨c0, h0, _, hl0⟩ := rel j c hj
        exact Nat.le_trans hl0 (h4 c0 (List.mem_of_getElem? h0))
      refine ⟨_, _, rfl, ?_⟩
      have nl : rs.length = sl.length := by rw [ra1.len]; exact v1.len
      show tSeq _ _ _ _ H1
      refine ⟨fun mu σ H2 => ∃ (g : Bool) (cs2 : List (List Cr)) (o3 o4 o5 o6 o7 o8 o9 : Option V), σ = [some (.ref cl), some (.ref D), some (.bl g), o3, o4, o5, o6, o7, o8, o9] ∧ Same H H2 ∧ H2 D = some (.lst (rs.map V.ref)) ∧ RowsAt K H2 rs cs2 ∧ Vld sl cs2 ∧ (∀ c ∈ cs2, c.length ≤ 4) ∧ (g = false → Closed cs2) ∧ mu = if g then 4 * sl.length + 2 - tot cs2 else 0,
        ⟨_, true, cs1, _, _, _, _, _, _, _, rfl, s1, e1, ra1, v1, h41, (fun h => by cases h), rfl⟩, ?_⟩
      rintro mu σ H2 ⟨g, cs2, o3, o4, o5, o6, o7, o8, o9, rfl, s2, e2, ra2, v2, h42, cg, hmu⟩
      refine ⟨_, rfl, g, rfl, ?_⟩
      cases g with
      | false => exact iteF ⟨_, rfl, q H2 D rs cs2 s2 hD nr e2 ra2 v2 (cg rfl) h42⟩
      | true =>
        clear cg
        refine iteT ⟨fun σ' H' => ∃ m', m' < mu ∧ _, fun _ _ h => h, ?_⟩
        refine ⟨_, rfl, D, rfl, ⟨_, SqL.of e2⟩, ?_⟩
        have tl2 : tot cs2 ≤ 4 * sl.length := by rw [← v2.len]; exact tot_le h42
        refine for_list (xs := rs.map V.ref) (fun m1 σ H3 => ∃ (g : Bool) (cs3 : List (List Cr)) (o3 o4 o5 o6 o7 o8 o9 : Option V), σ = [some (.ref cl), some (.ref D), some (.bl g), o3, o4, o5, o6, o7, o8, o9] ∧ Same H H3 ∧ H3 D = some (.lst (rs.map V.ref)) ∧ RowsAt K H3 rs cs3 ∧ Vld sl cs3 ∧ (∀ c ∈ cs3, c.length ≤ 4) ∧ Acc cs2 g cs3 (∀ j, j < m1 → ClosedAt cs2 j))
          ⟨false, cs2, _, _, _, _, _, _, _, rfl, s2, e2, ra2, v2, h42, (fun h => by cases h), fun _ => ⟨rfl, fun j hj => absurd hj (Nat.not_lt_zero j)⟩⟩
          (fun i σ H3 hi ⟨g, cs3, _, _, _, _, _, _, _, _, _, e3, _⟩ => SqL.of e3) ?_ ?_
        · rintro m1 x σ H3 hx ⟨g, cs3, o3, o4, o5, o6, o7, o8, o9, rfl, s3, e3, ra3, v3, h43, ac3⟩
          rw [List.getElem?_map] at hx
          cases hri : rs[m1]? with
          | none => rw [hri] at hx; cases hx
          | some r =>
            rw [hri] at hx
            cases hx
            have hm1 := (List.getElem?_eq_some_iff.mp hri).1
            have hrm := List.mem_of_getElem? hri
            have hr0 := nr r hrm
            have rD : r ≠ D := fun z => nD (by rw [← z]; exact hrm)
            obtain ⟨c, hc⟩ : ∃ c, cs3[m1]? = some c := ⟨_, List.getElem?_eq_getElem (by rw [← ra3.len]; exact hm1)⟩
            obtain ⟨sz, hsz⟩ : ∃ sz, sl[m1]? = some sz := ⟨_, List.getElem?_eq_getElem (by rw [← nl]; exact hm1)⟩
            have hc4 : c.length ≤ 4 := h43 c (List.mem_of_getElem? hc)
            have vx : ∀ x ∈ c, TgOk sl sz x := fun x hx => by
              obtain ⟨sz', h1, h2⟩ := v3.ok m1 c hc x hx
              rw [hsz] at h1
              cases h1
              exact h2
            obtain ⟨vs, er, yr⟩ := ra3.row m1 r c hri hc
            have lv : vs.length = c.length := by rw [yr.length, List.length_map]
            refine ⟨_, rfl, r, _, rfl, .inl (SqL.of er), fun L1 n1 => ⟨L1, rfl, ⟨_, SqL.of upd_same⟩, ?_⟩⟩
            have a4 : Same H3 (upd H3 L1 (.lst vs)) := same_upd n1
            have e4L : (upd H3 L1 (.lst vs)) L1 = some (.lst vs) := upd_same
            have nL1 : ∀ r' ∈ rs, r' ≠ L1 := fun r' hr' z => by
              obtain ⟨j, hj⟩ := List.mem_iff_getElem?.mp hr'
              obtain ⟨ws, ew, _⟩ := ra3.row j r' _ hj (List.getElem?_eq_getElem (by rw [← ra3.len]; exact (List.getElem?_eq_some_iff.mp hj).1))
              rw [z, n1] at ew
              cases ew
            have nL1D : D ≠ L1 := fun z => by rw [z, n1] at e3; cases e3
            generalize upd H3 L1 (.lst vs) = H4 at a4 e4L ⊢
            have y4 : Kys K H4 vs (c.map crK) := Kys.tk yr (.same a4)
            refine for_list (xs := vs) (fun a2 σ H5 => ∃ (g : Bool) (cs5 : List (List Cr)) (o4 o5 o6 o7 o8 o9 : Option V), σ = [some (.ref cl), some (.ref D), some (.bl g), some (.ref r), o4, o5, o6, o7, o8, o9] ∧ Same H H5 ∧ H5 D = some (.lst (rs.map V.ref)) ∧ H5 L1 = some (.lst vs) ∧ TK K H4 H5 ∧ RowsAt K H5 rs cs5 ∧ Vld sl cs5 ∧ (∀ (j : Nat) (c5 : List Cr), cs5[j]? = some c5 → (j ≠ m1 → c5.length ≤ 4) ∧ c5.length ≤ 4 * 2 ^ a2) ∧
                Acc cs2 g cs5 ((∀ j, j < m1 → ClosedAt cs2 j) ∧ cs2[m1]? = some c ∧ ∀ i, i < a2 → ∀ x, c[i]? = some x → ∀ d : List Cr, cs2[x.1]? = some d → ∀ y ∈ d, thenC x y ∈ c))
              ⟨g, cs3, _, _, _, _, _, _, rfl, s3.trans a4, a4 _ _ e3, e4L, .refl, ra3.same a4, v3, fun j c5 h5 => ⟨fun _ => h43 c5 (List.mem_of_getElem? h5), by have := h43 c5 (List.mem_of_getElem? h5); omega⟩, ac3.imp fun _ e h => ⟨h, by rw [← e]; exact hc, fun i hi => absurd hi (Nat.not_lt_zero i)⟩⟩
              (fun i σ H5 hi ⟨g, cs5, _, _, _, _, _, _, _, _, _, e5, _⟩ => SqL.of e5) ?_ ?_
            · rintro a2 xv σ H5 hxv ⟨g5, cs5, o4, o5, o6, o7, o8, o9, rfl, s5, e5, e5L, t45, ra5, v5, z5, ac5⟩
              have ha2 := (List.getElem?_eq_some_iff.mp hxv).1
              obtain ⟨kx, hkx, hyx⟩ := (Kys.tk y4 t45).at hxv
              rw [List.getElem?_map] at hkx
              cases hcx : c[a2]? with
              | none => rw [hcx] at hkx; cases hkx
              | some x =>
                rw [hcx] at hkx
                cases hkx
                have hxm := List.mem_of_getElem? hcx
                have hxo := vx x hxm
                obtain ⟨pa, px, py, rfl, pt, px1, py1⟩ := Ky.tup2 hyx
                rw [px1.num_inv] at pt
                obtain ⟨ka, rfl, kt⟩ := numsK_inv py1
                refine ⟨pa, _, rfl, pt, rfl, _, _, rfl, _, _, rfl, rfl, ?_⟩
                have hx1 : x.1 < rs.length := by rw [nl]; exact (List.getElem?_eq_some_iff.mp hxo.1).1
                obtain ⟨rd, hrd⟩ : ∃ rd, rs[x.1]? = some rd := ⟨_, List.getElem?_eq_getElem hx1⟩
                obtain ⟨d, hd⟩ : ∃ d, cs5[x.1]? = some d := ⟨_, List.getElem?_eq_getElem (by rw [← ra5.len]; exact hx1)⟩
                obtain ⟨us, eu, yu⟩ := ra5.row x.1 rd d hrd hd
                have lu : us.length = d.length := by rw [yu.length, List.length_map]
                have hrv : (rs.map V.ref)[x.1]? = some (V.ref rd) := by rw [List.getElem?_map, hrd]; rfl
                have vy : ∀ y ∈ d, TgOk sl x.2.length y := fun y hy => by
                  obtain ⟨sz', h1, h2⟩ := v5.ok x.1 d hd y hy
                  rw [hxo.1] at h1
                  cases h1
                  exact h2
                refine ⟨_, rfl, _, rfl, D, _, _, _, rfl, rfl, SqL.of e5, atI_nat hrv, rd, _, rfl, .inl (SqL.of eu), fun L2 n2 => ⟨L2, rfl, ⟨_, SqL.of upd_same⟩, ?_⟩⟩
                have a6 : Same H5 (upd H5 L2 (.lst us)) := same_upd n2
                have e6L : (upd H5 L2 (.lst us)) L2 = some (.lst us) := upd_same
                have nL2 : ∀ r' ∈ rs, r' ≠ L2 := fun r' hr' z => by
                  obtain ⟨j, hj⟩ := List.mem_iff_getElem?.mp hr'
                  obtain ⟨ws, ew, _⟩ := ra5.row j r' _ hj (List.getElem?_eq_getElem (by rw [← ra5.len]; exact (List.getElem?_eq_some_iff.mp hj).1))
                  rw [z, n2] at ew
                  cases ew
                have nL2D : D ≠ L2 := fun z => by rw [z, n2] at e5; cases e5
                generalize upd H5 L2 (.lst us) = H6 at a6 e6L ⊢
                have y6 : Kys K H6 us (d.map crK) := Kys.tk yu (.same a6)
                have kt6 : SqT K H6 ka (x.2.map fun n : Nat => V.int n) := sqT_of a6 kt
                have dl : d.length ≤ 4 * 2 ^ a2 := (z5 x.1 d hd).2
                refine for_list (xs := us) (fun b σ H7 => ∃ (g : Bool) (cs7 : List (List Cr)) (o6 o7 o8 o9 : Option V), σ = [some (.ref cl), some (.ref D), some (.bl g), some (.ref r), some (.int x.1), some (.ref ka), o6, o7, o8, o9] ∧ Same H H7 ∧ H7 D = some (.lst (rs.map V.ref)) ∧ H7 L1 = some (.lst vs) ∧ H7 L2 = some (.lst us) ∧ TK K H6 H7 ∧ RowsAt K H7 rs cs7 ∧ Vld sl cs7 ∧ (∀ (j : Nat) (c7 : List Cr), cs7[j]? = some c7 → (j ≠ m1 → c7.length ≤ 4) ∧ c7.length ≤ 4 * 2 ^ a2 + b) ∧
                    Acc cs2 g cs7 (((∀ j, j < m1 → ClosedAt cs2 j) ∧ cs2[m1]? = some c ∧ ∀ i, i < a2 → ∀ x, c[i]? = some x → ∀ d : List Cr, cs2[x.1]? = some d → ∀ y ∈ d, thenC x y ∈ c) ∧ cs2[x.1]? = some d ∧ ∀ i, i < b → ∀ y, d[i]? = some y → thenC x y ∈ c))
                  ⟨g5, cs5, _, _, _, _, rfl, s5.trans a6, a6 _ _ e5, a6 _ _ e5L, e6L, .refl, ra5.same a6, v5, fun j c5 h5 => ⟨(z5 j c5 h5).1, by have := (z5 j c5 h5).2; omega⟩, ac5.imp fun _ e h => ⟨h, by rw [← e]; exact hd, fun i hi => absurd hi (Nat.not_lt_zero i)⟩⟩
                  (fun i σ H7 hi ⟨g, cs7, _, _, _, _, _, _, _, _, e7, _⟩ => SqL.of e7) ?_ ?_
                · rintro b yv σ H7 hyv ⟨g7, cs7, o6, o7, o8, o9, rfl, s7, e7, e7L, e7M, t67, ra7, v7, z7, ac7⟩
                  have hb := (List.getElem?_eq_some_iff.mp hyv).1
                  obtain ⟨ky, hky, hyy⟩ := (Kys.tk y6 t67).at hyv
                  rw [List.getElem?_map] at hky
                  cases hcy : d[b]? with
                  | none => rw [hcy] at hky; cases hky
                  | some y =>
                    rw [hcy] at hky
                    cases hky
                    have hym := List.mem_of_getElem? hcy
                    have hyo := vy y hym
                    obtain ⟨pb, qx, qy, rfl, qt, qx1, qy1⟩ := Ky.tup2 hyy
                    rw [qx1.num_inv] at qt
                    obtain ⟨ma, rfl, mt'⟩ := numsK_inv qy1
                    obtain ⟨c7, hc7⟩ : ∃ c7, cs7[m1]? = some c7 := ⟨_, List.getElem?_eq_getElem (by rw [← ra7.len]; exact hm1)⟩
                    refine ⟨pb, _, rfl, qt, rfl, _, _, rfl, _, _, rfl, rfl, ?_⟩
                    have kt7 := t67 _ _ kt6
                    refine ⟨_, rfl, _, rfl, ma, rfl, ⟨_, mt'⟩, fun D2 hD2 => ?_⟩
                    refine lc_tup (K := K) (xs := y.2.map fun n : Nat => V.int n) (fun n H8 => Same H7 H8 ∧ H8 D2 = some (.lst ((y.2.take n).map fun j => V.int ((x.2.getD j 0 : Nat) : Int)))) ⟨same_upd hD2, upd_same⟩ (fun n H8 _ z => sqT_of z.1 mt') ?_ ?_
                    · rintro n xj H8 hxj ⟨s8, e8⟩
                      rw [List.getElem?_map] at hxj
                      cases hj : y.2[n]? with
                      | none => rw [hj] at hxj; cases hxj
                      | some j =>
                        rw [hj] at hxj
                        cases hxj
                        have jl := hyo.2 j (List.mem_of_getElem? hj)
                        have hjl : (x.2.map fun n : Nat => V.int n)[j]? = some (V.int ((x.2.getD j 0 : Nat) : Int)) := by
                          rw [List.getElem?_map, List.getElem?_eq_getElem jl, List.getD_eq_getElem?_getD, List.getElem?_eq_getElem jl]
                          rfl
                        refine ⟨rfl, ?_⟩
                        dsimp only [tYes]
                        rw [if_pos rfl]
                        refine ⟨_, rfl, _, rfl, ka, _, _, _, rfl, rfl, sqT_of s8 kt7, atI_nat hjl, _, e8, ?_, fun b' o h => ?_, ?_⟩
                        · have h9 : 1000 ≤ sizeLine := by decide
                          have h8 : y.2.length ≤ 8 := hb8 _ (List.mem_of_getElem? hyo.1)
                          rw [List.length_map, List.length_take]
                          omega
                        · rw [upd_ne (fun z => by rw [z, hD2] at h; cases h)]
                          exact s8 _ _ h
                        · rw [upd_same, List.take_succ, hj]
                          simp
                    · rintro H8 ⟨s8, e8⟩
                      have le8 : (y.2.map fun n : Nat => V.int n).length = y.2.length := List.length_map ..
                      rw [le8, List.take_length] at e8
                      refine ⟨D2, _, rfl, .inl ⟨SqL.of e8, fun tl ntl => ⟨by show 2 ≤ sizeLine; decide, fun on non => ?_⟩⟩⟩
                      have s9 := s8.trans (same_upd (o := .tup (y.2.map fun j => V.int ((x.2.getD j 0 : Nat) : Int))) ntl)
                      have e9 : (upd H8 tl (.tup (y.2.map fun j => V.int ((x.2.getD j 0 : Nat) : Int)))) tl = some (.tup (y.2.map fun j => V.int ((x.2.getD j 0 : Nat) : Int))) := upd_same
                      generalize upd H8 tl (.tup (y.2.map fun j => V.int ((x.2.getD j 0 : Nat) : Int))) = H9 at s9 e9 non ⊢
                      have s10 : Same H9 (upd H9 on (.tup [.int y.1, .ref tl])) := same_upd non
                      have e10 : (upd H9 on (.tup [.int y.1, .ref tl])) on = some (.tup [.int y.1, .ref tl]) := upd_same
                      show tSeq _ _ _ _ (upd H9 on (.tup [.int y.1, .ref tl]))
                      generalize upd H9 on (.tup [.int y.1, .ref tl]) = H10 at s10 e10 ⊢
                      have s7t : Same H7 H10 := s9.trans s10
                      have ezz : (thenC x y).2.map (fun n : Nat => V.int n) = y.2.map fun j => V.int ((x.2.getD j 0 : Nat) : Int) := by
                        show (y.2.map fun n => x.2.getD n 0).map (fun n : Nat => V.int n) = _
                        rw [List.map_map]
                        rfl
                      have hz : Ky K H10 (.ref on) (crK (thenC x y)) := .tup (SqT.of e10) (.cons (.num y.1) (.one (.tup (SqT.of (s10 _ _ e9)) (by rw [← ezz]; exact nats_kys _))))
                      have ra10 := ra7.same s7t
                      obtain ⟨w7, er7, yr7⟩ := ra10.row m1 r c7 hri hc7
                      have lw7 : w7.length = c7.length := by rw [yr7.length, List.length_map]
                      refine ⟨_, rfl, _, rfl, (crK (thenC x y)).data, NestedKey.datas (c7.map crK), hz, .lst (SqL.of er7) yr7, cr_shaped _, crs_shaped _, _, rfl, ?_⟩
                      by_cases hmem : thenC x y ∈ c7
                      · rw [keys_any.mpr (crK_mem.mpr hmem)]
                        refine iteF ?_
                        refine ⟨g7, cs7, _, _, _, _, rfl, s7.trans s7t, s7t _ _ e7, s7t _ _ e7L, s7t _ _ e7M, t67.trans (.same s7t), ra10, v7, fun j c' hj => ⟨(z7 j c' hj).1, by have := (z7 j c' hj).2; omega⟩, ac7.imp fun _ e h => ⟨h.1, h.2.1, fun i hi y' hy' => ?_⟩⟩
                        rcases Nat.lt_succ_iff_lt_or_eq.mp hi with h' | h'
                        · exact h.2.2 i h' y' hy'
                        · subst h'
                          rw [hcy] at hy'
                          cases hy'
                          rw [e, h.1.2.1] at hc7
                          cases hc7
                          exact hmem
                      · rw [show ((NestedKey.datas (c7.map crK)).any fun z => PyData.eqv z (crK (thenC x y)).data) = false from by
                          rw [← Bool.not_eq_true, keys_any, crK_mem]
                          exact hmem]
                        refine iteT ?_
                        have sz7 := z7 m1 c7 hc7
                        have pw : 2 ^ a2 ≤ 2 ^ 4 := Nat.pow_le_pow_right (by decide) (by omega)
                        refine ⟨_, rfl, .inl ⟨rfl, _, SqL.of er7⟩, _, rfl, r, _, _, rfl, rfl, er7, ?_, ?_⟩
                        · have h9 : 1000 ≤ sizeLine := by decide
                          omega
                        have vput : Vld sl (cs7.set m1 (c7 ++ [thenC x y])) := v7.put hc7 hsz (thenC_ok hxo hxo.1 hyo)
                        have rput := ra10.put (v := .ref on) hri hc7 er7 hz
                        have tput : TK K H10 (upd H10 r (.lst (w7 ++ [.ref on]))) := .put er7
                        refine ⟨true, cs7.set m1 (c7 ++ [thenC x y]), _, _, _, _, rfl, fun b' o h => ?_, ?_, ?_, ?_, (t67.trans (.same s7t)).trans tput, rput, vput, fun j c' hj => ?_, ac7.put _ hc7⟩
                        · rw [upd_ne (fun z => by rw [z, hr0] at h; cases h)]
                          exact s7t _ _ (s7 _ _ h)
                        · rw [upd_ne (fun z => rD z.symm)]
                          exact s7t _ _ e7
                        · rw [upd_ne (fun z => nL1 r hrm z.symm)]
                          exact s7t _ _ e7L
                        · rw [upd_ne (fun z => nL2 r hrm z.symm)]
                          exact s7t _ _ e7M
                        · rw [List.getElem?_set] at hj
                          by_cases hjm : m1 = j
                          · rw [if_pos hjm, if_pos (by rw [← ra7.len]; exact hm1)] at hj
                            cases hj
                            refine ⟨fun h => absurd hjm.symm h, ?_⟩
                            rw [List.length_append]
                            show c7.length + 1 ≤ _
                            omega
                          · rw [if_neg hjm] at hj
                            exact ⟨(z7 j c' hj).1, by have := (z7 j c' hj).2; omega⟩
                · rintro σ H7 ⟨g7, cs7, o6, o7, o8, o9, rfl, s7, e7, e7L, e7M, t67, ra7, v7, z7, ac7⟩
                  refine ⟨g7, cs7, _, _, _, _, _, _, rfl, s7, e7, e7L, (t45.trans (.same a6)).trans t67, ra7, v7, fun j c' hj => ⟨(z7 j c' hj).1, ?_⟩, ac7.imp fun _ e h => ⟨h.1.1, h.1.2.1, fun i hi x' hx' d' hd' y hy => ?_⟩⟩
                  · have := (z7 j c' hj).2
                    rw [Nat.pow_succ]
                    omega
                  · rcases Nat.lt_succ_iff_lt_or_eq.mp hi with h' | h'
                    · exact h.1.2.2 i h' x' hx' d' hd' y hy
                    · subst h'
                      rw [hcx] at hx'
                      cases hx'
                      rw [h.2.1] at hd'
                      cases hd'
                      obtain ⟨j, hj⟩ := List.mem_iff_getElem?.mp hy
                      exact h.2.2 j (by rw [lu]; exact (List.getElem?_eq_some_iff.mp hj).1) y hj
            · rintro σ H5 ⟨g5, cs5, o4, o5, o6, o7, o8, o9, rfl, s5, e5, e5L, t45, ra5, v5, z5, ac5⟩
              obtain ⟨c5, hc5⟩ : ∃ c5, cs5[m1]? = some c5 := ⟨_, List.getElem?_eq_getElem (by rw [← ra5.len]; exact hm1)⟩
              obtain ⟨w5, er5, yr5⟩ := ra5.row m1 r c5 hri hc5
              have lw5 : w5.length = c5.length := by rw [yr5.length, List.length_map]
              refine ⟨_, rfl, r, _, rfl, .inl (SqL.of er5), _, _, rfl, rfl, _, rfl, ?_⟩
              by_cases h45 : 4 < w5.length
              · rw [decide_eq_true (by omega)]
                refine iteT ?_
                exact qn H5 s5
              · rw [decide_eq_false (by omega)]
                refine iteF ?_
                refine ⟨g5, cs5, _, _, _, _, _, _, _, rfl, s5, e5, ra5, v5, fun c' hc' => ?_, ac5.imp fun _ e h j hj => ?_⟩
                · obtain ⟨j, hj⟩ := List.mem_iff_getElem?.mp hc'
                  by_cases hjm : j = m1
                  · rw [hjm, hc5] at hj
                    cases hj
                    omega
                  · exact (z5 j c' hj).1 hjm
                · rcases Nat.lt_succ_iff_lt_or_eq.mp hj with h' | h'
                  · exact h.1 j h'
                  · subst h'
                    intro c0 hc0 x hx d hd y hy
                    rw [h.2.1] at hc0
                    cases hc0
                    obtain ⟨i, hi⟩ := List.mem_iff_getElem?.mp hx
                    exact h.2.2 i (by rw [lv]; exact (List.getElem?_eq_some_iff.mp hi).1) x hi d hd y hy
        · rintro σ H3 ⟨g, cs3, o3, o4, o5, o6, o7, o8, o9, rfl, s3, e3, ra3, v3, h43, ac3⟩
          have tl3 : tot cs3 ≤ 4 * sl.length := by rw [← v3.len]; exact tot_le h43
          have hmu' : mu = 4 * sl.length + 2 - tot cs2 := hmu
          refine ⟨if g then 4 * sl.length + 2 - tot cs3 else 0, ?_, g, cs3, _, _, _, _, _, _, _, rfl, s3, e3, ra3, v3, h43, fun hg => ?_, rfl⟩
          · cases g with
            | true =>
              have := ac3.1 rfl
              rw [if_pos rfl]
              omega
            | false =>
              rw [if_neg (by decide)]
              omega
          · obtain ⟨e, hcl⟩ := ac3.2 hg
            rw [e]
            intro m
            by_cases hm : m < rs.length
            · exact hcl m (by rw [List.length_map]; exact hm)
            · intro c0 hc0
              rw [List.getElem?_eq_none (by rw [v2.len, ← nl]; omega)] at hc0
              cases hc0
end
end Eh
set_option Elab.async false
set_option linter.all false
set_option maxRecDepth 100000
set_option maxHeartbeats 4000000
/-! enumerate(t), t a tuple. -/
namespace NS
open PySem PySem.W PyProof.Rows L2
open Sem (wp)
theorem meets_enumerate_one {v : Value} {o : Obj} {H : Heap → Prop} (B : Begins v o H) :
    Meets (Builtin.«enumerate.__new__» ⟨[.type "enumerate", v], []⟩) (fun _ R s => H s.heap ∧
      R (.ok (.ret (.ref (s.heap.push o).objs.size))) { s with heap := (s.heap.push o).push { cls := .type "enumerate", data := .fields #[.none, .bool false, .ref s.heap.objs.size, rawInt 0, .none, .none] } }) :=
  .of_wp fun prog w A R s h => by
    obtain ⟨hp, g, d, tk, os⟩ := s; obtain ⟨h1, h⟩ := h
    have hsub := sub_enumerate
    have q1 : ∀ {A' : Around} {E : Value → Shared → Prop} {Q : Value → Shared → Prop}, Q (.ref hp.objs.size) ⟨hp.push o, g, d, tk, os⟩ → wpAny (model prog w) A' (pyIter v) Q E ⟨hp, g, d, tk, os⟩ :=
      fun q => B.iter prog w _ _ ⟨hp, g, d, tk, os⟩ _ h1 q
    wp_walk using q1
    refine wpAny_stack_any fun st => wpAny_pure ?_
    split
    · rename_i c _ _ _ _ _
      cases (c == Value.type "enumerate")
      · wp_walk using q1
        exact ⟨_, rfl, h⟩
      · wp_walk using q1
        exact ⟨_, rfl, h⟩
    · wp_walk using q1
      exact ⟨_, rfl, h⟩
section
variable {prog : Program} {w : World} {A : Around} {E : Value → Shared → Prop} {s : Shared}
theorem enum_one {v : Value} {o : Obj} {H : Heap → Prop} {Q : Value → Shared → Prop} (B : Begins v o H) (h1 : H s.heap)
    (h : ∀ h', IsEnum h' (s.heap.objs.size + 1) s.heap.objs.size 0 .none → h'.get? s.heap.objs.size = some o → h'.objs.size = s.heap.objs.size + 2 →
      (∀ b o, s.heap.get? b = some o → h'.get? b = some o) → Q (.ref (s.heap.objs.size + 1)) { s with heap := h' }) :
    wpAny (model prog w) A (call (.type "enumerate") [v]) Q E s := by
  refine callType_new F.called_enumerate (by decide) (F.typeCall_enumerate_1 _) (F.newCall_enumerate_1 _) (fun obj => F.args_object_init_2 obj _) F.entry_enumerate_new
    (meets_enumerate_one B) ⟨h1, ?_⟩
  have hz : (s.heap.push o).objs.size = s.heap.objs.size + 1 := Heap.size_push ..
  show _ ∧ _
  rw [hz]
  have he : IsEnum ((s.heap.push o).push { cls := .type "enumerate", data := .fields #[.none, .bool false, .ref s.heap.objs.size, rawInt 0, .none, .none] }) (s.heap.objs.size + 1) s.heap.objs.size 0 .none := by
    have := Heap.get?_push_size (s.heap.push o) (o := { cls := .type "enumerate", data := .fields #[.none, .bool false, .ref s.heap.objs.size, rawInt 0, .none, .none] }) rfl
    rw [hz] at this; exact this
  refine ⟨⟨_, he, rfl⟩, h _ he (Heap.get?_push_of_some _ (Heap.get?_push_size _ B.free)) (by rw [Heap.size_push, hz]) fun b o x => Heap.get?_push_of_some _ (Heap.get?_push_of_some _ x)⟩
theorem enumT_end {e it l : Addr} {i : Nat} {items : Array Value} {old : Value} {Q : Option Value → Shared → Prop} (hh : A.handled = none)
    (he : IsEnum s.heap e it i old) (hit : s.heap.IsTupleIter it l i) (hl : s.heap.IsTuple l items) (hx : items[i]? = none)
    (hQ : ∀ h', Heap.ExtBut it s.heap h' → Q none { s with heap := h' }) : wpAny (model prog w) A (pyNext (.ref e)) Q E s := by
  have hT : s.TypeIs (.ref e) "enumerate" := ⟨_, he, rfl⟩
  unfold pyNext
  refine wpAny_bind (wpAny_attempt (wpAny_callSpecial?_slot (name := Str.ofString "__next__") hT F.slot_enumerate_next
    (wpAny_call_entry F.slot_enumerate_next hT F.entry_enumerate_next ?_ (F.args_enumerate_next_1 _))))
  show wpAny _ _ (field (.ref e) 2 >>= _) _ _ _
  refine wpAny_bind (wpAny_field he rfl (x := .ref it) rfl ?_)
  refine wpAny_bind (wpAny_nextOf_tuple_end hh hit hl hx fun h' x he' hx' => ?_)
  obtain ⟨o, ho, hc⟩ := hx'
  refine wpAny_bind (wpAny_isInstance (T := "StopIteration") (b := true) ⟨o, ho, hc⟩ isSubtype_stop ?_)
  exact wpAny_pure (hQ _ he')
end
/-- the tuple at a, each item in a new pair -/
def Iet (K : PySem.W.Frag) (a : Addr) : It :=
  ⟨fun i H => ∃ (xs : List V) (x : V), SqT K H a xs ∧ xs[i]? = some x, fun i H v H' => ∃ T x, v = .ref T ∧ H T = none ∧ H' = upd H T (.tup [.int (i : Nat), x]) ∧ ∀ xs, SqT K H a xs → xs[i]? = some x, fun i H => ∃ xs : List V, SqT K H a xs ∧ xs.length ≤ i⟩
theorem turn_enumT {P : Program} {w : World} {K : PySem.W.Frag} {elts : List Expr} {kk : Nat} {tpos : Pos} (a e it : Addr) :
    Turn P w K (.Tuple elts kk tpos) (Iet K a) [e, it] e (fun i h => (∃ old, IsEnum h e it ((i : Nat) : Int) old) ∧ h.IsTupleIter it a i ∧ e ≠ it ∧ a ≠ it ∧ a ≠ e) where
  mem := by simp
  obj := fun i h st b hb => by
    obtain ⟨⟨old, he⟩, ⟨o, ho, hc, hd⟩, _⟩ := st
    have e' : b = e ∨ b = it := by simpa using hb
    rcases e' with z | z
    · rw [z]; exact ⟨_, he, fun v q => nomatch q⟩
    · rw [z]; exact ⟨o, ho, fun v q => by rw [hd] at q; cases q⟩
  keep := fun i h h' st k => let ⟨⟨old, he⟩, hi, hne⟩ := st; ⟨⟨old, k e (by simp) _ he⟩, hi.at fun o q => k it (by simp) o q, hne⟩
  item := by
    intro X hP hw hK hc i pins s σ H E I hf st hg
    subst hP hw hK
    obtain ⟨⟨old, he⟩, hit, hne, nai, nae⟩ := st
    obtain ⟨xs, x, hq, hx⟩ := hg
    obtain ⟨its, rv, p, hz⟩ := I.tuple hq
    obtain ⟨u, hu, ru⟩ := rv.get hx
    have hel : e < s.heap.objs.size := Heap.lt_size he
    have hil : it < s.heap.objs.size := by obtain ⟨_, q, _⟩ := hit; exact Heap.lt_size q
    have pT : s.heap.IsTuple a its.toArray := p
    have hi : i < its.toArray.size := by
      have := (List.getElem?_eq_some_iff.mp hu).1
      simpa using this
    refine wpAny_pyNext_enum_itemD (Draws.tuple (A := X.A.in1) (I.ok.hd hc) it a nai its.toArray) he ⟨hit, pT⟩ hi hne (by simp [hne, Ne.symm nae]) fun y h' tk hy ho hit' hT hsz hk => ?_
    have ey : y = u := by
      have z : its[i]? = some y := by simpa using hy
      rw [hu] at z
      exact (Option.some.inj z).symm
    subst ey
    refine ⟨_, rfl, wpAny_letOwnedTupleGo_enum (s := { s with heap := h', toks := tk + 1 }) ho fun h'' he' sb => ?_⟩
    have hT2 : h''.get? s.heap.objs.size = some { cls := .type "tuple", data := .seq #[.int i tk, y] } := (sb.2 _ (Nat.ne_of_gt hel)).trans hT
    have new : ObjOk X.prog X.w (upd H s.heap.objs.size (.tup [.int (i : Nat), x])) h'' s.heap.objs.size (.tup [.int (i : Nat), x]) :=
      ⟨by show 2 ≤ sizeLine; decide, [.int i tk, y], .cons ⟨_, rfl⟩ (.cons ru .nil), ⟨_, hT2, rfl, _, rfl⟩⟩
    have I1 : Inv X pins σ (upd H s.heap.objs.size (.tup [.int (i : Nat), x])) { s with heap := h'', toks := tk + 1 } :=
      I.turnedNew (ch := [e, it]) (fun b ob hb q => (sb.2 b (fun z => hb (by simp [z]))).trans (hk b ob (fun z => hb (by simp [z])) (fun z => hb (by simp [z])) q)) hf (Nat.le_refl _) new
    refine ⟨.ref s.heap.objs.size, _, I1, rfl, ⟨_, x, rfl, I.hok.fresh (Nat.le_refl _), rfl, fun ys hy => ?_⟩, ⟨⟨y, ?_⟩, hit'.1.at fun o q => (sb.2 it (Ne.symm hne)).trans q, hne, nai, nae⟩, fun b hb => ?_⟩
    · rw [I.tuple_inj hy hq]; exact hx
    · have e1 : ((i + 1 : Nat) : Int) = (i : Int) + 1 := by omega
      rw [e1]; exact he'
    · have hb' : b < s.heap.objs.size := by
        have e' : b = e ∨ b = it := by simpa using hb
        rcases e' with z | z
        · rw [z]; exact hel
        · rw [z]; exact hil
      rw [upd_ne (Nat.ne_of_lt hb')]
      exact (hf b hb).1
  done := by
    intro X hP hw hK hc i pins s σ H E I hf st hg
    subst hP hw hK
    obtain ⟨⟨old, he⟩, hit, hne, nai, nae⟩ := st
    obtain ⟨xs, hq, hx⟩ := hg
    obtain ⟨its, rv, p, hz⟩ := I.tuple hq
    obtain ⟨f0, f1, f2, f3, f4, f5⟩ := hf it (by simp)
    have hl := rv.length
    exact enumT_end (I.ok.hd hc) he hit p (by simp; omega) fun h' eb => ⟨rfl, I.turned (t' := s.toks) (fun b o hb q => eb b o hb q) f0 f1 f3 f4 f5⟩
  self := fun A i s Q E st h => let ⟨⟨_, he⟩, _⟩ := st; wpAny_pyIter_enum he h
def iEnumT (K : PySem.W.Frag) (ta : TA) : TI := fun σ H R => ta σ H fun vs H1 => ∃ a xs, vs = [.ref a] ∧ SqT K H1 a xs ∧ R (Iet K a) H1
theorem pi_enumT {X : Cx} {e : Expr} {ta : TA} {p pos tpos : Pos} {elts : List Expr} {kk : Nat} (hg : Gl X "enumerate") (hm : X.mg "enumerate" = none) (ha : PA X [e] ta) (hs : starEach [e] X.env = [(false, eval e X.env)] := by rfl) :
    PI X (.Tuple elts kk tpos) (.Call (.Name "enumerate" p) [e] [] pos) (iEnumT X.K ta) := by
  refine ⟨fun pins s σ H R I h => ?_⟩
  refine Call_ (ld_blt I hg hm boot_enumerate (PyProof.Rows.callWith_type1 (thn (ha.run pos pins s σ H _ I h) fun us s1 ⟨vs, H1, I1, r1, q1⟩ => ?_) hs rfl))
  obtain ⟨a, xs, ex, hq, q⟩ := q1
  subst ex
  cases r1 with
  | cons r rr =>
    cases rr
    cases r
    obtain ⟨its, rv, p', hz⟩ := I1.tuple hq
    have pT : s1.heap.IsTuple a its.toArray := p'
    refine enum_one (begins_tuple a its.toArray) pT fun h' he ho hsz hk => wpAny_pyIter_enum he ?_
    have I2 : Inv X pins σ H1 { s1 with heap := h' } := I1.kept (t' := s1.toks) hk
    have hal : a < s1.heap.objs.size := by obtain ⟨o, ho, _⟩ := pT; exact Heap.lt_size ho
    refine ⟨s1.heap.objs.size + 1, [s1.heap.objs.size + 1, s1.heap.objs.size], _, _, H1, rfl, I2, turn_enumT a (s1.heap.objs.size + 1) s1.heap.objs.size, ⟨⟨.none, he⟩, ⟨_, ho, rfl, rfl⟩, Nat.succ_ne_self _, Nat.ne_of_lt hal, Nat.ne_of_lt (Nat.lt_succ_of_lt hal)⟩, fun b hb => ?_, q⟩
    have e' : b = s1.heap.objs.size + 1 ∨ b = s1.heap.objs.size := by simpa using hb
    have hle : s1.heap.objs.size ≤ b := by
      rcases e' with z | z
      · rw [z]; exact Nat.le_add_right _ _
      · rw [z]; exact Nat.le_refl _
    exact I1.fpOk hle (I1.hok.fresh hle)
theorem walk_enumT {K : PySem.W.Frag} {a : Addr} {xs : List V} : Walk (Iet K a) xs.length (fun H => SqT K H a xs) (YPair (fun i => some (.int (i : Nat))) (fun i => xs[i]?)) := by
  refine ⟨fun i _ hi q => ⟨xs, xs[i], q, by simp [hi]⟩, fun _ q => ⟨xs, q, Nat.le_refl _⟩, fun i H v H' _ q y => ?_⟩
  obtain ⟨T, x, h1, h2, h3, h4⟩ := y
  exact ⟨T, .int (i : Nat), x, h1, h2, h3, rfl, h4 xs q⟩
end NS
set_option Elab.async false
set_option linter.all false
set_option maxRecDepth 100000
set_option maxHeartbeats 8000000
/-! crashes -/
namespace Eh
open PySem PySem.Spec PyProof.Rows L2 NS
abbrev NCw : List Str := ["_law_deck_here", "_law_slots", "_law_drawn", "_law_size", "_law_turn", "_law_found", "_law_k", "_law_some"]
theorem scCrashes : FnScope NCw ["_law_deck_here", "_law_slots"] (defScope sCrashes) := ⟨rfl, rfl, rfl, by decide +kernel, rfl, by decide +kernel, by decide +kernel⟩
def crScope : Scope := { kind := .function, names := [(Str.ofString ".0", .local), (Str.ofString "_law_size", .cell), (Str.ofString "range", .globalImplicit), (Str.ofString "_law_draw", .globalImplicit), (Str.ofString "_law_deck_here", .cell), (Str.ofString "_law_slots", .cell)], isGenerator := false, isCoroutine := false }
def rowK (c : List Cr) : NestedKey := .tup (c.map crK)
def crsK (cs : List (List Cr)) : NestedKey := .tup (cs.map rowK)
section
variable {P : Program} {w : World} {K : PySem.W.Frag} {mg : Str → Option Value} {base : Heap}
def spCrashes (K : PySem.W.Frag) : Sp := fun us H Q _ => ∃ (p c : Addr) (m : Nat) (v : V) (sl : List Nat), us = [.ref p, v] ∧ Ky K H v (numsK sl) ∧ Deck H p c m ∧ m < 890000 ∧ sl[0]? = some 0 ∧ sl.length ≤ 8 ∧ (∀ n ∈ sl, n ≤ 8) ∧
  ∀ (H' : Hp) (v : V) (cs : List (List Cr)), Kp p c H H' → Deck H' p c (m + 200) → Ky K H' v (crsK cs) → Vld sl cs → Closed cs → (∀ c ∈ cs, c.length ≤ 4) → Q v H'
theorem crK_perm {ls : List NestedKey} {c : List Cr} (h : ls.Perm (c.map crK)) : ∃ d : List Cr, ls = d.map crK ∧ (∀ x, x ∈ d ↔ x ∈ c) ∧ d.length = c.length := by
  obtain ⟨d, rfl, _⟩ := crs_of (R := fun _ => True) (ks := ls) fun k hk => by
    obtain ⟨x, _, e⟩ := List.mem_map.mp (h.mem_iff.mp hk)
    exact ⟨x, e.symm, trivial⟩
  refine ⟨d, rfl, fun x => ?_, ?_⟩
  · rw [← crK_mem (c := d), h.mem_iff, crK_mem]
  · have z := h.length_eq
    rwa [List.length_map, List.length_map] at z
theorem rel_vld {sl : List Nat} {cs ds : List (List Cr)} (v : Vld sl cs) (len : ds.length = cs.length) (rel : ∀ (j : Nat) (d : List Cr), ds[j]? = some d → ∃ c : List Cr, cs[j]? = some c ∧ (∀ x, x ∈ d ↔ x ∈ c) ∧ d.length ≤ c.length) : Vld sl ds where
  len := by rw [len]; exact v.len
  ne d hd := by
    obtain ⟨j, hj⟩ := List.mem_iff_getElem?.mp hd
    obtain ⟨c0, h0, hm, _⟩ := rel j d hj
    exact List.length_pos_of_mem ((hm _).mpr (List.getElem_mem (v.ne c0 (List.mem_of_getElem? h0))))
  ok m d hd x hx := by
    obtain ⟨c0, h0, hm, _⟩ := rel m d hd
    exact v.ok m c0 h0 x ((hm x).mp hx)
theorem rel_closed {cs ds : List (List Cr)} (v : Closed cs) (rel : ∀ (j : Nat) (d : List Cr), ds[j]? = some d → ∃ c : List Cr, cs[j]? = some c ∧ (∀ x, x ∈ d ↔ x ∈ c) ∧ d.length ≤ c.length) : Closed ds := by
  intro m d hd x hx e he y hy
  obtain ⟨c0, h0, hm, _⟩ := rel m d hd
  obtain ⟨c1, h1, hm1, _⟩ := rel x.1 e he
  exact (hm _).mpr (v m c0 h0 x ((hm x).mp hx) c1 h1 y ((hm1 y).mp hy))
theorem RowsAt.fresh {K : PySem.W.Frag} {H : Hp} {rs : List Addr} {cs : List (List Cr)} (h : RowsAt K H rs cs) {D : Addr} (hD : H D = none) : D ∉ rs := fun hm => by
  obtain ⟨j, hj⟩ := List.mem_iff_getElem?.mp hm
  obtain ⟨ws, ew, _⟩ := h.row j D _ hj (List.getElem?_eq_getElem (by rw [← h.len]; exact (List.getElem?_eq_some_iff.mp hj).1))
  rw [hD] at ew
  cases ew
theorem rows_snoc {K : PySem.W.Frag} {H H3 : Hp} {D r : Addr} {rs : List Addr} {cs : List (List Cr)} {c : List Cr} {us : List V} {i : Nat} (ra : RowsAt K H3 rs cs) (nD : D ∉ rs) (nr : r ∉ rs) (nrD : r ≠ D) (eD : H3 D = some (.lst (rs.map V.ref))) (er : H3 r = some (.lst us)) (yr : Kys K H3 us (c.map crK)) :
    (upd H3 D (.lst (rs.map V.ref ++ [.ref r]))) D = some (.lst ((rs ++ [r]).map V.ref)) ∧ RowsAt K (upd H3 D (.lst (rs.map V.ref ++ [.ref r]))) (rs ++ [r]) (cs ++ [c]) ∧ D ∉ rs ++ [r] := by
  have tp := TK.put (K := K) (zs := rs.map V.ref ++ [.ref r]) eD
  refine ⟨by rw [upd_same, List.map_append]; rfl, (ra.keep (fun y hy o ho => ?_) tp).snoc nr (by rw [upd_ne nrD]; exact er) (Kys.tk yr tp), fun hm => ?_⟩
  · rw [upd_ne (fun z => nD (by rw [← z]; exact hy))]
    exact ho
  · rcases List.mem_append.mp hm with z | z
    · exact nD z
    · exact nrD (List.mem_singleton.mp z).symm
theorem rgV_nat (n : Nat) : rgV 0 (n : Int) = (List.range n).map fun n : Nat => V.int n := by
  unfold rgV
  rw [show ((n : Int) - 0).toNat = n by omega]
  refine List.map_congr_left fun a _ => ?_
  rw [Int.zero_add]
theorem idC (k n : Nat) : thenC (k, List.range n) (k, List.range n) = (k, List.range n) := by
  unfold thenC
  refine Prod.ext rfl ?_
  show (List.range n).map (fun i => (List.range n).getD i 0) = List.range n
  refine List.ext_getElem (by simp) fun i h1 h2 => ?_
  rw [List.getElem_map]
  rw [List.length_range] at h2
  simp [List.getD_eq_getElem?_getD, h2]
def tFin (K : PySem.W.Frag) : TS := tRet (tCB (rTupOf K) (tCons (tLc (iList K (tVar 5)) (gName 7) tYes (tCB (rTupOf K) (tCons (tCB (rSortedL K) (tCons (tVar 7) tNil)) tNil)) [7]) tNil))
theorem fin_ok {H : Hp} {fa : Addr} {rs : List Addr} {cs : List (List Cr)} {sl : List Nat} {a0 a1 a2 a3 a4 a6 a7 : Option V} {En : Ends} (e : H fa = some (.lst (rs.map V.ref))) (ra : RowsAt K H rs cs) (v : Vld sl cs) (cl : Closed cs) (hl : sl.length ≤ 8) (h4 : ∀ c ∈ cs, c.length ≤ 4)
    (q : ∀ (H' : Hp) (v : V) (ds : List (List Cr)), Same H H' → Ky K H' v (crsK ds) → Vld sl ds → Closed ds → (∀ c ∈ ds, c.length ≤ 4) → En.rt v H') : tFin K En [a0, a1, a2, a3, a4, some (.ref fa), a6, a7] H := by
  have ln : rs.length = sl.length := by rw [ra.len]; exact v.len
  refine ⟨_, rfl, fa, rfl, ⟨_, SqL.of e⟩, fun D hD => ?_⟩
  refine lc_list (xs := rs.map V.ref) (fun i H' => Same H H' ∧ ∃ (us : List V) (ds : List (List Cr)), H' D = some (.lst us) ∧ Kys K H' us (ds.map rowK) ∧ ds.length = i ∧ ∀ (j : Nat) (d : List Cr), ds[j]? = some d → ∃ c : List Cr, cs[j]? = some c ∧ (∀ x, x ∈ d ↔ x ∈ c) ∧ d.length ≤ c.length)
    ⟨same_upd hD, [], [], upd_same, .nil, rfl, fun j d h => by cases h⟩ (fun i H' _ z => SqL.of (z.1 _ _ e)) ?_ ?_
  · rintro i x H' hx ⟨s1, us, ds, e1, y1, l1, rel⟩
    rw [List.getElem?_map] at hx
    cases hri : rs[i]? with
    | none => rw [hri] at hx; cases hx
    | some r =>
      rw [hri] at hx
      cases hx
      have hi := (List.getElem?_eq_some_iff.mp hri).1
      have hci := List.getElem?_eq_getElem (l := cs) (i := i) (by rw [← ra.len]; exact hi)
      generalize cs[i]'(by rw [← ra.len]; exact hi) = c at hci
      obtain ⟨vs, ev, yv⟩ := ra.row i r c hri hci
      have hc4 := h4 c (List.mem_of_getElem? hci)
      refine ⟨rfl, ?_⟩
      dsimp only [tYes]
      rw [if_pos rfl]
      refine ⟨_, rfl, ?_⟩
      dsimp only [tNil]
      refine s_tuple (ks := c.map crK) (SqL.of (s1 _ _ ev)) (Kys.tk yv (.same s1)) (crK_fit fun k hk => by obtain ⟨x, _, e⟩ := List.mem_map.mp hk; exact ⟨x, e.symm⟩) (by rw [List.length_map]; omega) fun H2 r2 ls s2 pm y2 => ?_
      obtain ⟨d, rfl, dm, dl⟩ := crK_perm pm
      have eD := s2 _ _ e1
      have tp := TK.put (K := K) (zs := us ++ [.ref r2]) eD
      have lu : us.length = i := by rw [y1.length, List.length_map, l1]
      refine ⟨us, eD, ?_, fun b o h => ?_, us ++ [.ref r2], ds ++ [d], upd_same, ?_, ?_, fun j d' hj => ?_⟩
      · have h9 : 1000 ≤ sizeLine := by decide
        omega
      · rw [upd_ne (fun z => by rw [z, hD] at h; cases h)]
        exact s2 _ _ (s1 _ _ h)
      · rw [List.map_append]
        exact ((y1.tk (.same s2)).tk tp).app (.one (Ky.tk y2 tp))
      · rw [List.length_append, l1]
        rfl
      · by_cases hji : j < ds.length
        · rw [List.getElem?_append_left hji] at hj
          exact rel j d' hj
        · rw [List.getElem?_append_right (by omega)] at hj
          cases hz : j - ds.length with
          | zero =>
            rw [hz] at hj
            cases hj
            have : j = i := by omega
            subst this
            exact ⟨c, hci, dm, Nat.le_of_eq dl⟩
          | succ n => rw [hz] at hj; cases hj
  · rintro H1 ⟨s1, us, ds, e1, y1, l1, rel⟩
    rw [List.length_map] at l1
    have lc : ds.length = cs.length := by rw [l1, ra.len]
    refine ⟨D, _, rfl, .inl ⟨SqL.of e1, fun t nt => q _ _ ds (s1.trans (same_upd nt)) (.tup (SqT.of upd_same) (y1.tk (.new nt))) (rel_vld v lc rel) (rel_closed cl rel) fun d hd => ?_⟩⟩
    obtain ⟨j, hj⟩ := List.mem_iff_getElem?.mp hd
    obtain ⟨c0, h0, _, hl0⟩ := rel j d hj
    exact Nat.le_trans hl0 (h4 c0 (List.mem_of_getElem? h0))
theorem ok_crashes {f fD fP fR fT fC : Addr} {fd fdD fdP fdR fdT fdC : FuncData} {k : Nat} (F : Fun K "_law_crashes" "_law_crashes" sCrashes f fd) (FD : Fun K "_law_draw" "_law_draw" sDraw fD fdD) (bD : Binds K fdD ["_law_deck_here", "_law_many"] []) (gD : mg "_law_draw" = some (.ref fD))
    (FP : Fun K "_law_pick" "_law_pick" sPick fP fdP) (bP : Binds K fdP ["_law_deck_here", "_law_some"] []) (gP : mg "_law_pick" = some (.ref fP)) (FR : Fun K "_law_refs" "_law_refs" sRefs fR fdR) (bR : Binds K fdR ["_law_deck_here", "_law_many", "_law_size"] []) (gR : mg "_law_refs" = some (.ref fR))
    (FT : Fun K "_law_target" "_law_target" sTarget fT fdT) (bT : Binds K fdT ["_law_deck_here", "_law_slots", "_law_size"] []) (gT : mg "_law_target" = some (.ref fT))
    (FC : Fun K "_law_transitive" "_law_transitive" sTrans fC fdC) (bC : Binds K fdC ["_law_crashes_here"] []) (gC : mg "_law_transitive" = some (.ref fC))
    (mr : mg "range" = none) (mt : mg "tuple" = none) (ml : mg "len" = none) (ms : mg "set" = none) (mo : mg "sorted" = none) (mli : mg "list" = none) (me : mg "enumerate" = none) :
    FnOk P w K mg base CX0 (k + 4) f fd ["_law_deck_here", "_law_slots"] (spCrashes K) := by
  have GD : FnOk P w K mg base CX0 (k + 3) fD fdD ["_law_deck_here", "_law_many"] spDraw := ok_draw FD
  have GT : FnOk P w K mg base CX0 (k + 3) fT fdT ["_law_deck_here", "_law_slots", "_law_size"] (spTarget K) := ok_target FT FD bD gD FP bP gP FR bR gR mr mt ml
  have GC : FnOk P w K mg base CX0 (k + 3) fC fdC ["_law_crashes_here"] (spTrans K) := ok_trans FC mt ml ms mo mli
  refine F.ok scCrashes (fun us H Q E h => ?_) (fun cdv A outer s H us Q E hr h => ?_)
  · obtain ⟨p, c, m, v, sl, rfl, _⟩ := h
    rfl
  · obtain ⟨p, c, m, v, sl, rfl, ys, dk, hm, h0, hl, hb, q⟩ := h
    obtain ⟨sa, rfl, st⟩ := numsK_inv ys
    have hu : (cxOf CX0 P w K mg base NCw "_law_crashes" (defScope sCrashes) f cdv A outer s H E).nox.A.units + 64 < cLine := hr.units
    refine ⟨_, pss_cons (ps_setLc (i := 2) (own := [("_law_size", 3)]) (g := gName 3) (tt := tYes) (te := tLc (iRng1 _) (gName 4) tYes (tCall (spTarget K) [] (fun _ _ _ => False) (tCons (tVar 0) (tCons (tVar 1) (tCons (tVar 3) tNil)))) [4]) rfl scCrashes.nd rfl rfl (sw_true rfl rfl rfl (by decide +kernel)) (pi_tup (pv 1)) (blkOk_by (N := NCw) (sc := defScope sCrashes) (by decide +kernel))
            (fun _ _ _ _ _ => pg_name (i := 3) scCrashes.nd rfl (.inr rfl)) (fun _ _ _ _ _ => pts_nil)
            (fun _ _ _ _ _ => pe_lc (own := [("_law_turn", 4)]) (g := gName 4) (tt := tYes) (te := tCall (spTarget K) [] (fun _ _ _ => False) (tCons (tVar 0) (tCons (tVar 1) (tCons (tVar 3) tNil)))) rfl scCrashes.nd (pi_range1 rfl mr (pa_cons (pe_op op_add pe_int (pe_call GD hr (by rfl) gD FD.kp bD .nil pass0 (pa_cons (pv 0) (pa_cons pe_int pa_nil)))) pa_nil)) (blkOk_by (N := NCw) (sc := crScope) (by decide +kernel))
              (fun _ _ _ _ _ => pg_name (i := 4) scCrashes.nd rfl (.inl rfl)) (fun _ _ _ _ _ => pts_nil) (fun _ _ _ _ _ => pe_call GT hr (by rfl) gT FT.kp bT .nil pass0 (pa_cons (pv 0) (pa_cons (pv 1) (pa_cons (pv 3) pa_nil))))))
      (pss_cons (ps_set (i := 5) scCrashes.nd rfl (.inl rfl) (pe_orT (pe_call GC hr (by rfl) gC FC.kp bC .nil pass0 (pa_cons (pv 2) pa_nil)) (pe_one
          (pe_lc (own := [("_law_k", 6), ("_law_size", 3)]) (g := gTup K 2 (gCons (gName 6) (gCons (gName 3) gNil))) (tt := tYes) rfl scCrashes.nd (pi_enumT (by rfl) me (pa_cons (pv 1) pa_nil)) (blkOk_by (N := NCw) (sc := defScope sCrashes) (by decide +kernel))
            (fun _ _ _ _ _ => pg_tup rfl (pgs_cons (pg_name (i := 6) scCrashes.nd rfl (.inl rfl)) (pgs_cons (pg_name (i := 3) scCrashes.nd rfl (.inl rfl)) pgs_nil))) (fun _ _ _ _ _ => pts_nil)
            (fun _ _ _ _ _ => pe_lst (pa_cons (pe_tup (pa_cons (pv 6) (pa_cons (pe_tupRg rfl (by rfl) mt (prg_1 (by rfl) mr (pv 3))) pa_nil))) pa_nil))))))
      (pss_one (psAs (tFin K) (ps_ret (pe_callTy call_tuple_of (by rfl) mt (by decide +kernel) (pa_cons
          (pe_lc (own := [("_law_some", 7)]) (g := gName 7) (tt := tYes) (te := tCB (rTupOf K) (tCons (tCB (rSortedL K) (tCons (tVar 7) tNil)) tNil)) rfl scCrashes.nd (pi_list (pv 5)) (blkOk_by (N := NCw) (sc := defScope sCrashes) (by decide +kernel))
            (fun _ _ _ _ _ => pg_name (i := 7) scCrashes.nd rfl (.inl rfl)) (fun _ _ _ _ _ => pts_nil) (fun _ _ _ _ _ => pe_callTy call_tuple_of (by rfl) mt (by decide +kernel) (pa_cons (pe_callB (cr_sortedL rfl hu) (by rfl) mo (by decide +kernel) (pa_cons (pv 7) pa_nil)) pa_nil))) pa_nil)))))), ?_⟩
    have sl0 : 0 < sl.length := (List.getElem?_eq_some_iff.mp h0).1
    refine ⟨_, rfl, sa, rfl, ⟨_, st⟩, fun D hD => ?_⟩
    obtain ⟨nDp, nDc⟩ := dk.nep hD
    refine lc_tup (K := K) (xs := sl.map fun n : Nat => V.int n) (fun i H' => Kp p c H H' ∧ Deck H' p c (m + i * 20) ∧ ∃ (rs : List Addr) (cs : List (List Cr)), H' D = some (.lst (rs.map V.ref)) ∧ rs.length = i ∧ D ∉ rs ∧ RowsAt K H' rs cs ∧ (∀ r ∈ rs, r ≠ p ∧ r ≠ c) ∧
        (∀ (j : Nat) (cj : List Cr), cs[j]? = some cj → 0 < cj.length ∧ cj.length ≤ 4 ∧ ∀ x ∈ cj, ∃ sz, sl[j]? = some sz ∧ TgOk sl sz x))
      ⟨.of_same (same_upd hD), by rw [Nat.zero_mul]; exact dk.of_same (same_upd hD), [], [], upd_same, rfl, by simp, ⟨rfl, List.nodup_nil, fun i r c h => by cases h⟩, by simp, fun j c h => by cases h⟩ (fun i H' _ z => TK.kp dk z.1 _ _ st) ?_ ?_
    · rintro i x H1 hx ⟨k1, d1, rs, cs, e1, l1, nD, ra, rpc, ok⟩
      rw [List.getElem?_map] at hx
      cases hsz : sl[i]? with
      | none => rw [hsz] at hx; cases hx
      | some sz =>
        rw [hsz] at hx
        cases hx
        have hi := (List.getElem?_eq_some_iff.mp hsz).1
        have t1 : TK K H H1 := .kp dk k1
        refine ⟨rfl, ?_⟩
        dsimp only [tYes]
        rw [if_pos rfl]
        refine ⟨_, rfl, p, c, _, 2, rfl, d1, by omega, by decide, by decide, fun H2 r k2 d2 r0 r1 => ?_⟩
        obtain ⟨rn, rfl⟩ : ∃ rn : Nat, r = (rn : Int) := ⟨r.toNat, by omega⟩
        refine ⟨_, _, rfl, rfl, _, rfl, by omega, by omega, ?_⟩
        rw [show ((1 + (rn : Int)).toNat) = 1 + rn by omega]
        intro D2 hD2
        obtain ⟨n2p, n2c⟩ := d2.nep hD2
        have t2 : TK K H H2 := .kp dk (k1.trans k2)
        have sz8 := hb sz (List.mem_of_getElem? hsz)
        refine cd_range (K := K) (j := 4) (m := m + i * 20 + 1) (d := 9) (n := 1 + rn) (Pk := fun k => ∃ x, k = crK x ∧ TgOk sl sz x) d2 hD2 (by omega) (fun i' H' Q' hi' kk dd qq => ?_) fun H3 us ks k3 d3 e3 y3 l3 p3 => ?_
        · refine ⟨_, rfl, _, rfl, _, rfl, p, c, _, sz, .ref sa, sl, rfl, ys.tk (t2.trans (.kp d2 kk)), dd, by omega, by omega, h0, hl, hb, fun H4 v4 x4 k4 d4 g4 y4 => ?_⟩
          exact qq _ _ _ k4 (by rw [Nat.succ_mul, ← Nat.add_assoc]; exact d4) y4 ⟨x4, rfl, g4⟩
        · obtain ⟨ds, rfl, hds⟩ := crs_of p3
          have ld : ds.length = 1 + rn := by rw [List.length_map] at l3; exact l3
          have k13 : Kp p c H1 H3 := k2.trans k3
          have eD : H3 D = some (.lst (rs.map V.ref)) := k13 _ _ nDp nDc e1
          have n2D : D2 ≠ D := fun z => by
            have := k2 _ _ nDp nDc e1
            rw [← z, hD2] at this
            cases this
          have ra2 : RowsAt K H2 rs cs := ra.keep (fun y hy o ho => k2 _ _ (rpc y hy).1 (rpc y hy).2 ho) (.kp d1 k2)
          have ra3 : RowsAt K H3 rs cs := ra2.keep (fun y hy o ho => k3 _ _ (rpc y hy).1 (rpc y hy).2 ho) (.kp d2 k3)
          obtain ⟨b1, b2, b3⟩ := rows_snoc (H := H) (i := i) ra3 nD (ra2.fresh hD2) n2D eD e3 y3
          refine ⟨_, eD, ?_, fun b o bp bc h => ?_, ?_, rs ++ [D2], cs ++ [ds], b1, by rw [List.length_append, l1]; rfl, b3, b2, fun y hy => ?_, fun j cj hj => ?_⟩
          · have h9 : 1000 ≤ sizeLine := by decide
            rw [List.length_map]
            omega
          · rw [upd_ne (fun z => by rw [z, hD] at h; cases h)]
            exact k13 _ _ bp bc (k1 _ _ bp bc h)
          · exact (d3.put nDp nDc).mono (by omega)
          · rcases List.mem_append.mp hy with z | z
            · exact rpc y z
            · rw [List.mem_singleton.mp z]; exact ⟨n2p, n2c⟩
          · rcases at_snoc hj with z | ⟨z1, z2⟩
            · exact ok j cj z
            · subst z2
              have : j = i := by rw [z1, ← ra.len, l1]
              subst this
              exact ⟨by omega, by omega, fun x hx => ⟨sz, hsz, hds x hx⟩⟩
    · rintro H1 ⟨k1, d1, rs, cs, e1, l1, nD, ra, rpc, ok⟩
      rw [List.length_map] at l1 d1
      have v1 : Vld sl cs := {
        len := by rw [← ra.len, l1]
        ne := fun cj hc => by
          obtain ⟨j, hj⟩ := List.mem_iff_getElem?.mp hc
          exact (ok j cj hj).1
        ok := fun j cj hj => (ok j cj hj).2.2 }
      have h41 : ∀ cj ∈ cs, cj.length ≤ 4 := fun cj hc => by
        obtain ⟨j, hj⟩ := List.mem_iff_getElem?.mp hc
        exact (ok j cj hj).2.1
      have fin : ∀ (H' : Hp) (v : V) (ds : List (List Cr)), Same H1 H' → Ky K H' v (crsK ds) → Vld sl ds → Closed ds → (∀ c ∈ ds, c.length ≤ 4) → Q v H' :=
        fun H' v ds s2 y2 v2 c2 h2 => q H' v ds (k1.trans (.of_same s2)) ((d1.of_same s2).mono (by omega)) y2 v2 c2 h2
      show tSeq _ _ _ _ H1
      refine ⟨_, rfl, D, rs, cs, sl, rfl, e1, ra, v1, hl, hb, h41, fun H2 s2 => ?_, fun H2 fa rs2 cs2 s2 nf nr2 e2 ra2 v2 c2 h42 => ?_⟩
      · refine ⟨false, rfl, iteF ?_⟩
        have t2 : TK K H H2 := (TK.kp dk k1).trans (.same s2)
        refine ⟨_, rfl, sa, _, rfl, t2 _ _ st, fun D2 hD2 => ?_⟩
        refine lc_it walk_enumT (fun i H' => Same H2 H' ∧ ∃ (rs : List Addr) (cs : List (List Cr)), H' D2 = some (.lst (rs.map V.ref)) ∧ rs.length = i ∧ D2 ∉ rs ∧ RowsAt K H' rs cs ∧
            (∀ (j : Nat) (cj : List Cr), cs[j]? = some cj → ∃ n, sl[j]? = some n ∧ cj = [(j, List.range n)]))
          ⟨same_upd hD2, [], [], upd_same, rfl, by simp, ⟨rfl, List.nodup_nil, fun i r c h => by cases h⟩, fun j c h => by cases h⟩ (fun i H' _ z => sqT_of z.1 (t2 _ _ st)) ?_ ?_
        · rintro i x H3 H4 hi ⟨s3, rs3, cs3, e3, l3, nD3, ra3, ok3⟩ ⟨T, a, b, rfl, hT, rfl, ha, hb'⟩
          cases ha
          rw [List.length_map] at hi
          have hb'' : (sl.map fun n : Nat => V.int n)[i]? = some b := hb'
          rw [List.getElem?_map] at hb''
          cases hsz : sl[i]? with
          | none => rw [hsz] at hb''; cases hb''
          | some sz =>
            rw [hsz] at hb''
            cases hb''
            have sz8 := hb sz (List.mem_of_getElem? hsz)
            refine ⟨T, _, rfl, SqT.of upd_same, rfl, _, _, rfl, _, _, rfl, rfl, rfl, ?_⟩
            have s4 : Same H3 (upd H3 T (.tup [.int (i : Nat), .int sz])) := same_upd hT
            generalize upd H3 T (.tup [.int (i : Nat), .int sz]) = H4 at s4 ⊢
            dsimp only [tYes]
            rw [if_pos rfl]
            refine ⟨_, rfl, _, rfl, _, rfl, RgOk.of_le (by omega) (by omega) (by omega) (by omega), fun tq ntq => ⟨by show 2 ≤ sizeLine; decide, fun on non => ⟨by show 1 ≤ sizeLine; decide, fun ln nln => ?_⟩⟩⟩
            have s5 : Same H4 (upd H4 tq (.tup (rgV 0 sz))) := same_upd ntq
            have e5 : (upd H4 tq (.tup (rgV 0 sz))) tq = some (.tup (rgV 0 sz)) := upd_same
            generalize upd H4 tq (.tup (rgV 0 sz)) = H5 at s5 e5 non nln ⊢
            have s6 : Same H5 (upd H5 on (.tup [.int (i : Nat), .ref tq])) := same_upd non
            have e6 : (upd H5 on (.tup [.int (i : Nat), .ref tq])) on = some (.tup [.int (i : Nat), .ref tq]) := upd_same
            generalize upd H5 on (.tup [.int (i : Nat), .ref tq]) = H6 at s6 e6 nln ⊢
            have s7 : Same H6 (upd H6 ln (.lst [.ref on])) := same_upd nln
            have e7 : (upd H6 ln (.lst [.ref on])) ln = some (.lst [.ref on]) := upd_same
            generalize upd H6 ln (.lst [.ref on]) = H7 at s7 e7 ⊢
            have s37 : Same H3 H7 := s4.trans (s5.trans (s6.trans s7))
            have s36 : Same H3 H6 := s4.trans (s5.trans s6)
            have eD := s37 _ _ e3
            have nlD : ln ≠ D2 := fun z => by
              have := s36 _ _ e3
              rw [← z, nln] at this
              cases this
            rw [rgV_nat] at e5
            have ky : Kys K H7 [.ref on] ([((i : Nat), List.range sz)].map crK) := .one (.tup (SqT.of (s7 _ _ e6)) (.cons (.num i) (.one (.tup (SqT.of (s7 _ _ (s6 _ _ e5))) (nats_kys _)))))
            obtain ⟨b1, b2, b3⟩ := rows_snoc (H := H) (i := i) (ra3.same s37) nD3 ((ra3.same s36).fresh nln) nlD eD e7 ky
            refine ⟨_, eD, ?_, fun b o h => ?_, rs3 ++ [ln], cs3 ++ [[(i, List.range sz)]], b1, by rw [List.length_append, l3]; rfl, b3, b2, fun j cj hj => ?_⟩
            · have h9 : 1000 ≤ sizeLine := by decide
              rw [List.length_map]
              omega
            · rw [upd_ne (fun z => by rw [z, hD2] at h; cases h)]
              exact s37 _ _ (s3 _ _ h)
            · rcases at_snoc hj with z | ⟨z1, z2⟩
              · exact ok3 j cj z
              · subst z2
                have : j = i := by rw [z1, ← ra3.len, l3]
                subst this
                exact ⟨sz, hsz, rfl⟩
        · rintro H3 ⟨s3, rs3, cs3, e3, l3, nD3, ra3, ok3⟩
          rw [List.length_map] at l3
          refine fin_ok (sl := sl) e3 ra3 ?_ ?_ hl (fun cj hc => ?_) fun H' v ds s4 y3 v3 c3 h3 => fin H' v ds ((s2.trans s3).trans s4) y3 v3 c3 h3
          · refine ⟨by rw [← ra3.len, l3], fun cj hc => ?_, fun j cj hj x hx => ?_⟩
            · obtain ⟨j, hj⟩ := List.mem_iff_getElem?.mp hc
              obtain ⟨n, _, e⟩ := ok3 j cj hj
              rw [e]
              exact Nat.succ_pos _
            · obtain ⟨n, hn, e⟩ := ok3 j cj hj
              rw [e] at hx
              rw [List.mem_singleton.mp hx]
              exact ⟨n, hn, by rw [List.length_range]; exact hn, fun z hz => List.mem_range.mp hz⟩
          · intro j cj hj x hx d hd y hy
            obtain ⟨n, hn, e⟩ := ok3 j cj hj
            rw [e] at hx
            obtain rfl := List.mem_singleton.mp hx
            rw [hj] at hd
            cases hd
            rw [e] at hy
            obtain rfl := List.mem_singleton.mp hy
            rw [idC, e]
            exact List.mem_singleton.mpr rfl
          · obtain ⟨j, hj⟩ := List.mem_iff_getElem?.mp hc
            obtain ⟨n, _, e⟩ := ok3 j cj hj
            rw [e]
            show 1 ≤ 4
            decide
      · refine ⟨true, .inl ⟨_, SqL.of e2, ?_⟩, iteT ?_⟩
        · have : 0 < rs2.length := by rw [ra2.len, v2.len]; exact sl0
          cases rs2 with
          | nil => cases this
          | cons a b => rfl
        · show tFin K _ [_, _, _, _, _, some (.ref fa), _, _] H2
          exact fin_ok e2 ra2 v2 c2 hl h42 fun H' v ds s3 y3 v3 c3 h3 => fin H' v ds (s2.trans s3) y3 v3 c3 h3
end
end Eh
set_option Elab.async false
set_option linter.all false
set_option maxRecDepth 100000
set_option maxHeartbeats 8000000
/-! specs; the unsafe cell -/
namespace Eh
open PySem PySem.Spec PyProof.Rows L2 NS
structure ASpec where
  slots : List Nat
  ops : List (Str × Nat)
  cases : List (List (List Outc))
  crs : List (List Cr)
def caseK (os : List Outc) : NestedKey := .tup (os.map outK)
def mrowK (row : List (List Outc)) : NestedKey := .tup (row.map caseK)
def specK (S : ASpec) : NestedKey := .tup [numsK S.slots, .tup (S.ops.map repK), .tup (S.cases.map mrowK), crsK S.crs]
structure SpecOk (S : ASpec) : Prop where
  s0 : S.slots[0]? = some 0
  sn : S.slots.length ≤ 8
  sv : ∀ n ∈ S.slots, n ≤ 8
  on : S.ops.length ≤ 8
  oo : ∀ o ∈ S.ops, Lt 8 o.1 ∧ o.2 ≤ 2
  nd : (S.ops.map (·.1)).Nodup
  cl : S.cases.length = S.slots.length
  cr : ∀ (m : Nat) (row : List (List Outc)), S.cases[m]? = some row → row.length = S.ops.length ∧ ∀ (j : Nat) (os : List Outc), row[j]? = some os → 0 < os.length ∧ os.length ≤ 3 ∧ ∀ o ∈ os, ∃ sz ar, S.slots[m]? = some sz ∧ (S.ops.map (·.2))[j]? = some ar ∧ OutOk S.slots (sz + ar) o
  cv : Vld S.slots S.crs
  cc : Closed S.crs
  c4 : ∀ c ∈ S.crs, c.length ≤ 4
/-! displays of tuples -/
def Lit (K : PySem.W.Frag) (te : TE) (k : NestedKey) (σ : L2.St) : Prop := ∀ H Q, (∀ H' v, Same H H' → Ky K H' v k → Q v H') → te σ H Q
def Lits (K : PySem.W.Frag) (ta : TA) (ks : List NestedKey) (σ : L2.St) : Prop := ∀ H Q, (∀ H' vs, Same H H' → Kys K H' vs ks → Q vs H') → ta σ H Q
section
variable {K : PySem.W.Frag} {σ : L2.St}
theorem lit_int {i : Int} : Lit K (tC (.int i)) (.num i) σ := fun H Q q => q H _ (Same.refl _) (.num i)
theorem lit_nat {i : Nat} : Lit K (tC (.int (i : Int))) (.num i) σ := fun H Q q => q H _ (Same.refl _) (.num i)
theorem lit_str {s : Str} : Lit K (tC (.str s)) (.text s) σ := fun H Q q => q H _ (Same.refl _) (.text s)
theorem lit_var {i : Nat} {s : Str} (h : σ[i]? = some (some (.str s))) : Lit K (tVar i) (.text s) σ := fun H Q q => ⟨_, h, q H _ (Same.refl _) (.text s)⟩
theorem lits_nil : Lits K tNil [] σ := fun H Q q => q H _ (Same.refl _) .nil
theorem lits_cons {te : TE} {ta : TA} {k : NestedKey} {ks : List NestedKey} (h : Lit K te k σ) (g : Lits K ta ks σ) : Lits K (tCons te ta) (k :: ks) σ := fun H Q q =>
  h H _ fun H1 v s1 y1 => g H1 _ fun H2 vs s2 y2 => q H2 _ (s1.trans s2) (.cons (y1.tk (.same s2)) y2)
theorem lit_tup {ta : TA} {ks : List NestedKey} (h : Lits K ta ks σ) (few : ks.length ≤ 1000) : Lit K (tTup ta) (.tup ks) σ := fun H Q q =>
  h H _ fun H1 vs s1 y1 => ⟨by rw [y1.length]; exact Nat.le_trans few (by decide), fun p np => q _ _ (s1.trans (same_upd np)) (.tup (SqT.of upd_same) (y1.tk (.new np)))⟩
theorem lit_asg {te : TE} {k : NestedKey} {i : Nat} {D : Ends} {H : Hp} (h : Lit K te k σ) (q : ∀ H' v, Same H H' → Ky K H' v k → D.nx (σ.set i (some v)) H') : tAsg te (gName i) D σ H := h H _ fun H' v s y => q H' v s y
theorem lit_lst1 {te : TE} {k : NestedKey} {i : Nat} {D : Ends} {H : Hp} (h : Lit K te k σ) (q : ∀ H' a, Same H H' → H a = none → (∃ v, H' a = some (.lst [v]) ∧ Ky K H' v k) → D.nx (σ.set i (some (.ref a))) H') : tAsg (tLst (tCons te tNil)) (gName i) D σ H :=
  h H _ fun H' v s y => ⟨by show 1 ≤ sizeLine; decide, fun a na => q _ a (s.trans (same_upd na)) (by
    cases z : H a with
    | none => rfl
    | some o => rw [s _ _ z] at na; cases na) ⟨v, upd_same, y.tk (.new na)⟩⟩
theorem lit_app {te : TE} {k : NestedKey} {i : Nat} {D : Ends} {H : Hp} {a : Addr} {vs : List V} {ks : List NestedKey} (hσ : σ[i]? = some (some (.ref a))) (ha : H a = some (.lst vs)) (hk : Kys K H vs ks) (few : vs.length < 1000) (h : Lit K te k σ)
    (q : ∀ H' us, (∀ b o, b ≠ a → H b = some o → H' b = some o) → TK K H H' → H' a = some (.lst us) → Kys K H' us (ks ++ [k]) → D.nx σ H') : tDrop (tBM K "list" rAppend (tVar i) (tCons te tNil)) D σ H := by
  refine ⟨_, hσ, .inl ⟨rfl, _, SqL.of ha⟩, h H _ fun H' v s y => ⟨a, vs, v, rfl, rfl, s _ _ ha, ?_, ?_⟩⟩
  · have h9 : 1000 ≤ sizeLine := by decide
    omega
  · have tp := TK.put (K := K) (zs := vs ++ [v]) (s _ _ ha)
    refine q _ (vs ++ [v]) (fun b o hb e => by rw [upd_ne hb]; exact s _ _ e) ((TK.same s).trans tp) upd_same ?_
    exact ((hk.tk (.same s)).tk tp).app (.one (y.tk tp))
end
/-- UNSAFE -/
def unSl : List Nat := [0, 1, 2, 1]
def unCases : List (List (List Outc)) := [[[⟨Str.ofString "none", [], 0, []⟩], [⟨Str.ofString "ok", [], 3, [0]⟩], [⟨Str.ofString "ok", [], 0, []⟩]], [[⟨Str.ofString "is", [0], 1, [0]⟩], [⟨Str.ofString "ok", [], 2, [0, 1]⟩], [⟨Str.ofString "ok", [], 1, [0]⟩]], [[⟨Str.ofString "is", [1], 2, [0, 1]⟩], [⟨Str.ofString "ok", [], 2, [0, 2]⟩], [⟨Str.ofString "ok", [], 1, [1]⟩]], [[⟨Str.ofString "is", [0], 3, [0]⟩], [⟨Str.ofString "ok", [], 3, [1]⟩], [⟨Str.ofString "ok", [], 1, [0]⟩]]]
def unCrs : List (List Cr) := [[(0, [])], [(1, [0])], [(1, [0]), (1, [1])], [(0, []), (1, [0])]]
def unsafeS (g p s : Str) : ASpec where
  slots := unSl
  ops := [(g, 0), (p, 1), (s, 0)]
  cases := unCases
  crs := unCrs
def outOkB (sl : List Nat) (size : Nat) (o : Outc) : Bool := decide (o.reply.cps.toList.length ≤ 8) && o.reply.cps.toList.all (fun c => decide (97 ≤ c ∧ c ≤ 122)) && decide (o.res.length ≤ 2) && o.res.all (fun n => decide (n < size)) && decide (sl[o.after]? = some o.ns.length) && o.ns.all fun n => decide (n < size)
theorem outOkB_ok {sl : List Nat} {size : Nat} {o : Outc} (h : outOkB sl size o = true) : OutOk sl size o := by
  unfold outOkB at h
  simp only [Bool.and_eq_true, decide_eq_true_eq, List.all_eq_true] at h
  obtain ⟨⟨⟨⟨⟨h1, h2⟩, h3⟩, h4⟩, h5⟩, h6⟩ := h
  exact ⟨⟨h1, h2⟩, h3, h4, h5, h6⟩
def casesB (sl ars : List Nat) : List (List (List Outc)) → Nat → Bool
  | [], _ => true
  | row :: rows, m => decide (row.length = ars.length) && (List.range row.length).all (fun j => decide (0 < (row.getD j []).length) && decide ((row.getD j []).length ≤ 3) && (row.getD j []).all (outOkB sl (sl.getD m 0 + ars.getD j 0))) && casesB sl ars rows (m + 1)
theorem casesB_ok {sl ars : List Nat} : ∀ {rows : List (List (List Outc))} {m : Nat}, casesB sl ars rows m = true → m + rows.length ≤ sl.length → ∀ (i : Nat) (row : List (List Outc)), rows[i]? = some row → row.length = ars.length ∧ ∀ (j : Nat) (os : List Outc), row[j]? = some os → 0 < os.length ∧ os.length ≤ 3 ∧ ∀ o ∈ os, ∃ sz ar, sl[m + i]? = some sz ∧ ars[j]? = some ar ∧ OutOk sl (sz + ar) o
  | [], m, _, _, i, row, h => by cases h
  | r :: rows, m, hB, hl, 0, row, h => by
    cases h
    unfold casesB at hB
    simp only [Bool.and_eq_true, decide_eq_true_eq, List.all_eq_true] at hB
    obtain ⟨⟨h1, h2⟩, _⟩ := hB
    refine ⟨h1, fun j os hj => ?_⟩
    have jl := (List.getElem?_eq_some_iff.mp hj).1
    obtain ⟨⟨a, b⟩, c⟩ := h2 j (List.mem_range.mpr jl)
    have e : r.getD j [] = os := by rw [List.getD_eq_getElem?_getD, hj]; rfl
    rw [e] at a b c
    rw [List.length_cons] at hl
    have ml : m < sl.length := by omega
    have jl2 : j < ars.length := by omega
    refine ⟨a, b, fun o ho => ⟨sl[m], ars[j], List.getElem?_eq_getElem ml, List.getElem?_eq_getElem jl2, ?_⟩⟩
    have z := outOkB_ok (c o ho)
    rw [List.getD_eq_getElem?_getD, List.getD_eq_getElem?_getD, List.getElem?_eq_getElem ml, List.getElem?_eq_getElem jl2] at z
    exact z
  | r :: rows, m, hB, hl, i + 1, row, h => by
    unfold casesB at hB
    rw [Bool.and_eq_true] at hB
    rw [List.length_cons] at hl
    have z := casesB_ok (rows := rows) (m := m + 1) hB.2 (by omega) i row (by simpa using h)
    rw [show m + (i + 1) = m + 1 + i by omega]
    exact z
def crsB (sl : List Nat) (cs : List (List Cr)) : Bool := decide (cs.length = sl.length) && (List.range cs.length).all fun m => decide (0 < (cs.getD m []).length) && decide ((cs.getD m []).length ≤ 4) && (cs.getD m []).all fun x => decide (sl[x.1]? = some x.2.length) && x.2.all (fun n => decide (n < sl.getD m 0)) && (cs.getD x.1 []).all fun y => (cs.getD m []).contains (thenC x y)
theorem crsB_ok {sl : List Nat} {cs : List (List Cr)} (h : crsB sl cs = true) : Vld sl cs ∧ Closed cs ∧ ∀ c ∈ cs, c.length ≤ 4 := by
  unfold crsB at h
  simp only [Bool.and_eq_true, decide_eq_true_eq, List.all_eq_true] at h
  obtain ⟨hl, h⟩ := h
  have at_ : ∀ (m : Nat) (c : List Cr), cs[m]? = some c → cs.getD m [] = c ∧ m < cs.length := fun m c hc => ⟨by rw [List.getD_eq_getElem?_getD, hc]; rfl, (List.getElem?_eq_some_iff.mp hc).1⟩
  refine ⟨⟨hl, fun c hc => ?_, fun m c hc x hx => ?_⟩, fun m c hc x hx d hd y hy => ?_, fun c hc => ?_⟩
  · obtain ⟨m, hm⟩ := List.mem_iff_getElem?.mp hc
    obtain ⟨e, ml⟩ := at_ m c hm
    have z := (h m (List.mem_range.mpr ml)).1.1
    rwa [e] at z
  · obtain ⟨e, ml⟩ := at_ m c hc
    have z := (h m (List.mem_range.mpr ml)).2
    rw [e] at z
    obtain ⟨⟨z1, z2⟩, _⟩ := z x hx
    have ml2 : m < sl.length := by omega
    refine ⟨sl[m], List.getElem?_eq_getElem ml2, z1, fun n hn => ?_⟩
    have := z2 n hn
    rwa [List.getD_eq_getElem?_getD, List.getElem?_eq_getElem ml2] at this
  · obtain ⟨e, ml⟩ := at_ m c hc
    obtain ⟨e2, _⟩ := at_ x.1 d hd
    have z := (h m (List.mem_range.mpr ml)).2
    rw [e] at z
    have z3 := (z x hx).2
    rw [e2] at z3
    have := z3 y hy
    simpa using this
  · obtain ⟨m, hm⟩ := List.mem_iff_getElem?.mp hc
    obtain ⟨e, ml⟩ := at_ m c hm
    have z := (h m (List.mem_range.mpr ml)).1.2
    rwa [e] at z
theorem unsafe_ok {g p s : Str} (h1 : Lt 8 g) (h2 : Lt 8 p) (h3 : Lt 8 s) (nd : [g, p, s].Nodup) : SpecOk (unsafeS g p s) := by
  have hc := casesB_ok (sl := unSl) (ars := [0, 1, 0]) (rows := unCases) (m := 0) (by decide +kernel) (by decide)
  obtain ⟨c1, c2, c3⟩ := crsB_ok (sl := unSl) (cs := unCrs) (by decide +kernel)
  refine ⟨rfl, (by decide : unSl.length ≤ 8), (by decide : ∀ n ∈ unSl, n ≤ 8), (by decide : 3 ≤ 8), fun o ho => ?_, nd, rfl, fun m row hr => ?_, c1, c2, c3⟩
  · have ho' : o ∈ [(g, 0), (p, 1), (s, 0)] := ho
    simp only [List.mem_cons, List.not_mem_nil, or_false] at ho'
    rcases ho' with rfl | rfl | rfl
    · exact ⟨h1, (by decide : 0 ≤ 2)⟩
    · exact ⟨h2, (by decide : 1 ≤ 2)⟩
    · exact ⟨h3, (by decide : 0 ≤ 2)⟩
  · have z := hc m row hr
    rw [Nat.zero_add] at z
    exact z
abbrev NUn : List Str := ["_law_deck_here", "_law_get", "_law_put", "_law_sure", "_law_slots", "_law_cases", "_law_crashes_here"]
theorem scUnsafe : FnScope NUn ["_law_deck_here"] (defScope sUnsafe) := ⟨rfl, rfl, rfl, by decide +kernel, rfl, by decide +kernel, by decide +kernel⟩
section
variable {P : Program} {w : World} {K : PySem.W.Frag} {mg : Str → Option Value} {base : Heap}
def spUnsafe (K : PySem.W.Frag) : Sp := fun us H Q _ => ∃ (p c : Addr) (m : Nat), us = [.ref p] ∧ Deck H p c m ∧ m < 880000 ∧ ∀ (H' : Hp) (v : V) (S : ASpec), Kp p c H H' → Deck H' p c (m + 11) → SpecOk S → Ky K H' v (specK S) → Q v H'
theorem ok_unsafe {f fD fN : Addr} {fd fdD fdN : FuncData} {k : Nat} (F : Fun K "_law_unsafe_cell" "_law_unsafe_cell" sUnsafe f fd) (FD : Fun K "_law_draw" "_law_draw" sDraw fD fdD) (bD : Binds K fdD ["_law_deck_here", "_law_many"] []) (gD : mg "_law_draw" = some (.ref fD))
    (FN : Fun K "_law_names" "_law_names" sNames fN fdN) (bN : Binds K fdN ["_law_deck_here", "_law_many"] []) (gN : mg "_law_names" = some (.ref fN)) (mr : mg "range" = none) (mt : mg "tuple" = none) (mo : mg "sorted" = none) :
    FnOk P w K mg base CX0 (k + 3) f fd ["_law_deck_here"] (spUnsafe K) := by
  have GN : FnOk P w K mg base CX0 (k + 2) fN fdN ["_law_deck_here", "_law_many"] spNames := ok_names FN FD bD gD mr
  refine F.ok scUnsafe (fun us H Q E h => ?_) (fun cdv A outer s H us Q E hr h => ?_)
  · obtain ⟨p, c, m, rfl, _⟩ := h
    rfl
  · obtain ⟨p, c, m, rfl, dk, hm, q⟩ := h
    refine ⟨_, pss_cons (ps_asg (pe_callB cr_sortedS (by rfl) mo (by decide +kernel) (pa_cons (pe_call GN hr (by rfl) gN FN.kp bN .nil pass0 (pa_cons (pv 0) (pa_cons pe_int pa_nil))) pa_nil)) (pg_unl rfl (pgs_cons (pg_name (i := 1) scUnsafe.nd rfl (.inl rfl)) (pgs_cons (pg_name (i := 2) scUnsafe.nd rfl (.inl rfl)) (pgs_cons (pg_name (i := 3) scUnsafe.nd rfl (.inl rfl)) pgs_nil)))))
      (pss_cons (ps_set (i := 4) scUnsafe.nd rfl (.inl rfl) (pe_tup (pa_cons pe_int (pa_cons pe_int (pa_cons pe_int (pa_cons pe_int pa_nil))))))
      (pss_cons (ps_set (i := 5) scUnsafe.nd rfl (.inl rfl) (pe_lst (pa_cons (pe_tup (pa_cons (pe_tup (pa_cons (pe_tup (pa_cons pe_str (pa_cons (pe_tup pa_nil) (pa_cons pe_int (pa_cons (pe_tup pa_nil) pa_nil))))) pa_nil)) (pa_cons (pe_tup (pa_cons (pe_tup (pa_cons pe_str (pa_cons (pe_tup pa_nil) (pa_cons pe_int (pa_cons (pe_tup (pa_cons pe_int pa_nil)) pa_nil))))) pa_nil)) (pa_cons (pe_tup (pa_cons (pe_tup (pa_cons pe_str (pa_cons (pe_tup pa_nil) (pa_cons pe_int (pa_cons (pe_tup pa_nil) pa_nil))))) pa_nil)) pa_nil)))) pa_nil)))
      (pss_cons (ps_expr (pe_bm PySem.F.plainAttrs_list PySem.F.slot_list_append PySem.F.type_list_append mt_append (pv 5) (pa_cons (pe_tup (pa_cons (pe_tup (pa_cons (pe_tup (pa_cons pe_str (pa_cons (pe_tup (pa_cons pe_int pa_nil)) (pa_cons pe_int (pa_cons (pe_tup (pa_cons pe_int pa_nil)) pa_nil))))) pa_nil)) (pa_cons (pe_tup (pa_cons (pe_tup (pa_cons pe_str (pa_cons (pe_tup pa_nil) (pa_cons pe_int (pa_cons (pe_tup (pa_cons pe_int (pa_cons pe_int pa_nil))) pa_nil))))) pa_nil)) (pa_cons (pe_tup (pa_cons (pe_tup (pa_cons pe_str (pa_cons (pe_tup pa_nil) (pa_cons pe_int (pa_cons (pe_tup (pa_cons pe_int pa_nil)) pa_nil))))) pa_nil)) pa_nil)))) pa_nil)))
      (pss_cons (ps_expr (pe_bm PySem.F.plainAttrs_list PySem.F.slot_list_append PySem.F.type_list_append mt_append (pv 5) (pa_cons (pe_tup (pa_cons (pe_tup (pa_cons (pe_tup (pa_cons pe_str (pa_cons (pe_tup (pa_cons pe_int pa_nil)) (pa_cons pe_int (pa_cons (pe_tup (pa_cons pe_int (pa_cons pe_int pa_nil))) pa_nil))))) pa_nil)) (pa_cons (pe_tup (pa_cons (pe_tup (pa_cons pe_str (pa_cons (pe_tup pa_nil) (pa_cons pe_int (pa_cons (pe_tup (pa_cons pe_int (pa_cons pe_int pa_nil))) pa_nil))))) pa_nil)) (pa_cons (pe_tup (pa_cons (pe_tup (pa_cons pe_str (pa_cons (pe_tup pa_nil) (pa_cons pe_int (pa_cons (pe_tup (pa_cons pe_int pa_nil)) pa_nil))))) pa_nil)) pa_nil)))) pa_nil)))
      (pss_cons (ps_expr (pe_bm PySem.F.plainAttrs_list PySem.F.slot_list_append PySem.F.type_list_append mt_append (pv 5) (pa_cons (pe_tup (pa_cons (pe_tup (pa_cons (pe_tup (pa_cons pe_str (pa_cons (pe_tup (pa_cons pe_int pa_nil)) (pa_cons pe_int (pa_cons (pe_tup (pa_cons pe_int pa_nil)) pa_nil))))) pa_nil)) (pa_cons (pe_tup (pa_cons (pe_tup (pa_cons pe_str (pa_cons (pe_tup pa_nil) (pa_cons pe_int (pa_cons (pe_tup (pa_cons pe_int pa_nil)) pa_nil))))) pa_nil)) (pa_cons (pe_tup (pa_cons (pe_tup (pa_cons pe_str (pa_cons (pe_tup pa_nil) (pa_cons pe_int (pa_cons (pe_tup (pa_cons pe_int pa_nil)) pa_nil))))) pa_nil)) pa_nil)))) pa_nil)))
      (pss_cons (ps_set (i := 6) scUnsafe.nd rfl (.inl rfl) (pe_tup (pa_cons (pe_tup (pa_cons (pe_tup (pa_cons pe_int (pa_cons (pe_tup pa_nil) pa_nil))) pa_nil)) (pa_cons (pe_tup (pa_cons (pe_tup (pa_cons pe_int (pa_cons (pe_tup (pa_cons pe_int pa_nil)) pa_nil))) pa_nil)) (pa_cons (pe_tup (pa_cons (pe_tup (pa_cons pe_int (pa_cons (pe_tup (pa_cons pe_int pa_nil)) pa_nil))) (pa_cons (pe_tup (pa_cons pe_int (pa_cons (pe_tup (pa_cons pe_int pa_nil)) pa_nil))) pa_nil))) (pa_cons (pe_tup (pa_cons (pe_tup (pa_cons pe_int (pa_cons (pe_tup pa_nil) pa_nil))) (pa_cons (pe_tup (pa_cons pe_int (pa_cons (pe_tup (pa_cons pe_int pa_nil)) pa_nil))) pa_nil))) pa_nil))))))
      (pss_one (ps_ret (pe_tup (pa_cons (pv 4) (pa_cons (pe_tup (pa_cons (pe_tup (pa_cons (pv 1) (pa_cons pe_int pa_nil))) (pa_cons (pe_tup (pa_cons (pv 2) (pa_cons pe_int pa_nil))) (pa_cons (pe_tup (pa_cons (pv 3) (pa_cons pe_int pa_nil))) pa_nil)))) (pa_cons (pe_callTy call_tuple_of (by rfl) mt (by decide +kernel) (pa_cons (pv 5) pa_nil)) (pa_cons (pv 6) pa_nil))))))))))))), ?_⟩
    refine ⟨_, rfl, p, c, m, 3, rfl, dk, by omega, by decide, fun H1 nl ns k1 d1 nn e1 l1 nd1 o1 => ?_⟩
    obtain ⟨nlp, nlc⟩ : nl ≠ p ∧ nl ≠ c := dk.nep nn
    refine ⟨nl, ns, rfl, SqL.of e1, by omega, fun ys yl pm _ nyl => ?_⟩
    have ly : ys.length = 3 := by rw [pm.length_eq]; exact l1
    obtain ⟨g, pt, sr, rfl⟩ : ∃ a b c, ys = [a, b, c] := by
      match ys, ly with
      | [a, b, c], _ => exact ⟨a, b, c, rfl⟩
    have og := o1 g (pm.mem_iff.mp (by simp))
    have op := o1 pt (pm.mem_iff.mp (by simp))
    have os := o1 sr (pm.mem_iff.mp (by simp))
    have s2 : Same H1 (upd H1 yl (.lst ([g, pt, sr].map V.str))) := same_upd nyl
    have e2 : (upd H1 yl (.lst ([g, pt, sr].map V.str))) yl = some (.lst ([g, pt, sr].map V.str)) := upd_same
    generalize upd H1 yl (.lst ([g, pt, sr].map V.str)) = H2 at s2 e2 ⊢
    refine ⟨yl, _, rfl, SqL.of e2, rfl, _, _, rfl, _, _, rfl, _, _, rfl, rfl, ?_⟩
    refine lit_asg (K := K) (H := H2) (lit_tup (lits_cons lit_int (lits_cons lit_int (lits_cons lit_int (lits_cons lit_int lits_nil)))) (Nat.le_of_ble_eq_true rfl)) fun H3 vs s3 y3 => ?_
    refine lit_lst1 (K := K) (H := H3) (lit_tup (lits_cons (lit_tup (lits_cons (lit_tup (lits_cons lit_str (lits_cons (lit_tup lits_nil (Nat.le_of_ble_eq_true rfl)) (lits_cons lit_int (lits_cons (lit_tup lits_nil (Nat.le_of_ble_eq_true rfl)) lits_nil)))) (Nat.le_of_ble_eq_true rfl)) lits_nil) (Nat.le_of_ble_eq_true rfl)) (lits_cons (lit_tup (lits_cons (lit_tup (lits_cons lit_str (lits_cons (lit_tup lits_nil (Nat.le_of_ble_eq_true rfl)) (lits_cons lit_int (lits_cons (lit_tup (lits_cons lit_int lits_nil) (Nat.le_of_ble_eq_true rfl)) lits_nil)))) (Nat.le_of_ble_eq_true rfl)) lits_nil) (Nat.le_of_ble_eq_true rfl)) (lits_cons (lit_tup (lits_cons (lit_tup (lits_cons lit_str (lits_cons (lit_tup lits_nil (Nat.le_of_ble_eq_true rfl)) (lits_cons lit_int (lits_cons (lit_tup lits_nil (Nat.le_of_ble_eq_true rfl)) lits_nil)))) (Nat.le_of_ble_eq_true rfl)) lits_nil) (Nat.le_of_ble_eq_true rfl)) lits_nil))) (Nat.le_of_ble_eq_true rfl)) fun H4 cl s4 ncl ⟨v0, e4, y4⟩ => ?_
    have ncl2 : H2 cl = none := by
      cases z : H2 cl with
      | none => rfl
      | some o => rw [s3 _ _ z] at ncl; cases ncl
    refine lit_app (K := K) (H := H4) rfl e4 (.one y4) (by show 1 < 1000; decide) (lit_tup (lits_cons (lit_tup (lits_cons (lit_tup (lits_cons lit_str (lits_cons (lit_tup (lits_cons lit_int lits_nil) (Nat.le_of_ble_eq_true rfl)) (lits_cons lit_int (lits_cons (lit_tup (lits_cons lit_int lits_nil) (Nat.le_of_ble_eq_true rfl)) lits_nil)))) (Nat.le_of_ble_eq_true rfl)) lits_nil) (Nat.le_of_ble_eq_true rfl)) (lits_cons (lit_tup (lits_cons (lit_tup (lits_cons lit_str (lits_cons (lit_tup lits_nil (Nat.le_of_ble_eq_true rfl)) (lits_cons lit_int (lits_cons (lit_tup (lits_cons lit_int (lits_cons lit_int lits_nil)) (Nat.le_of_ble_eq_true rfl)) lits_nil)))) (Nat.le_of_ble_eq_true rfl)) lits_nil) (Nat.le_of_ble_eq_true rfl)) (lits_cons (lit_tup (lits_cons (lit_tup (lits_cons lit_str (lits_cons (lit_tup lits_nil (Nat.le_of_ble_eq_true rfl)) (lits_cons lit_int (lits_cons (lit_tup (lits_cons lit_int lits_nil) (Nat.le_of_ble_eq_true rfl)) lits_nil)))) (Nat.le_of_ble_eq_true rfl)) lits_nil) (Nat.le_of_ble_eq_true rfl)) lits_nil))) (Nat.le_of_ble_eq_true rfl)) fun H5 u5 o5 t5 e5 y5 => ?_
    have l5 := y5.length
    refine lit_app (K := K) (H := H5) rfl e5 y5 (by rw [l5]; show 2 < 1000; decide) (lit_tup (lits_cons (lit_tup (lits_cons (lit_tup (lits_cons lit_str (lits_cons (lit_tup (lits_cons lit_int lits_nil) (Nat.le_of_ble_eq_true rfl)) (lits_cons lit_int (lits_cons (lit_tup (lits_cons lit_int (lits_cons lit_int lits_nil)) (Nat.le_of_ble_eq_true rfl)) lits_nil)))) (Nat.le_of_ble_eq_true rfl)) lits_nil) (Nat.le_of_ble_eq_true rfl)) (lits_cons (lit_tup (lits_cons (lit_tup (lits_cons lit_str (lits_cons (lit_tup lits_nil (Nat.le_of_ble_eq_true rfl)) (lits_cons lit_int (lits_cons (lit_tup (lits_cons lit_int (lits_cons lit_int lits_nil)) (Nat.le_of_ble_eq_true rfl)) lits_nil)))) (Nat.le_of_ble_eq_true rfl)) lits_nil) (Nat.le_of_ble_eq_true rfl)) (lits_cons (lit_tup (lits_cons (lit_tup (lits_cons lit_str (lits_cons (lit_tup lits_nil (Nat.le_of_ble_eq_true rfl)) (lits_cons lit_int (lits_cons (lit_tup (lits_cons lit_int lits_nil) (Nat.le_of_ble_eq_true rfl)) lits_nil)))) (Nat.le_of_ble_eq_true rfl)) lits_nil) (Nat.le_of_ble_eq_true rfl)) lits_nil))) (Nat.le_of_ble_eq_true rfl)) fun H6 u6 o6 t6 e6 y6 => ?_
    have l6 := y6.length
    refine lit_app (K := K) (H := H6) rfl e6 y6 (by rw [l6]; show 3 < 1000; decide) (lit_tup (lits_cons (lit_tup (lits_cons (lit_tup (lits_cons lit_str (lits_cons (lit_tup (lits_cons lit_int lits_nil) (Nat.le_of_ble_eq_true rfl)) (lits_cons lit_int (lits_cons (lit_tup (lits_cons lit_int lits_nil) (Nat.le_of_ble_eq_true rfl)) lits_nil)))) (Nat.le_of_ble_eq_true rfl)) lits_nil) (Nat.le_of_ble_eq_true rfl)) (lits_cons (lit_tup (lits_cons (lit_tup (lits_cons lit_str (lits_cons (lit_tup lits_nil (Nat.le_of_ble_eq_true rfl)) (lits_cons lit_int (lits_cons (lit_tup (lits_cons lit_int lits_nil) (Nat.le_of_ble_eq_true rfl)) lits_nil)))) (Nat.le_of_ble_eq_true rfl)) lits_nil) (Nat.le_of_ble_eq_true rfl)) (lits_cons (lit_tup (lits_cons (lit_tup (lits_cons lit_str (lits_cons (lit_tup lits_nil (Nat.le_of_ble_eq_true rfl)) (lits_cons lit_int (lits_cons (lit_tup (lits_cons lit_int lits_nil) (Nat.le_of_ble_eq_true rfl)) lits_nil)))) (Nat.le_of_ble_eq_true rfl)) lits_nil) (Nat.le_of_ble_eq_true rfl)) lits_nil))) (Nat.le_of_ble_eq_true rfl)) fun H7 u7 o7 t7 e7 y7 => ?_
    refine lit_asg (K := K) (H := H7) (lit_tup (lits_cons (lit_tup (lits_cons (lit_tup (lits_cons lit_int (lits_cons (lit_tup lits_nil (Nat.le_of_ble_eq_true rfl)) lits_nil)) (Nat.le_of_ble_eq_true rfl)) lits_nil) (Nat.le_of_ble_eq_true rfl)) (lits_cons (lit_tup (lits_cons (lit_tup (lits_cons lit_int (lits_cons (lit_tup (lits_cons lit_int lits_nil) (Nat.le_of_ble_eq_true rfl)) lits_nil)) (Nat.le_of_ble_eq_true rfl)) lits_nil) (Nat.le_of_ble_eq_true rfl)) (lits_cons (lit_tup (lits_cons (lit_tup (lits_cons lit_int (lits_cons (lit_tup (lits_cons lit_int lits_nil) (Nat.le_of_ble_eq_true rfl)) lits_nil)) (Nat.le_of_ble_eq_true rfl)) (lits_cons (lit_tup (lits_cons lit_int (lits_cons (lit_tup (lits_cons lit_int lits_nil) (Nat.le_of_ble_eq_true rfl)) lits_nil)) (Nat.le_of_ble_eq_true rfl)) lits_nil)) (Nat.le_of_ble_eq_true rfl)) (lits_cons (lit_tup (lits_cons (lit_tup (lits_cons lit_int (lits_cons (lit_tup lits_nil (Nat.le_of_ble_eq_true rfl)) lits_nil)) (Nat.le_of_ble_eq_true rfl)) (lits_cons (lit_tup (lits_cons lit_int (lits_cons (lit_tup (lits_cons lit_int lits_nil) (Nat.le_of_ble_eq_true rfl)) lits_nil)) (Nat.le_of_ble_eq_true rfl)) lits_nil)) (Nat.le_of_ble_eq_true rfl)) lits_nil)))) (Nat.le_of_ble_eq_true rfl)) fun H8 vc s8 y8 => ?_
    have o37 : ∀ b o, H2 b = some o → H7 b = some o := fun b o h => by
      have nb : b ≠ cl := fun z => by rw [z, ncl2] at h; cases h
      exact o7 b o nb (o6 b o nb (o5 b o nb (s4 b o (s3 b o h))))
    have s27 : Same H2 H7 := o37
    have s28 : Same H2 H8 := s27.trans s8
    refine ⟨_, rfl, ?_⟩
    refine (lit_tup (K := K) (lits_cons (lit_tup (lits_cons (lit_var rfl) (lits_cons lit_int lits_nil)) (Nat.le_of_ble_eq_true rfl)) (lits_cons (lit_tup (lits_cons (lit_var rfl) (lits_cons lit_int lits_nil)) (Nat.le_of_ble_eq_true rfl)) (lits_cons (lit_tup (lits_cons (lit_var rfl) (lits_cons lit_int lits_nil)) (Nat.le_of_ble_eq_true rfl)) lits_nil))) (Nat.le_of_ble_eq_true rfl)) _ _ fun H9 vo s9 y9 => ?_
    have e9 : H9 cl = some (.lst u7) := s9 _ _ (s8 _ _ e7)
    refine ⟨_, rfl, cl, _, rfl, .inl ⟨SqL.of e9, fun tl ntl => ?_⟩⟩
    have s10 : Same H9 (upd H9 tl (.tup u7)) := same_upd ntl
    have e10 : (upd H9 tl (.tup u7)) tl = some (.tup u7) := upd_same
    generalize upd H9 tl (.tup u7) = H10 at s10 e10 ⊢
    refine ⟨_, rfl, by show 4 ≤ sizeLine; decide, fun r nr => ?_⟩
    have s11 := same_upd (o := .tup [vs, vo, .ref tl, vc]) nr
    have s210 : Same H2 H10 := s28.trans (s9.trans s10)
    have t310 : TK K H3 H10 := (((TK.same s4).trans (t5.trans (t6.trans t7))).trans (.same s8)).trans ((TK.same s9).trans (.same s10))
    have t7' : TK K H7 H10 := (TK.same s8).trans ((TK.same s9).trans (.same s10))
    refine q _ _ (unsafeS g pt sr) (k1.trans (.of_same (s2.trans (s210.trans s11)))) ((d1.of_same s2).of_same (s210.trans s11)) (unsafe_ok og op os (pm.nodup_iff.mpr nd1)) ?_
    have yk : Kys K H10 [vs, vo, .ref tl, vc] _ := .cons (y3.tk t310) (.cons (y9.tk (.same s10)) (.cons (.tup (SqT.of e10) (y7.tk t7')) (.one (y8.tk ((TK.same s9).trans (.same s10))))))
    exact Ky.tup (SqT.of upd_same) (Kys.tk yk (.same s11))
end
end Eh
set_option Elab.async false
set_option linter.all false
set_option maxRecDepth 100000
set_option maxHeartbeats 16000000
/-! random spec -/
namespace Eh
open PySem PySem.Spec PyProof.Rows L2 NS
abbrev NRs : List Str := ["_law_deck_here", "_law_slots", "_law_k", "_law_operations", "_law_name", "_law_names_here", "_law_replies", "_law_cases", "_law_j", "_law_size", "_law_row"]
theorem scRandom : FnScope NRs ["_law_deck_here"] (defScope sRandom) := ⟨rfl, rfl, rfl, by decide +kernel, rfl, by decide +kernel, by decide +kernel⟩
theorem cutV_take {xs : List V} (j : Nat) : cutV xs none (some (j : Int)) = xs.take j := by
  unfold cutV
  rw [HT.sIx_none, HT.sIx_nat]
  show List.take (min j xs.length - 0) (xs.drop 0) = _
  rw [List.drop_zero, Nat.sub_zero]
  by_cases h : j ≤ xs.length
  · rw [Nat.min_eq_left h]
  · rw [Nat.min_eq_right (by omega), List.take_of_length_le (Nat.le_refl _), List.take_of_length_le (by omega)]
theorem Kys.take {K : PySem.W.Frag} {H : Hp} : ∀ {n : Nat} {vs : List V} {ks : List NestedKey}, Kys K H vs ks → Kys K H (vs.take n) (ks.take n)
  | 0, _, _, _ => by rw [List.take_zero, List.take_zero]; exact .nil
  | n + 1, vs, [], h => by rw [h.nil_inv]; exact .nil
  | n + 1, vs, k :: ks, h => by
    obtain ⟨v, r, rfl, a, b⟩ := h.cons_inv
    exact .cons a b.take
theorem at0 {α : Type} {xs : List α} {j : Nat} {v : α} (h : xs[j]? = some v) : atI xs (0 + (j : Int)) = some v := by
  rw [Int.zero_add]
  exact atI_nat h
/-- lists of pairs in the heap, none at av -/
def RepAt (K : PySem.W.Frag) (av : List Addr) (H : Hp) (rs : List Addr) (rps : List (List (Str × Nat))) : Prop := rs.length = rps.length ∧ ∀ (i : Nat) (r : Addr) (rp : List (Str × Nat)), rs[i]? = some r → rps[i]? = some rp → r ∉ av ∧ RepsOk rp ∧ ∃ vs, H r = some (.lst vs) ∧ Kys K H vs (rp.map repK)
theorem RepAt.keep {K : PySem.W.Frag} {av : List Addr} {H H' : Hp} {rs : List Addr} {rps : List (List (Str × Nat))} (h : RepAt K av H rs rps) (k : ∀ b o, b ∉ av → H b = some o → H' b = some o) (t : TK K H H') : RepAt K av H' rs rps :=
  ⟨h.1, fun i r rp h1 h2 => by
    obtain ⟨a, b, vs, e, y⟩ := h.2 i r rp h1 h2
    exact ⟨a, b, vs, k _ _ a e, y.tk t⟩⟩
section
variable {P : Program} {w : World} {K : PySem.W.Frag} {mg : Str → Option Value} {base : Heap}
def spSpec (K : PySem.W.Frag) : Sp := fun us H Q _ => ∃ (p c : Addr) (m : Nat), us = [.ref p] ∧ Deck H p c m ∧ m < 870000 ∧ ∀ (H' : Hp) (v : V) (S : ASpec), Kp p c H H' → Deck H' p c (m + 7000) → SpecOk S → Ky K H' v (specK S) → Q v H'
def eRep (K : PySem.W.Frag) (a b c : TE) : TE := tTup (tCons (tOp (rIxL K) (tVar 5) a) (tCons (tOp (rIxL K) b c) tNil))
def eCas (K : PySem.W.Frag) (a : R2) : TE := tCall (spCase K) [] (fun _ _ _ => False) (tCons (tVar 0) (tCons (tVar 1) (tCons (tOp a (tVar 9) (tOp (rIxT K) (tOp (rIxL K) (tVar 3) (tVar 8)) (tC (.int 1)))) (tCons (tOp (rIxL K) (tVar 6) (tVar 8)) tNil))))
theorem ok_random {f fD fP fR fT fC fN fA fW : Addr} {fd fdD fdP fdR fdT fdC fdN fdA fdW : FuncData} {k : Nat} (F : Fun K "_law_random_spec" "_law_random_spec" sRandom f fd) (FD : Fun K "_law_draw" "_law_draw" sDraw fD fdD) (bD : Binds K fdD ["_law_deck_here", "_law_many"] []) (gD : mg "_law_draw" = some (.ref fD))
    (FP : Fun K "_law_pick" "_law_pick" sPick fP fdP) (bP : Binds K fdP ["_law_deck_here", "_law_some"] []) (gP : mg "_law_pick" = some (.ref fP)) (FR : Fun K "_law_refs" "_law_refs" sRefs fR fdR) (bR : Binds K fdR ["_law_deck_here", "_law_many", "_law_size"] []) (gR : mg "_law_refs" = some (.ref fR))
    (FT : Fun K "_law_target" "_law_target" sTarget fT fdT) (bT : Binds K fdT ["_law_deck_here", "_law_slots", "_law_size"] []) (gT : mg "_law_target" = some (.ref fT))
    (FC : Fun K "_law_transitive" "_law_transitive" sTrans fC fdC) (bC : Binds K fdC ["_law_crashes_here"] []) (gC : mg "_law_transitive" = some (.ref fC))
    (FN : Fun K "_law_names" "_law_names" sNames fN fdN) (bN : Binds K fdN ["_law_deck_here", "_law_many"] []) (gN : mg "_law_names" = some (.ref fN))
    (FA : Fun K "_law_case" "_law_case" sCase fA fdA) (bA : Binds K fdA ["_law_deck_here", "_law_slots", "_law_size", "_law_replies"] []) (gA : mg "_law_case" = some (.ref fA))
    (FW : Fun K "_law_crashes" "_law_crashes" sCrashes fW fdW) (bW : Binds K fdW ["_law_deck_here", "_law_slots"] []) (gW : mg "_law_crashes" = some (.ref fW))
    (mr : mg "range" = none) (mt : mg "tuple" = none) (ml : mg "len" = none) (ms : mg "set" = none) (mo : mg "sorted" = none) (mli : mg "list" = none) (me : mg "enumerate" = none) (mi : mg "min" = none) :
    FnOk P w K mg base CX0 (k + 5) f fd ["_law_deck_here"] (spSpec K) := by
  have GD : FnOk P w K mg base CX0 (k + 4) fD fdD ["_law_deck_here", "_law_many"] spDraw := ok_draw FD
  have GN : FnOk P w K mg base CX0 (k + 4) fN fdN ["_law_deck_here", "_law_many"] spNames := ok_names FN FD bD gD mr
  have GA : FnOk P w K mg base CX0 (k + 4) fA fdA ["_law_deck_here", "_law_slots", "_law_size", "_law_replies"] (spCase K) := ok_case FA FD bD gD FP bP gP FR bR gR FT bT gT mr mt ml ms mo
  have GW : FnOk P w K mg base CX0 (k + 4) fW fdW ["_law_deck_here", "_law_slots"] (spCrashes K) := ok_crashes FW FD bD gD FP bP gP FR bR gR FT bT gT FC bC gC mr mt ml ms mo mli me
  refine F.ok scRandom (fun us H Q E h => ?_) (fun cdv A outer s H us Q E hr h => ?_)
  · obtain ⟨p, c, m, rfl, _⟩ := h
    rfl
  · obtain ⟨p, c, m, rfl, dk, hm, q⟩ := h
    refine ⟨_, pss_cons (ps_set (i := 1) scRandom.nd rfl (.inr rfl) (pe_op op_catA (pe_tup (pa_cons pe_int pa_nil)) (pe_callTy call_tuple_of (by rfl) mt (by decide +kernel) (pa_cons
          (pe_lc (own := [("_law_k", 2)]) (g := gName 2) (tt := tYes) rfl scRandom.nd (pi_range1 rfl mr (pa_cons (pe_call GD hr (by rfl) gD FD.kp bD .nil pass0 (pa_cons (pv 0) (pa_cons pe_int pa_nil))) pa_nil)) (blkOk_by (N := NRs) (sc := defScope sRandom) (by decide +kernel))
            (fun _ _ _ _ _ => pg_name (i := 2) scRandom.nd rfl (.inl rfl)) (fun _ _ _ _ _ => pts_nil) (fun _ _ _ _ _ => pe_call GD hr (by rfl) gD FD.kp bD .nil pass0 (pa_cons (pv 0) (pa_cons pe_int pa_nil)))) pa_nil))))
      (pss_cons (ps_set (i := 3) scRandom.nd rfl (.inr rfl) (pe_slice sl_list
          (pe_lc (own := [("_law_name", 4)]) (g := gName 4) (tt := tYes) rfl scRandom.nd (pi_list (pe_callB cr_sortedS (by rfl) mo (by decide +kernel) (pa_cons (pe_call GN hr (by rfl) gN FN.kp bN .nil pass0 (pa_cons (pv 0) (pa_cons pe_int pa_nil))) pa_nil))) (blkOk_by (N := NRs) (sc := defScope sRandom) (by decide +kernel))
            (fun _ _ _ _ _ => pg_name (i := 4) scRandom.nd rfl (.inl rfl)) (fun _ _ _ _ _ => pts_nil) (fun _ _ _ _ _ => pe_tup (pa_cons (pv 4) (pa_cons (pe_call GD hr (by rfl) gD FD.kp bD .nil pass0 (pa_cons (pv 0) (pa_cons pe_int pa_nil))) pa_nil))))
          po_none (po_some (pe_call GD hr (by rfl) gD FD.kp bD .nil pass0 (pa_cons (pv 0) (pa_cons pe_int pa_nil))))))
      (pss_cons (ps_asg (pe_tup (pa_cons (pe_call GN hr (by rfl) gN FN.kp bN .nil pass0 (pa_cons (pv 0) (pa_cons pe_int pa_nil))) (pa_cons (pe_lst pa_nil) (pa_cons (pe_lst pa_nil) pa_nil))))
          (pg_tup rfl (pgs_cons (pg_name (i := 5) scRandom.nd rfl (.inr rfl)) (pgs_cons (pg_name (i := 6) scRandom.nd rfl (.inr rfl)) (pgs_cons (pg_name (i := 7) scRandom.nd rfl (.inl rfl)) pgs_nil)))))
      (pss_cons (ps_for PassesOwn.never rfl (pi_range1 rfl mr (pa_cons (pe_callB call_len_seq (by rfl) ml PySem.boot_len (pa_cons (pv 3) pa_nil)) pa_nil)) (pg_name (i := 8) scRandom.nd rfl (.inr rfl))
          (pss_one (ps_expr (pe_bm PySem.F.plainAttrs_list PySem.F.slot_list_append PySem.F.type_list_append mt_append (pv 6) (pa_cons
            (pe_lc (own := [("_law_k", 2)]) (g := gName 2) (tt := tYes) (te := eRep K _ _ _) rfl scRandom.nd (pi_range1 rfl mr (pa_cons pe_int pa_nil)) (blkOk_by (N := NRs) (sc := defScope sRandom) (by decide +kernel))
              (fun _ _ _ _ _ => pg_name (i := 2) scRandom.nd rfl (.inl rfl)) (fun _ _ _ _ _ => pts_nil)
              (fun _ _ _ _ _ => pe_tup (pa_cons (pe_ix ix_list (pv 5) (pe_op op_mod (pe_op op_add (pv 8) (pv 2)) pe_int) (fun _ _ => rfl)) (pa_cons (pe_ix ix_list (pe_lst (pa_cons pe_int (pa_cons (pe_call GD hr (by rfl) gD FD.kp bD .nil pass0 (pa_cons (pv 0) (pa_cons pe_int pa_nil))) pa_nil))) (pe_callB (call_min2 rfl) (by rfl) mi (by decide +kernel) (pa_cons (pv 2) (pa_cons pe_int pa_nil))) (fun _ _ => rfl)) pa_nil)))) pa_nil)))))
      (pss_cons (ps_for PassesOwn.never rfl (pi_tup (pv 1)) (pg_name (i := 9) scRandom.nd rfl (.inr rfl))
          (pss_cons (ps_setLc (i := 10) (own := [("_law_j", 8)]) (g := gName 8) (tt := tYes) (te := eCas K _) rfl scRandom.nd rfl rfl (sw_true rfl rfl rfl (by decide +kernel)) (pi_range1 rfl mr (pa_cons (pe_callB call_len_seq (by rfl) ml PySem.boot_len (pa_cons (pv 3) pa_nil)) pa_nil)) (blkOk_by (N := NRs) (sc := defScope sRandom) (by decide +kernel))
              (fun _ _ _ _ _ => pg_name (i := 8) scRandom.nd rfl (.inl rfl)) (fun _ _ _ _ _ => pts_nil)
              (fun _ _ _ _ _ => pe_call GA hr (by rfl) gA FA.kp bA .nil pass0 (pa_cons (pv 0) (pa_cons (pv 1) (pa_cons (pe_op op_add (pv 9) (pe_ix ix_tup (pe_ix ix_list (pv 3) (pv 8) (fun _ _ => rfl)) pe_int (fun _ _ => rfl))) (pa_cons (pe_ix ix_list (pv 6) (pv 8) (fun _ _ => rfl)) pa_nil))))))
          (pss_one (ps_expr (pe_bm PySem.F.plainAttrs_list PySem.F.slot_list_append PySem.F.type_list_append mt_append (pv 7) (pa_cons (pe_callTy call_tuple_of (by rfl) mt (by decide +kernel) (pa_cons (pv 10) pa_nil)) pa_nil))))))
      (pss_one (ps_ret (pe_tup (pa_cons (pv 1) (pa_cons (pe_callTy call_tuple_of (by rfl) mt (by decide +kernel) (pa_cons (pv 3) pa_nil)) (pa_cons (pe_callTy call_tuple_of (by rfl) mt (by decide +kernel) (pa_cons (pv 7) pa_nil)) (pa_cons (pe_call GW hr (by rfl) gW FW.kp bW .nil pass0 (pa_cons (pv 0) (pa_cons (pv 1) pa_nil))) pa_nil))))))))))), ?_⟩
    refine ⟨by show 1 ≤ sizeLine; decide, fun t0 nt0 => ?_⟩
    have s1 : Same H (upd H t0 (.tup [.int 0])) := same_upd nt0
    have e1 : (upd H t0 (.tup [.int 0])) t0 = some (.tup [.int 0]) := upd_same
    have d1 := dk.of_same s1
    generalize upd H t0 (.tup [.int 0]) = H1 at s1 e1 d1 ⊢
    refine ⟨_, rfl, p, c, m, 6, rfl, d1, by omega, by decide, by decide, fun H2 r k2 d2 r0 r1 => ?_⟩
    refine ⟨r, rfl, by omega, by omega, fun D hD => ?_⟩
    refine cd_range (K := K) (j := 2) (m := m + 1) (d := 1) (n := r.toNat) (Pk := fun k => ∃ s : Nat, k = .num s ∧ s < 4) d2 hD (by omega) (fun i H' Q' hi kk dd qq => ?_) fun H3 vs ks k3 d3 e3 y3 l3 p3 => ?_
    · refine ⟨_, rfl, p, c, _, 4, rfl, dd, by omega, by decide, by decide, fun H6 j kj dj j0 j1 => ?_⟩
      obtain ⟨jn, rfl⟩ : ∃ jn : Nat, j = (jn : Int) := ⟨j.toNat, by omega⟩
      exact qq _ _ (.num jn) kj (by rw [Nat.succ_mul, ← Nat.add_assoc]; exact dj) (.num jn) ⟨jn, rfl, by omega⟩
    obtain ⟨ns, rfl, hns⟩ := nats_of p3
    have ln : ns.length = r.toNat := by simpa using l3
    rw [nats_inv y3] at e3
    have t13 : TK K H1 H3 := .kp d1 (k2.trans k3)
    refine ⟨D, _, rfl, .inl ⟨SqL.of e3, fun t1 nt1 => ?_⟩⟩
    have s4 : Same H3 (upd H3 t1 (.tup (ns.map fun n : Nat => V.int n))) := same_upd nt1
    have e4 : (upd H3 t1 (.tup (ns.map fun n : Nat => V.int n))) t1 = some (.tup (ns.map fun n : Nat => V.int n)) := upd_same
    have k04 : Kp p c H (upd H3 t1 (.tup (ns.map fun n : Nat => V.int n))) := (((Kp.of_same s1).trans k2).trans k3).trans (.of_same s4)
    have d4 := d3.of_same s4
    have t14 : TK K H1 (upd H3 t1 (.tup (ns.map fun n : Nat => V.int n))) := t13.trans (.same s4)
    generalize upd H3 t1 (.tup (ns.map fun n : Nat => V.int n)) = H4 at e4 k04 d4 t14 ⊢
    clear s4
    have en : (ns.map fun n : Nat => V.int n) = (ns.map fun n : Nat => (n : Int)).map V.int := by
      rw [List.map_map]
      rfl
    refine catA_ok (vals := [0]) (args := ns.map fun n : Nat => (n : Int)) (t14 _ _ (SqT.of e1)) (SqT.of (by rw [← en]; exact e4)) (by rw [List.length_map]; show 1 + ns.length < 1000; omega) fun H5 sa s5 st5 => ?_
    have k05 : Kp p c H H5 := k04.trans (.of_same s5)
    have d5 : Deck H5 p c (m + 6) := (d4.of_same s5).mono (by omega)
    have est : (([0] ++ ns.map fun n : Nat => (n : Int)).map V.int) = (0 :: ns).map fun n : Nat => V.int n := by
      show V.int 0 :: (ns.map fun n : Nat => (n : Int)).map V.int = _
      rw [← en]
      rfl
    rw [est] at st5
    have sl0 : ((0 :: ns : List Nat))[0]? = some 0 := rfl
    have sln : (0 :: ns : List Nat).length ≤ 8 := by
      rw [List.length_cons]
      omega
    have slv : ∀ n ∈ (0 :: ns : List Nat), n ≤ 8 := fun n hn => by
      rcases List.mem_cons.mp hn with z | z
      · omega
      · have := hns n z
        omega
    generalize (0 :: ns : List Nat) = sl at st5 sl0 sln slv
    clear est en e4 d4 k04 t14 t13 e3 y3 p3 hns ln k3 d3 k2 d2 s1 e1 d1 hD
    show tSeq _ _ _ _ H5
    refine ⟨_, rfl, p, c, m + 6, 5, rfl, d5, by omega, by decide, fun H6 nl ns1 k6 d6 nn6 e6 l6 nd6 o6 => ?_⟩
    refine ⟨nl, ns1, rfl, SqL.of e6, by omega, fun ys yl pm _ nyl => ⟨yl, rfl, ⟨_, SqL.of upd_same⟩, fun D hD => ?_⟩⟩
    have s7 : Same H6 (upd H6 yl (.lst (ys.map V.str))) := same_upd nyl
    have e7 : (upd H6 yl (.lst (ys.map V.str))) yl = some (.lst (ys.map V.str)) := upd_same
    obtain ⟨nyp, nyc⟩ := d6.nep nyl
    have d7 : Deck (upd H6 yl (.lst (ys.map V.str))) p c (m + 17) := d6.of_same s7
    have k07 : Kp p c H (upd H6 yl (.lst (ys.map V.str))) := (k05.trans k6).trans (.of_same s7)
    have t57 : TK K H5 (upd H6 yl (.lst (ys.map V.str))) := (TK.kp d5 k6).trans (.same s7)
    generalize upd H6 yl (.lst (ys.map V.str)) = H7 at s7 e7 d7 k07 t57 hD ⊢
    have ly : ys.length ≤ 5 := by rw [pm.length_eq]; omega
    have nyD : yl ≠ D := fun z => by rw [z, hD] at e7; cases e7
    refine cdi_list (K := K) (a := yl) (xs := ys.map V.str) (j := 4) (m := m + 17) (d := 1) (Pk := fun j k => ∃ o : Str × Nat, k = repK o ∧ ((Lt 8 o.1 ∧ o.2 ≤ 2) ∧ ys[0 + j]? = some o.1)) d7 hD (by rw [List.length_map]; omega) (SqL.of e7) nyp nyc nyD (fun i x H' Q' hx kk dd qq => ?_) fun H8 vs ks k8 d8 e8 y8 l8 p8 => ?_
    · rw [List.getElem?_map] at hx
      cases hyi : ys[i]? with
      | none => rw [hyi] at hx; cases hx
      | some nm =>
        rw [hyi] at hx
        cases hx
        have hi := (List.getElem?_eq_some_iff.mp hyi).1
        have hnm := o6 nm (pm.mem_iff.mp (List.mem_of_getElem? hyi))
        refine ⟨_, rfl, _, rfl, p, c, _, 3, rfl, dd, by omega, by decide, by decide, fun H9 j kj dj j0 j1 => ⟨by show 2 ≤ sizeLine; decide, fun on non => ?_⟩⟩
        obtain ⟨jn, rfl⟩ : ∃ jn : Nat, j = (jn : Int) := ⟨j.toNat, by omega⟩
        refine qq _ _ (repK (nm, jn)) (kj.trans (.of_same (same_upd non))) ((Deck.of_same dj (same_upd non)).mono (by rw [Nat.succ_mul]; omega)) (.tup (SqT.of upd_same) (.cons (.text _) (.one (.num jn)))) ⟨_, rfl, ⟨hnm, by show jn ≤ 2; omega⟩, by rw [Nat.zero_add]; exact hyi⟩
    obtain ⟨os, rfl, hos'⟩ := each_of (o := 0) (f := repK) (R := fun j o => (Lt 8 o.1 ∧ o.2 ≤ 2) ∧ ys[j]? = some o.1) p8
    have hos : ∀ o ∈ os, Lt 8 o.1 ∧ o.2 ≤ 2 := fun o ho => by
      obtain ⟨j, hj⟩ := List.mem_iff_getElem?.mp ho
      exact (hos' j o hj).1
    have ndy : ys.Nodup := pm.nodup_iff.mpr nd6
    have ndo : (os.map (·.1)).Nodup := nodup_ix fun i j a hi hj => by
      rw [List.getElem?_map] at hi hj
      cases h1 : os[i]? with
      | none => rw [h1] at hi; cases hi
      | some o1 =>
        cases h2 : os[j]? with
        | none => rw [h2] at hj; cases hj
        | some o2 =>
          rw [h1] at hi
          rw [h2] at hj
          have e1 := (hos' i o1 h1).2
          have e2 := (hos' j o2 h2).2
          rw [Nat.zero_add] at e1 e2
          have z1 : o1.1 = a := Option.some.inj hi
          have z2 : o2.1 = a := Option.some.inj hj
          rw [z1] at e1
          rw [z2] at e2
          exact (List.getElem?_inj (List.getElem?_eq_some_iff.mp e1).1 ndy).mp (e1.trans e2.symm)
    rw [List.length_map] at l8 d8
    rw [List.length_map] at l8
    refine ⟨_, rfl, p, c, _, 6, rfl, d8, by omega, by decide, by decide, fun H9 j k9 d9 j0 j1 => ?_⟩
    obtain ⟨jn, rfl⟩ : ∃ jn : Nat, j = (jn : Int) := ⟨j.toNat, by omega⟩
    obtain ⟨nDp, nDc⟩ := d7.nep hD
    refine ⟨_, rfl, D, _, rfl, SqL.of (k9 _ _ nDp nDc e8), fun ol nol => ?_⟩
    rw [cutV_take]
    have t59 : TK K H5 H9 := (t57.trans (.kp d7 k8)).trans (.kp d8 k9)
    have y9 : Kys K H9 vs (os.map repK) := y8.tk (.kp d8 k9)
    have s10 : Same H9 (upd H9 ol (.lst (vs.take jn))) := same_upd nol
    have e10 : (upd H9 ol (.lst (vs.take jn))) ol = some (.lst (vs.take jn)) := upd_same
    obtain ⟨nop, noc⟩ := d9.nep nol
    have d10 : Deck (upd H9 ol (.lst (vs.take jn))) p c (m + 24) := (d9.of_same s10).mono (by omega)
    have k010 : Kp p c H (upd H9 ol (.lst (vs.take jn))) := ((k07.trans k8).trans k9).trans (.of_same s10)
    have y10 : Kys K (upd H9 ol (.lst (vs.take jn))) (vs.take jn) ((os.take jn).map repK) := by
      rw [List.map_take]
      exact (y9.tk (.same s10)).take
    have t510 : TK K H5 (upd H9 ol (.lst (vs.take jn))) := t59.trans (.same s10)
    have on5 : (os.take jn).length ≤ 5 := by rw [List.length_take]; omega
    have oo5 : ∀ o ∈ os.take jn, Lt 8 o.1 ∧ o.2 ≤ 2 := fun o ho => hos o (List.mem_of_mem_take ho)
    have ndt : ((os.take jn).map (·.1)).Nodup := by
      rw [List.map_take]
      exact List.Nodup.sublist (List.take_sublist _ _) ndo
    show tSeq _ _ _ _ (upd H9 ol (.lst (vs.take jn)))
    generalize upd H9 ol (.lst (vs.take jn)) = H10 at s10 e10 d10 k010 y10 t510 ⊢
    generalize vs.take jn = ovs at e10 y10
    generalize os.take jn = ops at y10 on5 oo5 ndt
    have lov : ovs.length = ops.length := by rw [y10.length, List.length_map]
    clear y9 t59 s10 nol k9 d9 j0 j1 hos l8 d8 k8 e8 y8 hD t57 k07 d7 e7 s7 nyD
    refine ⟨_, rfl, p, c, m + 24, 6, rfl, d10, by omega, by decide, fun H11 nl nms k11 d11 nn11 e11 l11 _ o11 => ?_⟩
    obtain ⟨nnp, nnc⟩ := d10.nep nn11
    refine ⟨by show 0 ≤ sizeLine; decide, fun rl nrl => ⟨by show 0 ≤ sizeLine; decide, fun cl ncl => ⟨by show 3 ≤ sizeLine; decide, fun tt ntt => ⟨tt, _, rfl, SqT.of upd_same, rfl, _, _, rfl, _, _, rfl, _, _, rfl, rfl, ?_⟩⟩⟩⟩
    obtain ⟨nrp, nrc⟩ := d11.nep nrl
    have d11' : Deck H11 p c (m + 35) := d11
    have s12 : Same H11 (upd H11 rl (.lst [])) := same_upd nrl
    have e12 : (upd H11 rl (.lst [])) rl = some (.lst []) := upd_same
    have d12 := d11'.of_same s12
    generalize upd H11 rl (.lst []) = H12 at s12 e12 d12 ncl ntt ⊢
    obtain ⟨ncp, ncc⟩ := d12.nep ncl
    have nrcl : rl ≠ cl := fun z => by rw [z, ncl] at e12; cases e12
    have s13 : Same H12 (upd H12 cl (.lst [])) := same_upd ncl
    have e13 : (upd H12 cl (.lst [])) cl = some (.lst []) := upd_same
    have d13 := d12.of_same s13
    generalize upd H12 cl (.lst []) = H13 at s13 e13 d13 ntt ⊢
    have s14 : Same H13 (upd H13 tt (.tup [.ref nl, .ref rl, .ref cl])) := same_upd ntt
    have d14 := d13.of_same s14
    show tSeq _ _ _ _ (upd H13 tt (.tup [.ref nl, .ref rl, .ref cl]))
    generalize upd H13 tt (.tup [.ref nl, .ref rl, .ref cl]) = H14 at s14 d14 ⊢
    have s1114 : Same H11 H14 := s12.trans (s13.trans s14)
    have k014 : Kp p c H H14 := (k010.trans k11).trans (.of_same s1114)
    have t1014 : TK K H10 H14 := (TK.kp d10 k11).trans (.same s1114)
    have t514 : TK K H5 H14 := t510.trans t1014
    have eo : H14 ol = some (.lst ovs) := s1114 _ _ (k11 _ _ nop noc e10)
    have yo : Kys K H14 ovs (ops.map repK) := y10.tk t1014
    have enl : H14 nl = some (.lst (nms.map V.str)) := s1114 _ _ e11
    have erl : H14 rl = some (.lst []) := s14 _ _ (s13 _ _ e12)
    have ecl : H14 cl = some (.lst []) := s14 _ _ e13
    have rl0 : H rl = none := (k010.trans k11).none_back nrl nrp nrc
    have cl0 : H cl = none := ((k010.trans k11).trans (.of_same s12)).none_back ncl ncp ncc
    have nrn : rl ≠ nl := fun z => by rw [z, e11] at nrl; cases nrl
    have nro : rl ≠ ol := fun z => by
      have := k11 _ _ nop noc e10
      rw [← z, nrl] at this
      cases this
    have nco : cl ≠ ol := fun z => by
      have := s12 _ _ (k11 _ _ nop noc e10)
      rw [← z, ncl] at this
      cases this
    have ys14 : SqT K H14 sa (sl.map fun n : Nat => V.int n) := t514 _ _ st5
    clear s12 e12 d12 s13 e13 d13 s14 e11 k11 d11 d11' e10 y10 d10 k010 t510 s1114 t1014 ntt ncl nrl
    refine ⟨_, rfl, ol, _, rfl, .inl (SqL.of eo), _, rfl, by omega, by omega, ?_⟩
    rw [show ((ovs.length : Int)).toNat = ovs.length from rfl]
    refine for_range (n := ovs.length) (fun i σ H' => (∃ o2 o4 o8 o9 o10, σ = [some (.ref p), some (.ref sa), o2, some (.ref ol), o4, some (.ref nl), some (.ref rl), some (.ref cl), o8, o9, o10]) ∧ (∀ b o, b ≠ p → b ≠ c → b ≠ rl → H14 b = some o → H' b = some o) ∧ TK K H14 H' ∧ Deck H' p c (m + 35 + i * 3) ∧
        ∃ rs rps, H' rl = some (.lst (rs.map V.ref)) ∧ RepAt K [p, c, rl, cl] H' rs rps ∧ rs.length = i)
      ⟨⟨_, _, _, _, _, rfl⟩, fun _ _ _ _ _ e => e, .refl, by rw [Nat.zero_mul]; exact d14, [], [], erl, ⟨rfl, fun i r rp h => by cases h⟩, rfl⟩ ?_ ?_
    · rintro i σ H1 hi ⟨⟨o2, o4, o8, o9, o10, rfl⟩, kr, tk, d1, rs, rps, er, rep, lr⟩
      have encl : H1 cl = some (.lst []) := kr _ _ ncp ncc nrcl.symm ecl
      have ennl : H1 nl = some (.lst (nms.map V.str)) := kr _ _ nnp nnc nrn.symm enl
      refine ⟨_, rfl, .inl ⟨rfl, _, SqL.of er⟩, 3, rfl, by decide, by decide, fun D hD => ?_⟩
      obtain ⟨nDp, nDc⟩ := d1.nep hD
      have nDr : D ≠ rl := fun z => by rw [z, er] at hD; cases hD
      have nDcl : D ≠ cl := fun z => by rw [z, encl] at hD; cases hD
      refine cdi_range (K := K) (j := 2) (m := m + 35 + i * 3) (d := 1) (n := 3) (Pk := fun j k => ∃ rp : Str × Nat, k = repK rp ∧ ((Lt 8 rp.1 ∧ rp.2 ≤ 2) ∧ (0 + j = 0 → rp.2 = 0))) d1 hD (by decide) (fun t H' Q' ht kk dd qq => ?_) fun H2 us ks k2 d2 e2 y2 l2 p2 => ?_
      · have z := emod_bd ((0 + (i : Int)) + (0 + (t : Int))) (b := 6) (by decide)
        obtain ⟨nv, hnv, hat⟩ := atI_any (xs := nms.map V.str) (i := ((0 + (i : Int)) + (0 + (t : Int))) % 6) z.1 (by rw [List.length_map, l11]; exact z.2)
        obtain ⟨nm, hnm, rfl⟩ := List.mem_map.mp hnv
        have lnm := o11 nm hnm
        refine ⟨_, rfl, _, rfl, _, rfl, _, _, rfl, rfl, _, _, rfl, rfl, (by show (0 : Int) < 6; decide), nl, _, _, _, rfl, rfl, SqL.of (kk _ _ nnp nnc ennl), hat, ?_⟩
        refine ⟨_, rfl, p, c, _, 3, rfl, dd, by omega, by decide, by decide, fun H6 j kj dj j0 j1 => ⟨by show 2 ≤ sizeLine; decide, fun ll nll => ?_⟩⟩
        obtain ⟨jn', rfl⟩ : ∃ jn' : Nat, j = (jn' : Int) := ⟨j.toNat, by omega⟩
        have s6 : Same H6 (upd H6 ll (.lst [.int 0, .int (jn' : Int)])) := same_upd nll
        have e6' : (upd H6 ll (.lst [.int 0, .int (jn' : Int)])) ll = some (.lst [.int 0, .int (jn' : Int)]) := upd_same
        generalize upd H6 ll (.lst [.int 0, .int (jn' : Int)]) = H7' at s6 e6' ⊢
        have fin : ∀ n : Nat, n ≤ 2 → (0 + t = 0 → n = 0) → (2 ≤ sizeLine ∧ ∀ on, H7' on = none → Q' (.ref on) (upd H7' on (.tup [.str nm, .int (n : Int)]))) := fun n h2 hz => ⟨by decide, fun on non =>
          qq _ _ (repK (nm, n)) ((kj.trans (.of_same s6)).trans (.of_same (same_upd non))) ((Deck.of_same (dj.of_same s6) (same_upd non)).mono (by rw [Nat.succ_mul]; omega)) (.tup (SqT.of upd_same) (.cons (.text _) (.one (.num n)))) ⟨_, rfl, ⟨lnm, h2⟩, hz⟩⟩
        refine ⟨_, rfl, _, _, rfl, ?_⟩
        rcases (show t = 0 ∨ 1 ≤ t by omega) with h | h
        · subst h
          exact ⟨ll, _, ((0 : Nat) : Int), _, rfl, rfl, SqL.of e6', atI_nat (j := 0) rfl, fin 0 (by decide) fun _ => rfl⟩
        · rw [show (if (1 : Int) < 0 + (t : Int) then (1 : Int) else 0 + (t : Int)) = ((1 : Nat) : Int) by split <;> omega]
          exact ⟨ll, _, ((1 : Nat) : Int), _, rfl, rfl, SqL.of e6', atI_nat (j := 1) rfl, fin jn' (by omega) fun h' => by omega⟩
      · obtain ⟨rp, rfl, hrp⟩ := each_of (o := 0) (f := repK) (R := fun j rp => (Lt 8 rp.1 ∧ rp.2 ≤ 2) ∧ (j = 0 → rp.2 = 0)) p2
        have lrp : rp.length = 3 := by rw [List.length_map] at l2; exact l2
        have ero : RepsOk rp := by
          refine ⟨?_, by omega, fun x hx => ?_⟩
          · obtain ⟨x0, h0⟩ : ∃ x0, rp[0]? = some x0 := ⟨_, List.getElem?_eq_getElem (by omega)⟩
            have z := (hrp 0 _ h0).2 rfl
            exact ⟨x0.1, by rw [h0]; exact congrArg some (Prod.ext rfl z)⟩
          · obtain ⟨j, hj⟩ := List.mem_iff_getElem?.mp hx
            exact (hrp j x hj).1
        have er2 : H2 rl = some (.lst (rs.map V.ref)) := k2 _ _ nrp nrc er
        have t2 : TK K H1 H2 := .kp d1 k2
        have tp := TK.put (K := K) (zs := rs.map V.ref ++ [.ref D]) er2
        refine ⟨rl, _, _, rfl, rfl, er2, ?_, ?_⟩
        · have h9 : 1000 ≤ sizeLine := by decide
          rw [List.length_map]
          omega
        · refine ⟨⟨_, _, _, _, _, rfl⟩, fun b o b1 b2 b3 e => ?_, (tk.trans t2).trans tp, (d2.put nrp nrc).mono (by omega), rs ++ [D], rps ++ [rp], by rw [upd_same, List.map_append]; rfl, ⟨by rw [List.length_append, List.length_append, rep.1]; rfl, fun j r rp' h1 h2 => ?_⟩, by rw [List.length_append, lr]; rfl⟩
          · rw [upd_ne b3]
            exact k2 _ _ b1 b2 (kr _ _ b1 b2 b3 e)
          · rcases at_snoc h1 with h1 | ⟨h1, rfl⟩
            · rcases at_snoc h2 with h2 | ⟨h2, _⟩
              · obtain ⟨a1, a2, ws, ew, yw⟩ := rep.2 j r rp' h1 h2
                simp only [List.mem_cons, List.not_mem_nil, or_false, not_or] at a1
                exact ⟨by simp only [List.mem_cons, List.not_mem_nil, or_false, not_or]; exact a1, a2, ws, by rw [upd_ne a1.2.2.1]; exact k2 _ _ a1.1 a1.2.1 ew, (yw.tk t2).tk tp⟩
              · have := (List.getElem?_eq_some_iff.mp h1).1
                have := rep.1
                omega
            · rcases at_snoc h2 with h2 | ⟨_, rfl⟩
              · have := (List.getElem?_eq_some_iff.mp h2).1
                have := rep.1
                omega
              · exact ⟨by simp only [List.mem_cons, List.not_mem_nil, or_false, not_or]; exact ⟨nDp, nDc, nDr, nDcl⟩, ero, us, by rw [upd_ne nDr]; exact e2, y2.tk tp⟩
    · rintro σ H15 ⟨⟨o2, o4, o8, o9, o10, rfl⟩, kr, tk, d15, rs, rps, er, rep, lr⟩
      have lrps : rps.length = ops.length := by rw [← rep.1, lr, lov]
      have eo15 : H15 ol = some (.lst ovs) := kr _ _ nop noc nro.symm eo
      have yo15 := yo.tk tk
      have ecl15 : H15 cl = some (.lst []) := kr _ _ ncp ncc nrcl.symm ecl
      have ys15 := tk _ _ ys14
      have kp15 : Kp p c H H15 := fun b o b1 b2 e => kr _ _ b1 b2 (fun z => by rw [z, rl0] at e; cases e) (k014 _ _ b1 b2 e)
      have d15' : Deck H15 p c (m + 50) := d15.mono (by omega)
      clear kr tk d15 eo yo ecl erl enl ys14 k014 t514 d14
      refine ⟨_, rfl, sa, rfl, ⟨_, ys15⟩, ?_⟩
      refine for_tup (K := K) (a := sa) (xs := sl.map fun n : Nat => V.int n) (fun i σ H' => (∃ o2 o4 o8 o9 o10, σ = [some (.ref p), some (.ref sa), o2, some (.ref ol), o4, some (.ref nl), some (.ref rl), some (.ref cl), o8, o9, o10]) ∧ (∀ b o, b ≠ p → b ≠ c → b ≠ cl → H15 b = some o → H' b = some o) ∧ TK K H15 H' ∧ Deck H' p c (m + 50 + i * 800) ∧
          ∃ us cs, H' cl = some (.lst us) ∧ Kys K H' us (cs.map mrowK) ∧ cs.length = i ∧ ∀ (j : Nat) (row : List (List Outc)), cs[j]? = some row → row.length = ops.length ∧ ∀ (t : Nat) (os : List Outc), row[t]? = some os → 0 < os.length ∧ os.length ≤ 3 ∧ ∀ o ∈ os, ∃ sz ar, sl[j]? = some sz ∧ (ops.map (·.2))[t]? = some ar ∧ OutOk sl (sz + ar) o)
        ⟨⟨_, _, _, _, _, rfl⟩, fun _ _ _ _ _ e => e, .refl, by rw [Nat.zero_mul]; exact d15', [], [], ecl15, .nil, rfl, fun j row h => by cases h⟩ (fun i σ H' _ z => z.2.2.1 _ _ ys15) ?_ ?_
      · rintro i x σ H1 hx ⟨⟨o2, o4, o8, o9, o10, rfl⟩, kr, tk, d1, us, cs, ec, yc, lc, okc⟩
        rw [List.getElem?_map] at hx
        cases hsz : sl[i]? with
        | none => rw [hsz] at hx; cases hx
        | some sz =>
          rw [hsz] at hx
          cases hx
          have hi := (List.getElem?_eq_some_iff.mp hsz).1
          have sz8 := slv sz (List.mem_of_getElem? hsz)
          have eo1 : H1 ol = some (.lst ovs) := kr _ _ nop noc nco.symm eo15
          have yo1 := yo15.tk tk
          have er1 : H1 rl = some (.lst (rs.map V.ref)) := kr _ _ nrp nrc nrcl er
          have ys1 := tk _ _ ys15
          have rep1 : RepAt K [p, c, rl, cl] H1 rs rps := rep.keep (fun b o hb e => by
            simp only [List.mem_cons, List.not_mem_nil, or_false, not_or] at hb
            exact kr _ _ hb.1 hb.2.1 hb.2.2.2 e) tk
          refine ⟨_, rfl, ol, _, rfl, .inl (SqL.of eo1), _, rfl, by omega, by omega, fun D hD => ?_⟩
          obtain ⟨nDp, nDc⟩ := d1.nep hD
          have nDcl : D ≠ cl := fun z => by rw [z, ec] at hD; cases hD
          refine cdi_range (K := K) (j := 8) (m := m + 50 + i * 800) (d := 100) (n := ovs.length) (Pk := fun j k => ∃ os, k = caseK os ∧ (0 < os.length ∧ os.length ≤ 3 ∧ ∀ o ∈ os, ∃ ar, (ops.map (·.2))[0 + j]? = some ar ∧ OutOk sl (sz + ar) o)) d1 hD (by omega) (fun t H' Q' ht kk dd qq => ?_) fun H2 ws ks k2 d2 e2 y2 l2 p2 => ?_
          · have tk1 : TK K H1 H' := .kp d1 kk
            obtain ⟨op, hop⟩ : ∃ op, ops[t]? = some op := ⟨_, List.getElem?_eq_getElem (by omega)⟩
            obtain ⟨rr, hrr⟩ : ∃ rr, rs[t]? = some rr := ⟨_, List.getElem?_eq_getElem (by omega)⟩
            obtain ⟨rp, hrp⟩ : ∃ rp, rps[t]? = some rp := ⟨_, List.getElem?_eq_getElem (by omega)⟩
            obtain ⟨a1, a2, rvs, erv, yrv⟩ := rep1.2 t rr rp hrr hrp
            simp only [List.mem_cons, List.not_mem_nil, or_false, not_or] at a1
            obtain ⟨ov, hov, yov⟩ := (yo1.tk tk1).get (show (ops.map repK)[t]? = some (repK op) by rw [List.getElem?_map, hop]; rfl)
            obtain ⟨oa, ox, oy, rfl, ot, ox1, oy1⟩ := Ky.tup2 yov
            rw [oy1.num_inv] at ot
            have hrv : (rs.map V.ref)[t]? = some (V.ref rr) := by rw [List.getElem?_map, hrr]; rfl
            have ar2 := (oo5 op (List.mem_of_getElem? hop)).2
            refine ⟨_, rfl, _, rfl, _, rfl, _, rfl, _, rfl, ol, _, _, _, rfl, rfl, SqL.of (kk _ _ nop noc eo1), at0 hov, oa, _, ((1 : Nat) : Int), _, rfl, rfl, ot, atI_nat (j := 1) rfl, _, _, rfl, rfl, ?_⟩
            refine ⟨_, rfl, _, rfl, rl, _, _, _, rfl, rfl, SqL.of (kk _ _ nrp nrc er1), at0 hrv, ?_⟩
            refine ⟨p, c, rr, _, sz + op.2, .ref sa, sl, rvs, rp, rfl, .tup (tk1 _ _ ys1) (nats_kys sl), kk _ _ a1.1 a1.2.1 erv, a1.1, a1.2.1, yrv.tk tk1, a2, dd, by omega, by omega, sl0, sln, slv, fun H3 v3 ks3 k3 d3 p3 g3 l3 y3 => ?_⟩
            obtain ⟨os3, rfl, hos3⟩ := all_of (f := outK) (R := fun o => OutOk sl (sz + op.2) o) p3
            rw [List.length_map] at g3 l3
            exact qq _ _ (caseK os3) k3 (by rw [Nat.succ_mul, ← Nat.add_assoc]; exact d3) y3 ⟨os3, rfl, g3, l3, fun o ho => ⟨op.2, by rw [Nat.zero_add, List.getElem?_map, hop]; rfl, hos3 o ho⟩⟩
          · obtain ⟨row, rfl, hrow⟩ := each_of (o := 0) (f := caseK) (R := fun j os => 0 < os.length ∧ os.length ≤ 3 ∧ ∀ o ∈ os, ∃ ar, (ops.map (·.2))[j]? = some ar ∧ OutOk sl (sz + ar) o) p2
            have lrow : row.length = ops.length := by rw [List.length_map] at l2; omega
            have t2 : TK K H1 H2 := .kp d1 k2
            have ec2 : H2 cl = some (.lst us) := k2 _ _ ncp ncc ec
            refine ⟨_, rfl, .inl ⟨rfl, _, SqL.of ec2⟩, _, rfl, D, _, rfl, .inl ⟨SqL.of e2, fun tr ntr => ?_⟩⟩
            have s3 : Same H2 (upd H2 tr (.tup ws)) := same_upd ntr
            have e3 : (upd H2 tr (.tup ws)) tr = some (.tup ws) := upd_same
            have d3 := d2.of_same s3
            generalize upd H2 tr (.tup ws) = H3 at s3 e3 d3 ⊢
            have ec3 := s3 _ _ ec2
            have t3 : TK K H1 H3 := t2.trans (.same s3)
            have ky : Ky K H3 (.ref tr) (mrowK row) := .tup (SqT.of e3) (y2.tk (.same s3))
            have tp := TK.put (K := K) (zs := us ++ [.ref tr]) ec3
            have lus : us.length = i := by rw [yc.length, List.length_map, lc]
            refine ⟨cl, _, _, rfl, rfl, ec3, ?_, ?_⟩
            · have h9 : 1000 ≤ sizeLine := by decide
              omega
            · refine ⟨⟨_, _, _, _, _, rfl⟩, fun b o b1 b2 b3 e => ?_, (tk.trans t3).trans tp, (d3.put ncp ncc).mono (by rw [Nat.succ_mul]; omega), us ++ [.ref tr], cs ++ [row], upd_same, ?_, by rw [List.length_append, lc]; rfl, fun j row' hj => ?_⟩
              · rw [upd_ne b3]
                exact s3 _ _ (k2 _ _ b1 b2 (kr _ _ b1 b2 b3 e))
              · rw [List.map_append]
                exact ((yc.tk t3).tk tp).app (.one (Ky.tk ky tp))
              · rcases at_snoc hj with z | ⟨z1, z2⟩
                · exact okc j row' z
                · subst z2
                  have ji : j = i := by rw [z1, lc]
                  subst ji
                  refine ⟨lrow, fun t os ho => ?_⟩
                  have z := hrow t os ho
                  rw [Nat.zero_add] at z
                  exact ⟨z.1, z.2.1, fun o ho => by obtain ⟨ar, h1, h2⟩ := z.2.2 o ho; exact ⟨sz, ar, hsz, h1, h2⟩⟩
      · rintro σ H16 ⟨⟨o2, o4, o8, o9, o10, rfl⟩, kr, tk, d16, us, cs, ec, yc, lc, okc⟩
        rw [List.length_map] at lc d16
        have eo16 : H16 ol = some (.lst ovs) := kr _ _ nop noc nco.symm eo15
        have yo16 := yo15.tk tk
        have ys16 := tk _ _ ys15
        have kp16 : Kp p c H H16 := fun b o b1 b2 e => kr _ _ b1 b2 (fun z => by rw [z, cl0] at e; cases e) (kp15 _ _ b1 b2 e)
        have d16' : Deck H16 p c (m + 6450) := d16.mono (by omega)
        refine ⟨_, rfl, _, rfl, ol, _, rfl, .inl ⟨SqL.of eo16, fun to nto => ?_⟩⟩
        have s17 : Same H16 (upd H16 to (.tup ovs)) := same_upd nto
        have e17 : (upd H16 to (.tup ovs)) to = some (.tup ovs) := upd_same
        have d17 := d16'.of_same s17
        generalize upd H16 to (.tup ovs) = H17 at s17 e17 d17 ⊢
        refine ⟨_, rfl, cl, _, rfl, .inl ⟨SqL.of (s17 _ _ ec), fun tc ntc => ?_⟩⟩
        have s18 : Same H17 (upd H17 tc (.tup us)) := same_upd ntc
        have e18 : (upd H17 tc (.tup us)) tc = some (.tup us) := upd_same
        have d18 := d17.of_same s18
        generalize upd H17 tc (.tup us) = H18 at s18 e18 d18 ⊢
        have s1618 := s17.trans s18
        have t18 : TK K H16 H18 := .same s1618
        refine ⟨_, rfl, _, rfl, p, c, m + 6450, .ref sa, sl, rfl, .tup (t18 _ _ ys16) (nats_kys sl), d18, by omega, sl0, sln, slv, fun H19 v19 crs k19 d19 y19 v19' c19 h19 => ⟨by show 4 ≤ sizeLine; decide, fun r nr => ?_⟩⟩
        have t19 : TK K H18 H19 := .kp d18 k19
        have s20 := same_upd (o := .tup [.ref sa, .ref to, .ref tc, v19]) nr
        refine q _ _ ⟨sl, ops, cs, crs⟩ (((kp16.trans (.of_same s1618)).trans k19).trans (.of_same s20)) ((d19.of_same s20).mono (by omega)) ⟨sl0, sln, slv, by show ops.length ≤ 8; omega, oo5, ndt, lc, okc, v19', c19, h19⟩ ?_
        have t1620 : TK K H16 H19 := t18.trans t19
        have yk : Kys K H19 [.ref sa, .ref to, .ref tc, v19] [numsK sl, .tup (ops.map repK), .tup (cs.map mrowK), crsK crs] :=
          .cons (.tup (t1620 _ _ ys16) (nats_kys sl)) (.cons (.tup (t19 _ _ (SqT.of (s18 _ _ e17))) (yo16.tk t1620)) (.cons (.tup (t19 _ _ (SqT.of e18)) (yc.tk t1620)) (.one y19)))
        exact Ky.tup (SqT.of upd_same) (Kys.tk yk (.same s20))
end
end Eh
set_option Elab.async false
set_option linter.all false
set_option maxRecDepth 100000
set_option maxHeartbeats 4000000
/-! Defs that ask repr: no repr runs around them. The law's end for such. -/
namespace L2
open PySem PySem.Spec PyProof.Rows
/-- a def's promise where no repr is being made around the call -/
structure FnG (P : Program) (w : World) (K : PySem.W.Frag) (mg : Str → Option Value) (base : Heap) (CX : CXT) (k : Nat) (f : Addr) (fd : FuncData) (ps : List Str) (sp : Sp) : Prop where
  len : ∀ vs H Q E, sp vs H Q E → vs.length = ps.length
  run : ∀ (A : Around) (outer : List Env) (s : Shared) (H : Hp) (args : Args) (us : List Value) (vs : List V) (Q : VK) (E : XK), Room k A → A.guards = some [] → Env0 P w K mg base A outer s H → BindsTo s fd args (ps.zip us) → Vals vs us → sp vs H Q E →
    codeAny (model P w) A (.call (.ref f) args) (CR CX outer P w H s Q E) s
theorem guards_deeper {A : Around} {env : Env} (h : A.guards = some []) : (A.deeper env).guards = some [] := by
  first
    | exact h
    | simpa [Around.deeper] using h
section
variable {P : Program} {w : World} {K : PySem.W.Frag} {mg : Str → Option Value} {base : Heap}
theorem Fun.okG {CX : CXT} {x qual : Str} {st : Stmt} {f : Addr} {fd : FuncData} {N ps : List Str} {k : Nat} {sp : Sp} (F : Fun K x qual st f fd) (S : FnScope N ps (defScope st)) (len : ∀ vs H Q E, sp vs H Q E → vs.length = ps.length)
    (hbody : ∀ (cdv : Value) (A : Around) (outer : List Env) (s : Shared) (H : Hp) (vs : List V) (Q : VK) (E : XK), Room k (A.deeper (envOfC qual (defScope st) s.heap.objs.size f cdv)) → A.guards = some [] → sp vs H Q E →
      ∃ t, PSs (cxOf CX P w K mg base N qual (defScope st) f cdv A outer s H E).nox (defBody st) t ∧ t { nx := fun _ H' => Q .non H', rt := Q } (start N vs) H) : FnG P w K mg base CX (k + 1) f fd ps sp := by
  obtain ⟨oc, od, kV, doc, pm, an, cdv, ct, osl, rfl, lk, hcd⟩ := F.ex
  refine ⟨len, fun A outer s H args us vs Q E hr hgd e0 hb r hsp => ?_⟩
  have hlen := len _ _ _ _ hsp
  have KX : K.In s.heap := e0.mod.kin.keeps fun b o e => (e0.bs b o e).1
  have nl : s.heap.NoLimit := e0.mod.nolimit.keeps fun b o e => (e0.bs b o e).1
  refine codeAny_call_function hr.depth (KX _ _ lk) rfl S.co S.gen rfl (PySem.W.codeRec_of KX hcd) (hb _ _ _ _ ?_)
  refine wpAny_newFunctionEnv_cells S.kind (fun y hy => ?_) fun env he s1 x => ?_
  · obtain ⟨n, v⟩ := y
    rcases S.par n (List.of_mem_zip hy).1 with q | q
    · exact .inl q
    · exact .inr ⟨q, PySem.W.cellsFrom_some _ _ _ (.inl q)⟩
  subst he
  refine ⟨nl.keeps x.toInCall.keep, codeAny_func ?_⟩
  obtain ⟨t, ht, hq⟩ := hbody cdv A outer s H vs Q E (hr.deeper _) hgd hsp
  have I : Inv (cxOf CX P w K mg base N qual (defScope st) f cdv A outer s H E) [] (start N vs) H s1 := inv_start S hr.hd e0 hlen r x
  refine wpAny_mono (ht.nox.run [] s1 (start N vs) H _ I hq) (fun fl s' hs => ?_) fun e s' hs => hs
  cases fl with
  | ret u =>
    obtain ⟨v, σ', H', J, rv, q⟩ := hs
    exact ⟨v, H', J.os, J.bare, J.base, J.hok, rv, q⟩
  | next =>
    obtain ⟨σ', H', J, q⟩ := hs
    exact ⟨.non, H', J.os, J.bare, J.base, J.hok, rfl, q⟩
  | brk =>
    obtain ⟨_, _, _, q⟩ := hs
    exact False.elim q
  | cont =>
    obtain ⟨_, _, _, q⟩ := hs
    exact False.elim q
end
section
variable {X : Cx} {CX : CXT} {k : Nat} {f : Addr} {fd : FuncData} {ps : List Str} {sp : Sp} {E : XK} {x : Str} {p pos : Pos} {e : Expr} {es : List Expr} {t : TA} {ds : List Value} {dvs : List V}
/-- f(e, ..) of such a def, from a place where no repr is being made -/
theorem pe_callG (F : FnG X.prog X.w X.K X.mg X.base CX k f fd ps sp) (hr : Room k X.A) (hgd : X.A.guards = some []) (hg : Gl X x) (hm : X.mg x = some (.ref f)) (hk : PySem.W.keepIn X.K (.ref f) = true) (hb : Binds X.K fd ps []) (hx : Passes CX X E)
    (ha : PA X (e :: es) t) (hdb : (x == ("__debug__" : Str)) = false := by decide) (he : starEach (e :: es) X.env = (false, eval e X.env) :: starEach es X.env := by rfl) (hpl : (backTo pos (starEach es X.env)).any (·.1) = false := by rfl) :
    PE X (.Call (.Name x p) (e :: es) [] pos) (tCall sp [] E t) := by
  refine ⟨fun pins s σ H Q I h => ?_⟩
  refine wpAny_Call_Name_kw (ld_glob I hg hm ?_ hdb)
  refine PySem.W.callWith_K (h₀ := X.base) I.ok.mod.kin hk (thn (ha.run pos pins s σ H _ I h) fun us s1 ⟨vs, H1, I1, r, q⟩ => ⟨I1.kIn, ?_⟩) he hpl
  have q' : sp vs H1 Q E := by
    have z : sp (vs ++ []) H1 Q E := q
    rwa [List.append_nil] at z
  have hl : us.length = ps.length := by rw [← r.length]; exact F.len _ _ _ _ q'
  have b := hb s1 us I1.kIn (by rw [List.append_nil]; exact hl)
  rw [List.append_nil] at b
  refine wpAny_call (codeAny_mono (F.run X.A X.stack s1 H1 ⟨us, []⟩ us vs Q E hr hgd I1.env0 b r q') fun r s' hq => ?_)
  cases r with
  | error er => exact hx pins σ H1 s1 er s' I1 hq
  | ok fl =>
    cases fl with
    | ret u => exact I1.after hq
    | next => exact False.elim hq
    | brk => exact False.elim hq
    | cont => exact False.elim hq
end
/-! ### the end of a law whose def asks repr -/
theorem law_callG {P : Program} {w : World} {K : PySem.W.Frag} {mg mb : Str → Option Value} {CX : CXT} {k : Nat} {fa a : Addr} {fd : FuncData} {x : Str} {sp : Sp} {s₁ : Shared} {vs : List Value} {ns : List Int}
    (KX : K.In s₁.heap) (hns : s₁.heap.Ns mainGlobals mg) (hb : s₁.heap.Ns builtinsNs mb) (hbb : ∀ x : Str, x ≠ "__name__" → mb x = bootBuiltins x) (hlim : s₁.heap.NoLimit) (hg : s₁.gens = #[])
    (ha : s₁.heap.get? a = some { cls := .type "list", data := .seq vs.toArray }) (hi : IntsAre vs ns) (hl : ns.length ≤ sizeLine) (hr : Room k callerA)
    (F : ∀ base : Heap, K.In base → base.Ns mainGlobals mg → FnG P w K mg base CX k fa fd [x] sp) (hbind : ∀ (s : Shared) (u : Value), BindsTo s fd ⟨[u], []⟩ [(x, u)])
    (hsp : ∀ H : Hp, Only H → SqL K H a (ns.map V.int) → sp [.ref a] H (fun v _ => v = .bl true) fun _ _ _ => False)
    (hCX : ∀ H e s', CX [] H s₁ (fun _ _ _ => False) e s' → False) :
    codeAny (model P w) callerA (.call (.ref fa) ⟨[.ref a], []⟩) (fun r s' => r = .ok (.ret (.bool true)) ∧ OldK s₁.heap s'.heap ∧ s'.os = s₁.os ∧ AllBare s'.gens) s₁ := by
  have rv := vals_ints hi
  have go : ∀ H : Hp, Only H → SqL K H a (ns.map V.int) → HOk P w H s₁.heap → (∀ b u, H b = some u → b = a ∧ K.lookup a = none) →
      codeAny (model P w) callerA (.call (.ref fa) ⟨[.ref a], []⟩) (fun r s' => r = .ok (.ret (.bool true)) ∧ OldK s₁.heap s'.heap ∧ s'.os = s₁.os ∧ AllBare s'.gens) s₁ := by
    intro H hO hS hok hA
    have free : ∀ {b : Addr} {o : Obj}, s₁.heap.get? b = some o → (b = a → o ≠ { cls := .type "list", data := .seq vs.toArray }) → H b = none := fun {b o} e n => by
      cases q : H b with
      | none => rfl
      | some u =>
        obtain ⟨rfl, _⟩ := hA b u q
        rw [ha] at e
        exact absurd (Option.some.inj e).symm (n rfl)
    have ns' : ∀ {b : Addr} {m : Str → Option Value}, s₁.heap.Ns b m → (hidT s₁.heap H).Ns b m := fun {b m} ⟨o, es, ep, e, d, r⟩ =>
      ⟨o, es, ep, hidT_get e (free e fun _ z => by rw [z] at d; cases d), d, r⟩
    have hKb : K.In (hidT s₁.heap H) := fun b o e => hidT_get (KX b o e) (by
      cases q : H b with
      | none => rfl
      | some u =>
        obtain ⟨rfl, z⟩ := hA b u q
        rw [z] at e
        cases e)
    have hM : Mod K mg (hidT s₁.heap H) := ⟨hKb, ns' hns, ⟨mb, ns' hb, hbb⟩, let ⟨mc, h1, h2⟩ := hlim; ⟨mc, ns' h1, h2⟩⟩
    have e0 : Env0 P w K mg (hidT s₁.heap H) callerA [] s₁ H :=
      ⟨rfl, hM, fun b o e => of_hidT e, Nat.le_of_eq (hidT_size _ _), trivial, fun b z => absurd (show b ∈ ([] : List Addr) from z) (by simp), hok, .of_eq hg⟩
    refine codeAny_mono ((F _ hKb (ns' hns)).run callerA [] s₁ H ⟨[.ref a], []⟩ [.ref a] [.ref a] _ _ hr rfl e0 (hbind s₁ (.ref a)) (.cons rfl .nil) (hsp H hO hS)) fun r s' h => ?_
    cases r with
    | error e => exact (hCX H e s' h).elim
    | ok fl =>
      cases fl with
      | ret u =>
        obtain ⟨v, H', os, bare, un, hok', r', q⟩ := h
        have q' : v = .bl true := q
        subst q'
        obtain rfl : u = Value.bool true := r'
        refine ⟨rfl, OldK.of_keep fun b o e => ?_, os, bare⟩
        rcases hO b with z | ⟨ob, xs, z⟩
        · exact un.keep b o e z (fun y => absurd (show b ∈ ([] : List Addr) from y) (by simp)) (by simp)
        · obtain ⟨e1, _⟩ := hok b _ z
          obtain ⟨e2, _⟩ := hok' b _ (un.frzs b ob _ z)
          rw [e] at e1
          cases e1
          exact e2
      | next => exact False.elim h
      | brk => exact False.elim h
      | cont => exact False.elim h
  have ez : vs.length ≤ sizeLine := by rw [hi.length]; exact hl
  cases hk : K.lookup a with
  | some o =>
    have e := KX a o hk
    rw [ha] at e
    cases e
    exact go (fun _ => none) (fun _ => .inl rfl) (.inr ⟨_, vs.toArray, _, hk, rfl, rfl, rfl, by rw [List.size_toArray]; exact ez, by simpa using rv⟩)
      (fun b u z => by cases (show (none : Option HO) = some u from z)) (fun b u z => by cases (show (none : Option HO) = some u from z))
  | none =>
    have at_ : ∀ b u, (if b = a then some (HO.frz { cls := .type "list", data := .seq vs.toArray } (.lst (ns.map V.int))) else none) = some u → b = a ∧ HO.frz { cls := .type "list", data := .seq vs.toArray } (.lst (ns.map V.int)) = u := fun b u z => by
      by_cases hb : b = a
      · rw [if_pos hb] at z
        exact ⟨hb, Option.some.inj z⟩
      · rw [if_neg hb] at z
        cases z
    refine go (fun b => if b = a then some (.frz { cls := .type "list", data := .seq vs.toArray } (.lst (ns.map V.int))) else none) (fun b => ?_) (.inl (.inr ⟨{ cls := .type "list", data := .seq vs.toArray }, if_pos rfl⟩)) (fun b u z => ?_) fun b u z => ⟨(at_ b u z).1, hk⟩
    · by_cases hb : b = a
      · exact .inr ⟨_, _, if_pos hb⟩
      · exact .inl (if_neg hb)
    · obtain ⟨rfl, rfl⟩ := at_ b u z
      exact ⟨ha, by rw [List.length_map]; exact hl, vs, _, rv, ha⟩
theorem walk_ofG {l : PySem.W.OpenLaw} {n k : Nat} {q : Program} {loose : List Str} {XP : (Str → Option Value) → Heap → Prop} {YP : World → Heap → Prop} {d : DefRec} {K : Params → PySem.W.Frag} {CX : World → CXT} {sp : World → Sp} {x : Str}
    (hn : l.most = some n) (hn2 : n ≤ sizeLine) (hdf : d.params.defaults = []) (hr : Room k callerA)
    (hY : ∀ (w : World) (h : Heap), YP w h → (K w.params).In h)
    (F : ∀ (w : World) (mg : Str → Option Value) (fa : Addr) (h : Heap), (K w.params).In h → h.Ns mainGlobals mg → mg d.name = some (.ref fa) →
      ∃ fd : FuncData, (∀ (s : Shared) (u : Value), BindsTo s fd ⟨[u], []⟩ [(x, u)]) ∧
        ∀ base : Heap, (K w.params).In base → base.Ns mainGlobals mg → FnG l.prog w (K w.params) mg base (CX w) k fa fd [x] (sp w))
    (hsp : ∀ (w : World) (H : Hp) (a : Addr) (ns : List Int), ns.length ≤ n → Only H → SqL (K w.params) H a (ns.map V.int) → sp w [.ref a] H (fun v _ => v = .bl true) fun _ _ _ => False)
    (hCX : ∀ (w : World) (H : Hp) (s : Shared) (e : Value) (s' : Shared), CX w [] H s (fun _ _ _ => False) e s' → False) :
    PySem.W.WalkO q loose XP YP l.row.toRowW d [] (fun f vs => PySem.call f vs) := by
  refine Att.attach_call hn hdf fun w s₀ s₁ mg mb fa o pm cd doc a vs ns G Y ho hd hcd hmg hobj hints hlen hg => ?_
  have KX := hY w _ Y
  obtain ⟨fd, hb, hF⟩ := F w mg fa _ KX G.T.g hmg
  exact law_callG KX G.T.g G.T.b G.T.builtins G.T.nolimit hg hobj hints (Nat.le_trans hlen hn2) hr hF hb (fun H hO hS => hsp w H a ns hlen hO hS) fun H e s' => hCX w H s₁ e s'
end L2
set_option Elab.async false
set_option linter.all false
set_option maxRecDepth 100000
set_option maxHeartbeats 4000000
/-! repr of data, an empty dict among it. New lists are told apart from the module table. -/
namespace L2
open PySem PySem.Spec PyProof.Rows
mutual
/-- data to be shown -/
inductive Rp (K : PySem.W.Frag) (N : Addr → Prop) (H : Hp) : V → PyData → Prop
  | non : Rp K N H .non .none
  | bl (b : Bool) : Rp K N H (.bl b) (.bool b)
  | int (i : Int) : Rp K N H (.int i) (.int i)
  | str (x : Str) : Rp K N H (.str x) (.str x)
  | lst {a : Addr} {xs : List V} {ds : List PyData} : SqL K H a xs → N a → RpAll K N H xs ds → Rp K N H (.ref a) (.list ds)
  | tup {a : Addr} {xs : List V} {ds : List PyData} : SqT K H a xs → RpAll K N H xs ds → Rp K N H (.ref a) (.tuple ds)
  | dic {a : Addr} : H a = some (.dK []) → Rp K N H (.ref a) (.dict [])
inductive RpAll (K : PySem.W.Frag) (N : Addr → Prop) (H : Hp) : List V → List PyData → Prop
  | nil : RpAll K N H [] []
  | cons {v : V} {vs : List V} {d : PyData} {ds : List PyData} : Rp K N H v d → RpAll K N H vs ds → RpAll K N H (v :: vs) (d :: ds)
end
section
variable {X : Cx} {pins : List (Addr × Obj)} {σ : St} {H : Hp} {s : Shared}
theorem reads_empty (I : Inv X pins σ H s) {a : Addr} (h : H a = some (.dK [])) : Reads s.heap (.ref a) (.dict []) [a] ∧ a ≠ sysModules := by
  obtain ⟨_, hne, vs, rel, o, es, ep, ho, hx, hd, _, he, _⟩ := (show ObjOk X.prog X.w H s.heap a (.dK []) from I.hok a _ h)
  cases rel
  have e0 : es.toList = [] := by
    cases hl : es.toList with
    | nil => rfl
    | cons p l => rw [hl] at he; cases he
  have hc : o.cls = .type "dict" := hx.1
  have r : Reads s.heap (.ref a) (.dict []) (a :: [] ++ []) := .dict ho hc hd (by rw [e0]; exact .nil) (by rw [e0]; exact .nil)
  exact ⟨r, fun z => by rw [z] at hne; exact absurd hne (by decide)⟩
mutual
theorem Rp.reads {N : Addr → Prop} (hN : ∀ a, N a → a ≠ sysModules) (I : Inv X pins σ H s) : ∀ (d : PyData) (v : V) (u : Value), Rp X.K N H v d → RelV v u → ∃ as, Reads s.heap u d as ∧ sysModules ∉ as
  | .none, _, _, h, r => by
    cases h
    cases r
    exact ⟨_, .none, by simp⟩
  | .bool b, _, _, h, r => by
    cases h
    cases r
    exact ⟨_, .bool b, by simp⟩
  | .int i, _, _, h, r => by
    cases h
    obtain ⟨t, rfl⟩ := r
    exact ⟨_, .int i t, by simp⟩
  | .str x, _, _, h, r => by
    cases h
    obtain ⟨t, rfl⟩ := r
    exact ⟨_, .str x t, by simp⟩
  | .list ds, _, _, h, r => by
    cases h with
    | lst hs ne ha =>
      cases r
      obtain ⟨its, rv, ⟨o, n, ho, hc, _, hd⟩, _⟩ := I.list hs
      obtain ⟨as, hr, hn⟩ := Rp.readsAll hN I ds _ its ha rv
      exact ⟨_, .list ho hc hd hr, fun hm => (List.mem_cons.mp hm).elim (fun z => hN _ ne z.symm) hn⟩
  | .tuple ds, _, _, h, r => by
    cases h with
    | tup hs ha =>
      cases r
      obtain ⟨its, rv, ⟨o, ho, hc, n, hd⟩, _⟩ := I.tuple hs
      obtain ⟨as, hr, hn⟩ := Rp.readsAll hN I ds _ its ha rv
      exact ⟨_, .tuple ho hc hd hr, hn⟩
  | .dict kvs, _, _, h, r => by
    cases h with
    | dic ha =>
      cases r
      obtain ⟨q, ne⟩ := reads_empty I ha
      exact ⟨_, q, fun hm => ne (List.mem_singleton.mp hm).symm⟩
theorem Rp.readsAll {N : Addr → Prop} (hN : ∀ a, N a → a ≠ sysModules) (I : Inv X pins σ H s) : ∀ (ds : List PyData) (vs : List V) (us : List Value), RpAll X.K N H vs ds → Vals vs us → ∃ as, ReadsAll s.heap us ds as ∧ sysModules ∉ as
  | [], _, _, h, r => by
    cases h
    cases r
    exact ⟨_, .nil, by simp⟩
  | d :: ds, _, _, h, r => by
    cases h with
    | cons h1 h2 =>
      cases r with
      | cons r1 r2 =>
        obtain ⟨as, q1, n1⟩ := Rp.reads hN I d _ _ h1 r1
        obtain ⟨bs, q2, n2⟩ := Rp.readsAll hN I ds _ _ h2 r2
        exact ⟨_, .cons q1 q2, fun hm => (List.mem_append.mp hm).elim n1 n2⟩
end
end
mutual
theorem Rp.imp {K : PySem.W.Frag} {N N' : Addr → Prop} {H H' : Hp} (hl : ∀ a xs, N a → SqL K H a xs → SqL K H' a xs ∧ N' a) (ht : ∀ a xs, SqT K H a xs → SqT K H' a xs) (hd : ∀ a, H a = some (.dK []) → H' a = some (.dK [])) : ∀ (d : PyData) (v : V), Rp K N H v d → Rp K N' H' v d
  | .none, _, h => by cases h; exact .non
  | .bool b, _, h => by cases h; exact .bl b
  | .int i, _, h => by cases h; exact .int i
  | .str x, _, h => by cases h; exact .str x
  | .list ds, _, h => by
    cases h with
    | lst a b c =>
      obtain ⟨a', b'⟩ := hl _ _ b a
      exact .lst a' b' (Rp.impAll hl ht hd ds _ c)
  | .tuple ds, _, h => by
    cases h with
    | tup a c => exact .tup (ht _ _ a) (Rp.impAll hl ht hd ds _ c)
  | .dict kvs, _, h => by
    cases h with
    | dic a => exact .dic (hd _ a)
theorem Rp.impAll {K : PySem.W.Frag} {N N' : Addr → Prop} {H H' : Hp} (hl : ∀ a xs, N a → SqL K H a xs → SqL K H' a xs ∧ N' a) (ht : ∀ a xs, SqT K H a xs → SqT K H' a xs) (hd : ∀ a, H a = some (.dK []) → H' a = some (.dK [])) : ∀ (ds : List PyData) (vs : List V), RpAll K N H vs ds → RpAll K N' H' vs ds
  | [], _, h => by cases h; exact .nil
  | d :: ds, _, h => by
    cases h with
    | cons h1 h2 => exact .cons (Rp.imp hl ht hd d _ h1) (Rp.impAll hl ht hd ds _ h2)
end
theorem Same.seqT {K : PySem.W.Frag} {H H' : Hp} {a : Addr} {xs : List V} (e : Same H H') (h : SqT K H a xs) : SqT K H' a xs := by
  rcases h with (h | ⟨o, h⟩) | h
  · exact .inl (.inl (e _ _ h))
  · exact .inl (.inr ⟨o, e _ _ h⟩)
  · exact .inr h
theorem Rp.same {K : PySem.W.Frag} {N : Addr → Prop} {H H' : Hp} {v : V} {d : PyData} (h : Rp K N H v d) (e : Same H H') : Rp K N H' v d :=
  Rp.imp (fun _ _ n s => ⟨e.seq s, n⟩) (fun _ _ s => e.seqT s) (fun _ s => e _ _ s) d v h
/-- data that repr shows in the size that there is -/
def Shows (d : PyData) : Prop := d.showable = true ∧ d.shown.length ≤ sizeLine ∧ d.depth ≤ 60
/-- repr(x) -/
def rRepr (K : PySem.W.Frag) : List V → Hp → VK → Prop := fun xs H Q => ∃ (N : Addr → Prop) (x : V) (d : PyData), (∀ a, N a → a ≠ sysModules) ∧ xs = [x] ∧ Rp K N H x d ∧ Shows d ∧ Q (.str d.shown) H
theorem call_repr {X : Cx} (hg : X.A.guards = some []) (hu : X.A.units + 64 < cLine) : CallR X (.builtin "repr") (rRepr X.K) := by
  intro pins s σ H xs us Q I r h
  obtain ⟨N, x, d, hN, rfl, hx, ⟨hs, hz, hd⟩, q⟩ := h
  obtain ⟨u, rfl, ru⟩ := vals1 r
  have fin : ∀ h' t tk, (∀ b o, s.heap.get? b = some o → h'.get? b = some o) → EP X pins σ Q (.str d.shown t) { s with heap := h', toks := tk } := fun h' t tk k => ⟨.str _, H, I.kept (t' := tk) k, ⟨_, rfl⟩, q⟩
  cases hx with
  | non =>
    cases ru
    exact PySem.P.repr_of_none (fin s.heap _ _ fun _ _ e => e)
  | bl b =>
    cases ru
    exact PySem.P.repr_of_bool (by cases b <;> exact fin s.heap _ _ fun _ _ e => e)
  | int i =>
    obtain ⟨t, rfl⟩ := ru
    exact PySem.P.repr_of_int (by simpa [PyData.showable] using hs) (fin s.heap _ _ fun _ _ e => e)
  | str x =>
    obtain ⟨t, rfl⟩ := ru
    exact PySem.P.repr_of_str (fin s.heap _ _ fun _ _ e => e) (by simpa [PyData.shown] using hz)
  | lst a b c =>
    cases ru
    obtain ⟨as, rd, ns⟩ := Rp.reads hN I _ _ _ (.lst a b c) rfl
    exact repr_of_reads' rd hs (fun _ => ns) hg (by omega) (fun _ _ e => e) fin hz
  | tup a b =>
    cases ru
    obtain ⟨as, rd, ns⟩ := Rp.reads hN I _ _ _ (.tup a b) rfl
    exact repr_of_reads' rd hs (fun _ => ns) hg (by omega) (fun _ _ e => e) fin hz
  | dic a =>
    cases ru
    obtain ⟨as, rd, ns⟩ := Rp.reads hN I _ _ _ (.dic a) rfl
    exact repr_of_reads' rd hs (fun _ => ns) hg (by omega) (fun _ _ e => e) fin hz
/-! ### new lists, apart from the module table -/
theorem Inv.apart {X : Cx} {pins : List (Addr × Obj)} {σ : St} {H : Hp} {s : Shared} (I : Inv X pins σ H s) : s.heap.objs.size ≠ sysModules := Nat.ne_of_gt I.big
section
variable {X : Cx} {es : List Expr} {pos : Pos} {t : TA}
def NewB (H : Hp) (xs : List V) (Q : VK) : Prop := ∀ p, H p = none → p ≠ sysModules → Q (.ref p) (upd H p (.lst xs))
def tLstB (t : TA) : TE := fun σ H Q => t σ H fun xs H1 => xs.length ≤ sizeLine ∧ NewB H1 xs Q
theorem pe_lstB (h : PA X es t) : PE X (.List es pos) (tLstB t) := by
  refine ⟨fun pins s σ H Q I hq => ?_⟩
  refine wpAny_List_spliced (thn (h.run pos pins s σ H _ I hq) fun us s1 ⟨xs, H1, I1, r, z, q⟩ => ⟨by rw [← r.length]; exact z, ?_⟩)
  exact ⟨.ref _, _, I1.lnew (t' := s1.toks) r z, rfl, q _ I1.fresh I1.apart⟩
def rCatB : R2 := fun x y H Q => ∃ l b xs zs, x = .ref l ∧ y = .ref b ∧ H l = some (.lst xs) ∧ H b = some (.lst zs) ∧ xs.length + zs.length ≤ sizeLine ∧ NewB H (xs ++ zs) Q
theorem op_catB : OpR X (binaryOp .Add) rCatB := by
  intro pins s σ H x y v u Q I rx ry h
  obtain ⟨l, b, xs, zs, rfl, rfl, hH, hB, hz, q⟩ := h
  cases rx
  cases ry
  obtain ⟨z, its, n, r, hl, e⟩ := I.lstM hH
  obtain ⟨z2, its2, n2, r2, hl2, e2⟩ := I.lstM hB
  refine PySem.P.add_list e e2 ?_ (by rw [List.size_toArray, List.size_toArray]; omega)
  rw [show its.toArray ++ its2.toArray = (its ++ its2).toArray by simp]
  exact ⟨.ref _, _, I.lnew (t' := s.toks) (r.append r2) (by rw [List.length_append]; omega), rfl, q _ I.fresh I.apart⟩
def rRepB : R2 := fun x y H Q => ∃ l k xs, x = .ref l ∧ y = .int k ∧ H l = some (.lst xs) ∧ 0 ≤ k ∧ k < 1000000 ∧ xs.length * k.toNat ≤ sizeLine ∧ NewB H (List.replicate k.toNat xs).flatten Q
theorem op_repB : OpR X (binaryOp .Mult) rRepB := by
  intro pins s σ H x y v u Q I rx ry h
  obtain ⟨l, k, xs, rfl, rfl, hH, h1, h2, hz, q⟩ := h
  cases rx
  obtain ⟨t, rfl⟩ := ry
  obtain ⟨z, its, n, r, hl, e⟩ := I.lstM hH
  have hlen : its.toArray.size * k.toNat ≤ sizeLine := by rw [List.size_toArray, ← hl]; exact hz
  have cap : ¬ its.toArray.size * k.toNat > (2 ^ 63 - 1) / 8 := by
    have : (sizeLine : Nat) ≤ (2 ^ 63 - 1) / 8 := by decide
    omega
  have fit : ¬ (!Builtin.List.listFitsIndex k) = true := by
    rw [fitsIndex_both (by omega) (by omega)]
    exact Bool.false_ne_true
  have long : ¬ Builtin.List.listTooLong (its.toArray.size * k.toNat) = true := by
    rw [notLongL hlen]
    exact Bool.false_ne_true
  have made : List.foldl (fun x1 x2 => x1 ++ x2) #[] (List.replicate (if its.toArray.isEmpty = true then 0 else k.toNat) its.toArray) = (List.replicate k.toNat its).flatten.toArray := by
    have f0 : ∀ m : Nat, List.foldl (fun x1 x2 => x1 ++ x2) #[] (List.replicate m its.toArray) = (List.replicate m its).flatten.toArray := fun m => by
      have z := foldl_rep its m []
      rwa [List.nil_append] at z
    rw [f0]
    cases its with
    | nil => simp
    | cons a r' => rw [if_neg (by simp)]
  refine wpAny_binaryOp_repeat_ref (T := "list") (U := "int") (by decide) ⟨_, e, rfl⟩ (fun s' => typeIs_int s' k t) noFill_list_mul F.fills_int_mul F.slot_int_rmul repeat_list F.slot_int_index.lookup
    (call_meets F.slot_int_rmul (typeIs_int s k t) F.entry_int_rmul (F.args_int_rmul_2 _ _) (int___rmul___int_list k t l its.toArray n)
      ⟨e, rfl, ⟨_, e, rfl⟩, call_meets F.slot_list_mul ⟨_, e, rfl⟩ F.entry_list_mul (F.args_list_mul_2 _ _) (AutoListH.list___mul___list_int_3 l its.toArray n k t fit cap long) ⟨e, ?_⟩⟩)
  rw [made]
  exact ⟨.ref _, _, I.lnew (t' := s.toks) (r.rep k.toNat) (by rw [PyProof.Rows.lm_len_rep_flat, Nat.mul_comm]; exact hz), rfl, q _ I.fresh I.apart⟩
end
end L2
set_option Elab.async false
set_option linter.all false
set_option maxRecDepth 100000
set_option maxHeartbeats 4000000
namespace L2
open PySem PySem.Spec PyProof.Rows
/-! ### how long a text repr gives -/
mutual
/-- small ints, plain signs, no dict but the empty one -/
def fine : PyData → Bool
  | .none => true
  | .bool _ => true
  | .int i => decide (i.natAbs < 2 ^ 66)
  | .str x => x.cps.toList.all fun c => decide (c < 1114112)
  | .list xs => fineAll xs
  | .tuple xs => fineAll xs
  | .dict kvs => kvs.isEmpty
def fineAll : List PyData → Bool
  | [] => true
  | x :: xs => fine x && fineAll xs
end
mutual
def cap : PyData → Nat
  | .none => 4
  | .bool _ => 5
  | .int _ => 70
  | .str x => 10 * x.length + 2
  | .list xs => 4 + capAll xs
  | .tuple xs => 4 + capAll xs
  | .dict _ => 4
def capAll : List PyData → Nat
  | [] => 0
  | x :: xs => cap x + 2 + capAll xs
end
theorem textFrom_cap : ∀ (ts : List Str) (k : Nat) (acc : Str), (textFrom k acc ts).length ≤ acc.length + piled ts
  | [], k, acc => by show acc.length ≤ _; simp [piled_nil]
  | t :: r, k, acc => by
    have h := textFrom_cap r (k + 1) (acc ++ (if k > 0 then ", " else "" : String) ++ t)
    have e : (acc ++ (if k > 0 then ", " else "" : String) ++ t).length ≤ acc.length + 2 + t.length := by
      rw [strLen_append, strLen_append]
      split
      · show acc.length + 2 + t.length ≤ _; omega
      · show acc.length + 0 + t.length ≤ _; omega
    rw [piled_cons]
    show (textFrom (k + 1) _ r).length ≤ _
    omega
theorem listText_cap (ts : List Str) : (listText ts).length ≤ 2 + piled ts := by
  unfold listText
  rw [strLen_append]
  have h := textFrom_cap ts 0 "["
  have e : (Str.ofString "[").length = 1 := rfl
  have e2 : (Str.ofString "]").length = 1 := rfl
  have h' : (textFrom 0 (Str.ofString "[") ts).length ≤ (Str.ofString "[").length + piled ts := h
  show (textFrom 0 (Str.ofString "[") ts).length + (Str.ofString "]").length ≤ _
  omega
theorem join_cap : ∀ ts : List Str, (Str.join ", " ts).length ≤ piled ts
  | [] => Nat.zero_le _
  | t :: r => by
    have h := join_length_add (t :: r) (by simp)
    omega
theorem tupleText_cap (ts : List Str) : (tupleText ts).length ≤ 3 + piled ts := by
  unfold tupleText
  rw [strLen_append, strLen_append]
  have h := join_cap ts
  have e : (Str.ofString "(").length = 1 := rfl
  have e2 : (Str.ofString (if (ts.length == 1) = true then ",)" else ")")).length ≤ 2 := by
    split
    · exact Nat.le_refl 2
    · exact Nat.le_succ 1
  show (Str.ofString "(").length + (Str.join ", " ts).length + (Str.ofString (if (ts.length == 1) = true then ",)" else ")")).length ≤ _
  omega
mutual
theorem shown_cap : ∀ d : PyData, fine d = true → d.shown.length ≤ cap d ∧ d.showable = true
  | .none, _ => by
    refine ⟨?_, by simp [PyData.showable]⟩
    simp only [PyData.shown, cap]
    exact Nat.le_refl 4
  | .bool b, _ => by
    refine ⟨?_, by simp [PyData.showable]⟩
    simp only [PyData.shown, cap]
    cases b
    · exact Nat.le_refl 5
    · exact Nat.le_succ 4
  | .int i, h => by
    have hi : i.natAbs < 2 ^ 66 := by simpa [fine] using h
    have hl : i.natAbs.log2 < 67 := by
      by_cases h0 : i.natAbs = 0
      · rw [h0]; decide
      · exact Nat.lt_succ_of_lt ((Nat.log2_lt h0).mpr hi)
    refine ⟨?_, ?_⟩
    · simp only [PyData.shown, cap]
      have e := int_text_length_le (k := 67) (by decide) hl
      rw [PySem.ofString_length]
      omega
    · simp only [PyData.showable]
      exact decide_eq_true (by omega)
  | .str x, h => by
    have hx : ∀ c ∈ x.cps.toList, c < 16 ^ 8 := fun c hc => by
      simp only [fine, List.all_eq_true] at h
      exact Nat.lt_trans (of_decide_eq_true (h c hc)) (by decide)
    refine ⟨?_, by simp [PyData.showable]⟩
    simp only [PyData.shown, cap]
    exact PySem.StrLaws.reprText_len x hx
  | .list xs, h => by
    obtain ⟨h1, h2⟩ := shown_capAll xs (by simpa [fine] using h)
    refine ⟨?_, by simpa [PyData.showable] using h2⟩
    simp only [PyData.shown, cap]
    have := listText_cap (PyData.shownAll xs)
    omega
  | .tuple xs, h => by
    obtain ⟨h1, h2⟩ := shown_capAll xs (by simpa [fine] using h)
    refine ⟨?_, by simpa [PyData.showable] using h2⟩
    simp only [PyData.shown, cap]
    have := tupleText_cap (PyData.shownAll xs)
    omega
  | .dict kvs, h => by
    have e : kvs = [] := by
      have h' : kvs.isEmpty = true := by simpa [fine] using h
      exact List.isEmpty_iff.mp h'
    subst e
    refine ⟨?_, by simp [PyData.showable, PyData.showableKv]⟩
    simp only [PyData.shown, PyData.shownKv, cap]
    exact (by decide : (dictText []).length ≤ 4)
theorem shown_capAll : ∀ xs : List PyData, fineAll xs = true → piled (PyData.shownAll xs) ≤ capAll xs ∧ PyData.showableAll xs = true
  | [], _ => by simp [PyData.shownAll, piled_nil, capAll, PyData.showableAll]
  | x :: xs, h => by
    have h' : fine x = true ∧ fineAll xs = true := by simpa [fineAll] using h
    obtain ⟨h1, h2⟩ := shown_cap x h'.1
    obtain ⟨h3, h4⟩ := shown_capAll xs h'.2
    refine ⟨?_, ?_⟩
    · simp only [PyData.shownAll, capAll]
      rw [piled_cons]
      omega
    · simp [PyData.showableAll, h2, h4]
end
theorem shows_of {d : PyData} (h : fine d = true) (hc : cap d ≤ 16000000) (hd : d.depth ≤ 60) : Shows d := by
  obtain ⟨h1, h2⟩ := shown_cap d h
  exact ⟨h2, by rw [sizeLine_eq]; omega, hd⟩
end L2
set_option Elab.async false
set_option linter.all false
set_option maxRecDepth 100000
set_option maxHeartbeats 4000000
/-! repr's text has plain signs only. -/
namespace L2
open PySem PySem.Spec PyProof.Rows
theorem char_lt (c : Char) : c.toNat < 1114112 := by
  have h := c.valid
  show c.val.toNat < 1114112
  rcases h with h | ⟨_, h⟩
  · exact Nat.lt_trans h (by decide)
  · exact h
theorem all_ok {x : Str} : PyData.strOk x = true ↔ ∀ c ∈ x.cps.toList, c < 1114112 := by
  unfold PyData.strOk
  rw [← Array.all_toList, List.all_eq_true]
  exact ⟨fun h c hc => of_decide_eq_true (h c hc), fun h c hc => decide_eq_true (h c hc)⟩
theorem ok_of (s : String) : PyData.strOk (Str.ofString s) = true := by
  rw [all_ok]
  intro c hc
  have h : ∃ d : Char, c = d.toNat := by
    rw [Str.ofString_eq_toList] at hc
    obtain ⟨d, _, e⟩ := List.mem_map.mp (show c ∈ s.toList.map Char.toNat from by simpa using hc)
    exact ⟨d, e.symm⟩
  obtain ⟨d, rfl⟩ := h
  exact char_lt d
theorem ok_app {x y : Str} (hx : PyData.strOk x = true) (hy : PyData.strOk y = true) : PyData.strOk (x ++ y) = true := by
  rw [all_ok] at hx hy ⊢
  intro c hc
  rw [Str.cps_append, Array.toList_append] at hc
  exact (List.mem_append.mp hc).elim (hx c) (hy c)
theorem ok_char {q c : Nat} (hq : q < 1114112) (hc : c < 1114112) : ∀ d ∈ Builtin.Str.reprChar q c, d < 1114112 := by
  have hex : ∀ w : Nat, ∀ d ∈ (List.replicate (w - ((Nat.toDigits 16 c).map Char.toNat).length) 48 ++ (Nat.toDigits 16 c).map Char.toNat), d < 1114112 := by
    intro w d hd
    rcases List.mem_append.mp hd with h | h
    · rw [List.eq_of_mem_replicate h]; decide
    · obtain ⟨e, _, rfl⟩ := List.mem_map.mp h
      exact char_lt e
  have two : ∀ (a b : Nat) (w d : Nat), a < 1114112 → b < 1114112 → d ∈ [a, b] ++ (List.replicate (w - ((Nat.toDigits 16 c).map Char.toNat).length) 48 ++ (Nat.toDigits 16 c).map Char.toNat) → d < 1114112 := by
    intro a b w d ha hb hd
    rcases List.mem_append.mp hd with h | h
    · simp at h
      rcases h with rfl | rfl
      · exact ha
      · exact hb
    · exact hex w d h
  intro d hd
  unfold Builtin.Str.reprChar at hd
  dsimp only at hd
  repeat' split at hd
  all_goals first | exact two _ _ _ d (by decide) (by decide) hd | (simp at hd; omega)
theorem ok_repr {x : Str} (hx : PyData.strOk x = true) : PyData.strOk (PySem.reprText x) = true := by
  rw [all_ok] at hx ⊢
  have hq : PySem.reprQuote x < 1114112 := by
    unfold PySem.reprQuote
    split <;> decide
  have go : ∀ (l : List Nat) (acc : Array Nat), (∀ c ∈ l, c < 1114112) → (∀ c ∈ acc.toList, c < 1114112) → ∀ c ∈ (l.foldl (fun out c => out ++ (Builtin.Str.reprChar (PySem.reprQuote x) c).toArray) acc).toList, c < 1114112 := by
    intro l
    induction l with
    | nil => exact fun acc _ h => h
    | cons d r ih =>
      intro acc h1 h2
      rw [List.foldl_cons]
      refine ih _ (fun c hc => h1 c (List.mem_cons_of_mem _ hc)) fun c hc => ?_
      rw [Array.toList_append] at hc
      rcases List.mem_append.mp hc with h | h
      · exact h2 c h
      · exact ok_char hq (h1 d List.mem_cons_self) c h
  intro c hc
  unfold PySem.reprText at hc
  rw [Array.toList_push, ← Array.foldl_toList] at hc
  rcases List.mem_append.mp hc with h | h
  · exact go _ _ hx (fun c h => by
      rw [List.mem_singleton.mp (show c ∈ [PySem.reprQuote x] from h)]
      exact hq) c h
  · rw [List.mem_singleton.mp h]
    exact hq
theorem ok_from : ∀ (ts : List Str) (k : Nat) (acc : Str), (∀ t ∈ ts, PyData.strOk t = true) → PyData.strOk acc = true → PyData.strOk (textFrom k acc ts) = true
  | [], _, _, _, h => h
  | t :: r, k, acc, h, ha => ok_from r (k + 1) _ (fun u hu => h u (List.mem_cons_of_mem _ hu)) (ok_app (ok_app ha (ok_of _)) (h t List.mem_cons_self))
theorem ok_join : ∀ (ts : List Str), (∀ t ∈ ts, PyData.strOk t = true) → PyData.strOk (Str.join ", " ts) = true
  | [], _ => by decide +kernel
  | [x], h => h x List.mem_cons_self
  | x :: y :: r, h => ok_app (ok_app (h x List.mem_cons_self) (ok_of _)) (ok_join (y :: r) fun u hu => h u (List.mem_cons_of_mem _ hu))
mutual
theorem shown_ok : ∀ d : PyData, fine d = true → PyData.strOk d.shown = true
  | .none, _ => by
    simp only [PyData.shown]
    exact ok_of _
  | .bool b, _ => by
    simp only [PyData.shown]
    cases b <;> exact ok_of _
  | .int i, _ => by
    simp only [PyData.shown]
    exact ok_of _
  | .str x, h => by
    simp only [PyData.shown]
    refine ok_repr (all_ok.mpr fun c hc => ?_)
    simp only [fine, List.all_eq_true] at h
    exact of_decide_eq_true (h c hc)
  | .list xs, h => by
    have q := shown_okAll xs (by simpa [fine] using h)
    simp only [PyData.shown]
    exact ok_app (ok_from _ _ _ q (ok_of _)) (ok_of _)
  | .tuple xs, h => by
    have q := shown_okAll xs (by simpa [fine] using h)
    simp only [PyData.shown]
    exact ok_app (ok_app (ok_of _) (ok_join _ q)) (ok_of _)
  | .dict kvs, h => by
    have e : kvs = [] := by
      have h' : kvs.isEmpty = true := by simpa [fine] using h
      exact List.isEmpty_iff.mp h'
    subst e
    simp only [PyData.shown, PyData.shownKv]
    decide +kernel
theorem shown_okAll : ∀ xs : List PyData, fineAll xs = true → ∀ t ∈ PyData.shownAll xs, PyData.strOk t = true
  | [], _ => fun t ht => by simp [PyData.shownAll] at ht
  | x :: xs, h => by
    have h' : fine x = true ∧ fineAll xs = true := by simpa [fineAll] using h
    intro t ht
    simp only [PyData.shownAll] at ht
    rcases List.mem_cons.mp ht with rfl | ht
    · exact shown_ok x h'.1
    · exact shown_okAll xs h'.2 t ht
end
end L2
set_option Elab.async false
set_option linter.all false
set_option maxRecDepth 100000
set_option maxHeartbeats 4000000
/-! repr of data with no dict in it. -/
namespace L2
open PySem PySem.Spec PyProof.Rows
mutual
theorem dp_nodict {K : PySem.W.Frag} {H : Hp} : ∀ (d : PyData) (v : V), Dp K H v d → d.hasDict = false
  | .none, _, _ => by simp [PyData.hasDict]
  | .bool _, _, _ => by simp [PyData.hasDict]
  | .int _, _, _ => by simp [PyData.hasDict]
  | .str _, _, _ => by simp [PyData.hasDict]
  | .list ds, _, h => by
    cases h with
    | lst a b => simp only [PyData.hasDict]; exact dps_nodict ds _ b
  | .tuple ds, _, h => by
    cases h with
    | tup a b => simp only [PyData.hasDict]; exact dps_nodict ds _ b
  | .dict _, _, h => by cases h
theorem dps_nodict {K : PySem.W.Frag} {H : Hp} : ∀ (ds : List PyData) (vs : List V), DpAll K H vs ds → PyData.hasDictAll ds = false
  | [], _, _ => by simp [PyData.hasDictAll]
  | d :: ds, _, h => by
    cases h with
    | cons a b =>
      simp only [PyData.hasDictAll, dp_nodict d _ a, dps_nodict ds _ b]
      rfl
end
def rReprD (K : PySem.W.Frag) : List V → Hp → VK → Prop := fun xs H Q => ∃ (x : V) (d : PyData), xs = [x] ∧ Dp K H x d ∧ Shows d ∧ Q (.str d.shown) H
theorem call_reprD {X : Cx} (hg : X.A.guards = some []) (hu : X.A.units + 64 < cLine) : CallR X (.builtin "repr") (rReprD X.K) := by
  intro pins s σ H xs us Q I r h
  obtain ⟨x, d, rfl, hx, ⟨hs, hz, hd⟩, q⟩ := h
  obtain ⟨u, rfl, ru⟩ := vals1 r
  have fin : ∀ h' t tk, (∀ b o, s.heap.get? b = some o → h'.get? b = some o) → EP X pins σ Q (.str d.shown t) { s with heap := h', toks := tk } := fun h' t tk k => ⟨.str _, H, I.kept (t' := tk) k, ⟨_, rfl⟩, q⟩
  have nd := dp_nodict d x hx
  obtain ⟨as, rd⟩ := Dp.reads I d x u hx ru
  cases hx with
  | non =>
    cases ru
    exact PySem.P.repr_of_none (fin s.heap _ _ fun _ _ e => e)
  | bl b =>
    cases ru
    exact PySem.P.repr_of_bool (by cases b <;> exact fin s.heap _ _ fun _ _ e => e)
  | int i =>
    obtain ⟨t, rfl⟩ := ru
    exact PySem.P.repr_of_int (by simpa [PyData.showable] using hs) (fin s.heap _ _ fun _ _ e => e)
  | str x =>
    obtain ⟨t, rfl⟩ := ru
    exact PySem.P.repr_of_str (fin s.heap _ _ fun _ _ e => e) (by simpa [PyData.shown] using hz)
  | lst a b =>
    cases ru
    exact repr_of_reads' rd hs (fun h => by rw [nd] at h; cases h) hg (by omega) (fun _ _ e => e) fin hz
  | tup a b =>
    cases ru
    exact repr_of_reads' rd hs (fun h => by rw [nd] at h; cases h) hg (by omega) (fun _ _ e => e) fin hz
end L2
set_option Elab.async false
set_option linter.all false
set_option maxRecDepth 100000
set_option maxHeartbeats 8000000
/-! spec; what the program's own defs give, told by keys -/
namespace Eh
open PySem PySem.Spec PyProof.Rows L2 NS
theorem scSpec : FnScope ["_law_deck_here"] ["_law_deck_here"] (defScope sSpec) := ⟨rfl, rfl, rfl, by decide +kernel, rfl, by decide +kernel, by decide +kernel⟩
def cfgK (md : Nat) (vals : List Int) : NestedKey := .tup [.num md, intsK vals]
def cky (vals : List Int) (x : Cr) : NestedKey := .tup [.num x.1, intsK (at_ vals x.2)]
def oky (vals : List Int) (o : Outc) : NestedKey := .tup [.text o.reply, intsK (at_ vals o.res), .tup [.num o.after, intsK (at_ vals o.ns)]]
theorem lt_ok {n : Nat} {s : Str} (h : Lt n s) : PyData.strOk s = true := by
  refine all_ok.mpr fun c hc => ?_
  have := h.2 c hc
  omega
section
variable {K : PySem.W.Frag} {H : Hp}
theorem Ky.tup4 {v : V} {a b c d : NestedKey} (h : Ky K H v (.tup [a, b, c, d])) : ∃ p x y z u, v = .ref p ∧ SqT K H p [x, y, z, u] ∧ Ky K H x a ∧ Ky K H y b ∧ Ky K H z c ∧ Ky K H u d := by
  obtain ⟨p, vs, rfl, t, e⟩ := h.tup_inv
  obtain ⟨x, r, rfl, hx, e⟩ := e.cons_inv
  obtain ⟨y, r, rfl, hy, e⟩ := e.cons_inv
  obtain ⟨z, r, rfl, hz, e⟩ := e.cons_inv
  obtain ⟨u, r, rfl, hu, e⟩ := e.cons_inv
  rw [e.nil_inv] at t
  exact ⟨p, x, y, z, u, rfl, t, hx, hy, hz, hu⟩
theorem intsK_inv {v : V} {ns : List Int} (h : Ky K H v (intsK ns)) : ∃ a, v = .ref a ∧ SqT K H a (ns.map V.int) := by
  obtain ⟨a, vs, rfl, t, e⟩ := h.tup_inv
  rw [Kys.nums_inv e] at t
  exact ⟨a, rfl, t⟩
theorem crows_of {sl : List Nat} {sz : Nat} : ∀ {c : List Cr} {vs : List V}, Kys K H vs (c.map crK) → (∀ x ∈ c, TgOk sl sz x) → (∀ n ∈ sl, n ≤ 8) → ∃ rows : List CRow, vs = rows.map (fun r => V.ref r.pr) ∧ (∀ r ∈ rows, RowAt K H sz r) ∧ ∀ vals, rows.map (ckey vals) = c.map (cky vals)
  | [], vs, h, _, _ => ⟨[], h.nil_inv, (fun _ h => nomatch h), fun _ => rfl⟩
  | x :: c, vs, h, ok, b8 => by
    obtain ⟨v, r, rfl, a, b⟩ := h.cons_inv
    obtain ⟨rows, rfl, h2, h3⟩ := crows_of b (fun y hy => ok y (List.mem_cons_of_mem _ hy)) b8
    obtain ⟨p, u, w, rfl, t, u1, w1⟩ := Ky.tup2 a
    rw [u1.num_inv] at t
    obtain ⟨ka, rfl, kt⟩ := numsK_inv w1
    obtain ⟨o1, o2⟩ := ok x List.mem_cons_self
    have l8 := b8 _ (List.mem_of_getElem? o1)
    refine ⟨⟨p, x.1, ka, x.2⟩ :: rows, rfl, fun r hr => ?_, fun vals => ?_⟩
    · rcases List.mem_cons.mp hr with e | e
      · rw [e]
        exact ⟨t, kt, o2, by show x.2.length < 1000; omega⟩
      · exact h2 r e
    · rw [List.map_cons, List.map_cons, h3 vals]
      rfl
theorem orows_of {sl : List Nat} {sz : Nat} : ∀ {os : List Outc} {vs : List V}, Kys K H vs (os.map outK) → (∀ x ∈ os, OutOk sl sz x) → (∀ n ∈ sl, n ≤ 8) → ∃ rows : List ORw, vs = rows.map (fun r => V.ref r.pr) ∧ (∀ r ∈ rows, OutAt K H sz r) ∧ ∀ vals, rows.map (okey vals) = os.map (oky vals)
  | [], vs, h, _, _ => ⟨[], h.nil_inv, (fun _ h => nomatch h), fun _ => rfl⟩
  | x :: c, vs, h, ok, b8 => by
    obtain ⟨v, r, rfl, a, b⟩ := h.cons_inv
    obtain ⟨rows, rfl, h2, h3⟩ := orows_of b (fun y hy => ok y (List.mem_cons_of_mem _ hy)) b8
    obtain ⟨p, u, w, z, y, rfl, t, u1, w1, z1, y1⟩ := Ky.tup4 a
    rw [u1.text_inv, z1.num_inv] at t
    obtain ⟨ra, rfl, rt⟩ := numsK_inv w1
    obtain ⟨ka, rfl, kt⟩ := numsK_inv y1
    have oo := ok x List.mem_cons_self
    have l8 := b8 _ (List.mem_of_getElem? oo.tg.1)
    have l8' : x.ns.length ≤ 8 := l8
    have l2 := oo.few
    refine ⟨⟨p, x.reply, ra, x.res, x.after, ka, x.ns⟩ :: rows, rfl, fun r hr => ?_, fun vals => ?_⟩
    · rcases List.mem_cons.mp hr with e | e
      · rw [e]
        exact ⟨t, ⟨rt, oo.res, by show x.res.length < 1000; omega⟩, kt, oo.tg.2, by show x.ns.length < 1000; omega⟩
      · exact h2 r e
    · rw [List.map_cons, List.map_cons, h3 vals]
      rfl
theorem nrows_of : ∀ {ops : List (Str × Nat)} {vs : List V}, Kys K H vs (ops.map repK) → ∃ rows : List ORow, vs = rows.map (fun r => V.ref r.ad) ∧ (∀ r ∈ rows, SqT K H r.ad [.str r.name, .int r.ar]) ∧ rows.map (·.name) = ops.map (·.1)
  | [], vs, h => ⟨[], h.nil_inv, (fun _ h => nomatch h), rfl⟩
  | x :: c, vs, h => by
    obtain ⟨v, r, rfl, a, b⟩ := h.cons_inv
    obtain ⟨rows, rfl, h2, h3⟩ := nrows_of b
    obtain ⟨p, u, w, rfl, t, u1, w1⟩ := Ky.tup2 a
    rw [u1.text_inv, w1.num_inv] at t
    refine ⟨⟨p, x.1, x.2⟩ :: rows, rfl, fun r hr => ?_, ?_⟩
    · rcases List.mem_cons.mp hr with e | e
      · rw [e]
        exact t
      · exact h2 r e
    · rw [List.map_cons, List.map_cons, h3]
/-- a crash asked of a spec -/
theorem crash_use {v w : V} {S : ASpec} {md : Nat} {vals : List Int} {c : List Cr} {Q : VK} {E : XK} (hv : Ky K H v (specK S)) (ok : SpecOk S) (hw : Ky K H w (cfgK md vals)) (hl : S.slots[md]? = some vals.length) (hc : S.crs[md]? = some c)
    (q : ∀ H' r, Same H H' → Ky K H' r (.tup (canon (c.map (cky vals)))) → Q r H') : spCrash K [v, w] H Q E := by
  obtain ⟨sp, x0, x1, x2, x3, rfl, t, y0, y1, y2, y3⟩ := Ky.tup4 hv
  obtain ⟨cf, a, b, rfl, tc, a1, b1⟩ := Ky.tup2 hw
  rw [a1.num_inv] at tc
  obtain ⟨va, rfl, tv⟩ := intsK_inv b1
  obtain ⟨cr, crs, rfl, tcr, ycr⟩ := y3.tup_inv
  obtain ⟨rv, hrv, yrv⟩ := ycr.get (show (S.crs.map rowK)[md]? = some (rowK c) by rw [List.getElem?_map, hc]; rfl)
  obtain ⟨rw', ws, rfl, trw, yws⟩ := yrv.tup_inv
  have okc : ∀ x ∈ c, TgOk S.slots vals.length x := fun x hx => by
    obtain ⟨sz, h1, h2⟩ := ok.cv.ok md c hc x hx
    rw [hl] at h1
    cases h1
    exact h2
  obtain ⟨rows, rfl, hr, hk⟩ := crows_of yws okc ok.sv
  have c4 := ok.c4 c (List.mem_of_getElem? hc)
  have lr : rows.length = c.length := by have z := congrArg List.length (hk vals); rwa [List.length_map, List.length_map] at z
  refine ⟨sp, cf, va, cr, rw', md, x0, x1, x2, crs, vals, rows, rfl, t, tc, tv, tcr, hrv, trw, hr, by omega, fun H' r L2 s m ka tt => q H' _ s ?_⟩
  rw [hk vals] at m
  refine Ky.tup tt ?_
  rw [← m]
  exact keys_back ka
/-- an outcome asked of a spec -/
theorem out_use {v w u : V} {S : ASpec} {md j : Nat} {name : Str} {vals args : List Int} {row : List (List Outc)} {os : List Outc} {Q : VK} {E : XK} (hv : Ky K H v (specK S)) (ok : SpecOk S) (hw : Ky K H w (cfgK md vals)) (hu : Ky K H u (intsK args)) (hl : S.slots[md]? = some vals.length) (ha : args.length ≤ 8)
    (hj : (S.ops.map (·.2))[j]? = some args.length) (hn : (S.ops.map (·.1))[j]? = some name) (hf : ∀ i, i < j → (S.ops.map (·.1))[i]? ≠ some name) (hr : S.cases[md]? = some row) (ho : row[j]? = some os)
    (q : ∀ H' r, Same H H' → Ky K H' r (.tup (canon (os.map (oky (vals ++ args))))) → Q r H') : spOut K [v, w, .str name, u] H Q E := by
  obtain ⟨sp, x0, x1, x2, x3, rfl, t, y0, y1, y2, y3⟩ := Ky.tup4 hv
  obtain ⟨cf, a, b, rfl, tc, a1, b1⟩ := Ky.tup2 hw
  rw [a1.num_inv] at tc
  obtain ⟨va, rfl, tv⟩ := intsK_inv b1
  obtain ⟨ag, rfl, ta⟩ := intsK_inv hu
  obtain ⟨oa, ovs, rfl, to, yo⟩ := y1.tup_inv
  obtain ⟨nrows, rfl, hnr, hnm⟩ := nrows_of yo
  obtain ⟨ca, cvs, rfl, tca, yca⟩ := y2.tup_inv
  obtain ⟨mv, hmv, ymv⟩ := yca.get (show (S.cases.map mrowK)[md]? = some (mrowK row) by rw [List.getElem?_map, hr]; rfl)
  obtain ⟨ma, mvs, rfl, tma, yma⟩ := ymv.tup_inv
  obtain ⟨kv, hkv, ykv⟩ := yma.get (show (row.map caseK)[j]? = some (caseK os) by rw [List.getElem?_map, ho]; rfl)
  obtain ⟨ka, kvs, rfl, tka, yka⟩ := ykv.tup_inv
  obtain ⟨_, hrow⟩ := ok.cr md row hr
  obtain ⟨_, o3, oko⟩ := hrow j os ho
  have oko' : ∀ o ∈ os, OutOk S.slots (vals ++ args).length o := fun o h => by
    obtain ⟨sz, ar', h1, h2, h3⟩ := oko o h
    rw [hl] at h1
    rw [hj] at h2
    cases h1
    cases h2
    rw [List.length_append]
    exact h3
  obtain ⟨rows, rfl, hro, hko⟩ := orows_of yka oko' ok.sv
  have lr : rows.length = os.length := by have z := congrArg List.length (hko vals); rwa [List.length_map, List.length_map] at z
  have v8 := ok.sv _ (List.mem_of_getElem? hl)
  have ln : nrows.length = S.ops.length := by have z := congrArg List.length hnm; rwa [List.length_map, List.length_map] at z
  have on := ok.on
  refine ⟨sp, cf, ag, va, oa, ca, ma, ka, md, j, x0, x3, cvs, mvs, name, nrows, vals, args, rows, rfl, t, tc, tv, ta, by omega, ⟨to, hnr, by omega, by rw [hnm]; exact hn, by rw [hnm]; exact hf, fun o h => ?_⟩, tca, hmv, tma, hkv, tka, hro, by omega, fun H' r L2 s m ka' tt => q H' _ s ?_⟩
  · have z : o.name ∈ S.ops.map (·.1) := by rw [← hnm]; exact List.mem_map.mpr ⟨o, h, rfl⟩
    obtain ⟨p, hp, e⟩ := List.mem_map.mp z
    rw [← e]
    exact lt_ok (ok.oo p hp).1
  · rw [hko (vals ++ args)] at m
    refine Ky.tup tt ?_
    rw [← m]
    exact keys_back ka'
end
section
variable {P : Program} {w : World} {K : PySem.W.Frag} {mg : Str → Option Value} {base : Heap}
theorem ok_spec {f fD fU fR : Addr} {fd fdD fdU fdR : FuncData} {k : Nat} (F : Fun K "_law_spec" "_law_spec" sSpec f fd) (FD : Fun K "_law_draw" "_law_draw" sDraw fD fdD) (bD : Binds K fdD ["_law_deck_here", "_law_many"] []) (gD : mg "_law_draw" = some (.ref fD))
    (GU : FnOk P w K mg base CX0 (k + 5) fU fdU ["_law_deck_here"] (spUnsafe K)) (kU : PySem.W.keepIn K (.ref fU) = true) (bU : Binds K fdU ["_law_deck_here"] []) (gU : mg "_law_unsafe_cell" = some (.ref fU))
    (GR : FnOk P w K mg base CX0 (k + 5) fR fdR ["_law_deck_here"] (spSpec K)) (kR : PySem.W.keepIn K (.ref fR) = true) (bR : Binds K fdR ["_law_deck_here"] []) (gR : mg "_law_random_spec" = some (.ref fR)) :
    FnOk P w K mg base CX0 (k + 6) f fd ["_law_deck_here"] (fun us H Q _ => ∃ (p c : Addr) (m : Nat), us = [.ref p] ∧ Deck H p c m ∧ m < 860000 ∧ ∀ (H' : Hp) (v : V) (S : ASpec), Kp p c H H' → Deck H' p c (m + 7001) → SpecOk S → Ky K H' v (specK S) → Q v H') := by
  have GD : FnOk P w K mg base CX0 (k + 5) fD fdD ["_law_deck_here", "_law_many"] spDraw := ok_draw FD
  refine F.ok scSpec (fun us H Q E h => ?_) (fun cdv A outer s H us Q E hr h => ?_)
  · obtain ⟨p, c, m, rfl, _⟩ := h
    rfl
  · obtain ⟨p, c, m, rfl, dk, hm, q⟩ := h
    refine ⟨_, pss_one (ps_ret (pe_ifExp (pt_cmpR op_eq (pe_call GD hr (by rfl) gD FD.kp bD .nil pass0 (pa_cons (pv 0) (pa_cons pe_int pa_nil))) pe_int (nomark _)) (pe_call GU hr (by rfl) gU kU bU .nil pass0 (pa_cons (pv 0) pa_nil)) (pe_call GR hr (by rfl) gR kR bR .nil pass0 (pa_cons (pv 0) pa_nil)))), ?_⟩
    refine ⟨_, rfl, p, c, m, 4, rfl, dk, by omega, by decide, by decide, fun H1 r k1 d1 r0 r1 => ⟨rfl, _, rfl, ite2 (fun _ => ?_) fun _ => ?_⟩⟩
    · exact ⟨_, rfl, p, c, m + 1, rfl, d1, by omega, fun H' v S k2 d2 ok y => q H' v S (k1.trans k2) (d2.mono (by omega)) ok y⟩
    · exact ⟨_, rfl, p, c, m + 1, rfl, d1, by omega, fun H' v S k2 d2 ok y => q H' v S (k1.trans k2) (d2.mono (by omega)) ok y⟩
end
end Eh
set_option Elab.async false
set_option linter.all false
set_option maxRecDepth 100000
set_option maxHeartbeats 8000000
/-! the law's outcomes -/
namespace Eh
open PySem PySem.Spec PyProof.Rows L2 NS
abbrev NOl : List Str := ["_law_machine", "_law_here", "_law_name", "_law_taken", "_law_at", "_law_held_here", "_law_found", "_law_one", "_law_arity", "_law_reply", "_law_results", "_law_mode", "_law_kept"]
theorem scOutcomes : FnScope NOl ["_law_machine", "_law_here", "_law_name", "_law_taken"] (defScope sOutcomes) := ⟨rfl, rfl, rfl, by decide +kernel, rfl, by decide +kernel, by decide +kernel⟩
section
variable {P : Program} {w : World} {K : PySem.W.Frag} {mg : Str → Option Value} {base : Heap}
theorem names_lay : ∀ l : List ORow, (∀ o ∈ l, PyData.strOk o.name = true) → PyData.canLayAll0 (l.map fun o => PyData.str o.name) = true ∧ PyData.depthAll (l.map fun o => PyData.str o.name) = 0 := by
  intro l
  induction l with
  | nil => exact fun _ => ⟨by simp [PyData.canLayAll0], by simp [PyData.depthAll]⟩
  | cons o l ih =>
    intro h
    obtain ⟨a, b⟩ := ih fun o' ho' => h o' (List.mem_cons_of_mem _ ho')
    have c := h o List.mem_cons_self
    refine ⟨?_, ?_⟩
    · rw [List.map_cons, PyData.canLayAll0, PyData.canLay0, c, a]
      rfl
    · rw [List.map_cons, PyData.depthAll, PyData.depth, b]
      rfl
theorem names_dp {H : Hp} : ∀ l : List ORow, DpAll K H (l.map fun o => V.str o.name) (l.map fun o => PyData.str o.name)
  | [] => .nil
  | o :: l => .cons (.str _) (names_dp l)
theorem ok_outcomes {f fP : Addr} {fd fdP : FuncData} (F : Fun K "_law_outcomes" "_law_outcomes" sOutcomes f fd) (FP : Fun K "_law_values" "_law_values" sValues fP fdP) (bP : Binds K fdP ["_law_refs_here", "_law_held_here"] []) (gP : mg "_law_values" = some (.ref fP))
    (mt : mg "tuple" = none) (ms : mg "set" = none) (mo : mg "sorted" = none) : FnOk P w K mg base CX0 2 f fd ["_law_machine", "_law_here", "_law_name", "_law_taken"] (spOut K) := by
  have GP : FnOk P w K mg base CX0 1 fP fdP ["_law_refs_here", "_law_held_here"] (spValues K) := ok_values FP mt
  refine F.ok scOutcomes (fun us H Q E h => ?_) (fun cdv A outer s H us Q E hr h => ?_)
  · obtain ⟨sp, cf, ag, va, os, cs, ms, cw, m, j, x0, x3, css, mss, op, ops, vals, args, rows, rfl, _⟩ := h
    rfl
  · obtain ⟨sp, cf, ag, va, os, cs, msA, cw, m, j, x0, x3, css, mss, op, ops, vals, args, rows, rfl, h0, h1, h2, h3, hz, ⟨o1, o2, o3, o4, o5, o6⟩, c1, c2, c3, c4, c5, c6, c7, q⟩ := h
    have hu : (cxOf CX0 P w K mg base NOl "_law_outcomes" (defScope sOutcomes) f cdv A outer s H E).nox.A.units + 64 < cLine := hr.units
    have hu5 : (cxOf CX0 P w K mg base NOl "_law_outcomes" (defScope sOutcomes) f cdv A outer s H E).nox.A.units + 65 < cLine := by
      have z := hr.un
      show (A.deeper _).units + 65 < cLine
      omega
    refine ⟨_, pss_cons (ps_par3 (i := 4) (j := 5) (l := 6) rfl scOutcomes.nd rfl rfl rfl (by decide) (by decide) (by decide) rfl rfl rfl (pa_cons
          (pe_bm PySem.F.plainAttrs_list PySem.F.slot_list_index PySem.F.type_list_index (mt_indexD hu5) (pe_lc (own := [("_law_one", 7), ("_law_arity", 8)]) (g := gTup K 2 (gCons (gName 7) (gCons (gName 8) gNil))) (tt := tYes) (te := tVar 7) rfl scOutcomes.nd (pi_tup (pe_ix ix_tup (pv 0) pe_int (fun _ _ => rfl))) (blkOk_by (N := NOl) (sc := defScope sOutcomes) (by decide +kernel))
            (fun _ _ _ _ _ => pg_tup rfl (pgs_cons (pg_name (i := 7) scOutcomes.nd rfl (.inl rfl)) (pgs_cons (pg_name (i := 8) scOutcomes.nd rfl (.inl rfl)) pgs_nil))) (fun _ _ _ _ _ => pts_nil) (fun _ _ _ _ _ => pv 7)) (pa_cons (pv 2) pa_nil))
          (pa_cons (pe_op op_catA (pe_ix ix_tup (pv 1) pe_int (fun _ _ => rfl)) (pv 3)) (pa_cons (pe_lst pa_nil) pa_nil))) rfl)
      (pss_cons (ps_for PassesOwn.never rfl (pi_tup (pe_ix ix_tup (pe_ix ix_tup (pe_ix ix_tup (pv 0) pe_int (fun _ _ => rfl)) (pe_ix ix_tup (pv 1) pe_int (fun _ _ => rfl)) (fun _ _ => rfl)) (pv 4) (fun _ _ => rfl)))
          (pg_tup rfl (pgs_cons (pg_name (i := 9) scOutcomes.nd rfl (.inl rfl)) (pgs_cons (pg_name (i := 10) scOutcomes.nd rfl (.inl rfl)) (pgs_cons (pg_name (i := 11) scOutcomes.nd rfl (.inl rfl)) (pgs_cons (pg_name (i := 12) scOutcomes.nd rfl (.inl rfl)) pgs_nil)))))
          (pss_one (ps_expr (pe_bm PySem.F.plainAttrs_list PySem.F.slot_list_append PySem.F.type_list_append mt_append (pv 6) (pa_cons
            (pe_tup (pa_cons (pv 9) (pa_cons (pe_call GP hr (by rfl) gP FP.kp bP .nil pass0 (pa_cons (pv 10) (pa_cons (pv 5) pa_nil))) (pa_cons (pe_tup (pa_cons (pv 11) (pa_cons (pe_call GP hr (by rfl) gP FP.kp bP .nil pass0 (pa_cons (pv 12) (pa_cons (pv 5) pa_nil))) pa_nil))) pa_nil)))) pa_nil)))))
      (pss_one (ps_ret (pe_callTy call_tuple_of (by rfl) mt (by decide +kernel) (pa_cons (pe_callB (cr_sortedN rfl hu) (by rfl) mo (by decide +kernel) (pa_cons (pe_callTy (cr_setOfN rfl hu) (by rfl) ms (by decide +kernel) (pa_cons (pv 6) pa_nil)) pa_nil)) pa_nil))))), ?_⟩
    refine ⟨_, rfl, sp, _, 1, .ref os, rfl, rfl, h0, atI_nat (j := 1) rfl, os, rfl, ⟨_, o1⟩, fun D hD => ?_⟩
    refine lc_tup (K := K) (a := os) (xs := ops.map fun o => V.ref o.ad) (fun n H' => Same H H' ∧ H' D = some (.lst ((ops.take n).map fun o => V.str o.name))) ⟨same_upd hD, upd_same⟩ (fun n H' _ z => sqT_of z.1 o1) ?_ ?_
    · rintro n x H' hx ⟨s1, e1⟩
      rw [List.getElem?_map] at hx
      cases hm : ops[n]? with
      | none => rw [hm] at hx; cases hx
      | some o =>
        rw [hm] at hx
        cases hx
        have hn := (List.getElem?_eq_some_iff.mp hm).1
        refine ⟨o.ad, _, rfl, sqT_of s1 (o2 o (List.mem_of_getElem? hm)), rfl, _, _, rfl, _, _, rfl, rfl, rfl, ?_⟩
        dsimp only [tYes]
        rw [if_pos rfl]
        refine ⟨_, rfl, _, e1, ?_, fun b u h => ?_, ?_⟩
        · rw [List.length_map, List.length_take]
          have h9 : 1000 ≤ sizeLine := by decide
          omega
        · rw [upd_ne (fun z => by rw [z, hD] at h; cases h)]
          exact s1 _ _ h
        · rw [upd_same, List.take_succ, hm, List.map_append]
          rfl
    · rintro H1 ⟨s1, e1⟩
      have e : (ops.map fun o => V.ref o.ad).length = ops.length := List.length_map ..
      rw [e, List.take_length] at e1
      obtain ⟨la, ld⟩ := names_lay ops o6
      have hop : PyData.strOk op = true := by
        obtain ⟨o, ho, e⟩ := List.mem_map.mp (List.mem_of_getElem? o4)
        rw [← e]
        exact o6 o ho
      have look : ∀ i : Nat, (ops.map fun o => PyData.str o.name)[i]? = ((ops.map (·.name))[i]?).map PyData.str := fun i => by
        rw [List.getElem?_map, List.getElem?_map]
        cases ops[i]? <;> rfl
      refine ⟨.inl ⟨rfl, _, SqL.of e1⟩, _, rfl, D, .str op, .str op, ops.map fun o => PyData.str o.name, j, .str op, rfl, rfl, .lst (SqL.of e1) (names_dp ops), .str op, ?_, ?_, ?_, ?_, fun i z hi hz => ?_, ?_⟩
      · simp [SeqAt.shaped, PyData.canLay0, PyData.depth, la, ld]
      · simp [SeqAt.shaped, PyData.canLay0, PyData.depth, hop]
      · rw [look, o4]
        rfl
      · simp [PyData.eqv]
      · rw [look] at hz
        cases hn : (ops.map (·.name))[i]? with
        | none => rw [hn] at hz; cases hz
        | some nm =>
          rw [hn] at hz
          cases hz
          have ne : nm ≠ op := fun z => o5 i hi (by rw [hn, z])
          simp [PyData.eqv, ne]
      · refine ⟨_, rfl, cf, _, ((1 : Nat) : Int), _, rfl, rfl, sqT_of s1 h1, atI_nat (j := 1) rfl, _, rfl, catA_ok (sqT_of s1 h2) (sqT_of s1 h3) hz fun H2 hd s2 hh => ?_⟩
        have k2 := s1.trans s2
        refine ⟨by show 0 ≤ sizeLine; decide, fun fl nfl => ?_⟩
        have nf0 : H fl = none := by
          cases z : H fl with
          | none => rfl
          | some o => rw [k2 _ _ z] at nfl; cases nfl
        have s3 : Same H2 (upd H2 fl (.lst [])) := same_upd nfl
        have e3 : (upd H2 fl (.lst [])) fl = some (.lst []) := upd_same
        refine ⟨_, _, _, rfl, ?_⟩
        show tSeq _ _ _ _ (upd H2 fl (.lst []))
        generalize upd H2 fl (.lst []) = H3 at s3 e3 ⊢
        have k3 := k2.trans s3
        refine ⟨_, rfl, sp, _, ((2 : Nat) : Int), .ref cs, rfl, rfl, sqT_of k3 h0, atI_nat (j := 2) rfl, _, rfl, cf, _, ((0 : Nat) : Int), .int m, rfl, rfl, sqT_of k3 h1, atI_nat (j := 0) rfl, cs, css, m, .ref msA, rfl, rfl, sqT_of k3 c1, atI_nat c2, _, rfl, msA, mss, j, .ref cw, rfl, rfl, sqT_of k3 c3, atI_nat c4, cw, rfl, ⟨_, sqT_of k3 c5⟩, ?_⟩
        refine for_tup (K := K) (a := cw) (xs := rows.map fun r => V.ref r.pr) (fun n σ H' => (∃ a b c d, σ = [some (.ref sp), some (.ref cf), some (.str op), some (.ref ag), some (.int j), some (.ref hd), some (.ref fl), none, none, a, b, c, d]) ∧ Same H H' ∧ TK K H2 H' ∧ ∃ ks : List (Addr × NestedKey), H' fl = some (.lst (ks.map fun p => V.ref p.1)) ∧ ks.map (·.2) = (rows.take n).map (okey (vals ++ args)) ∧ KeysAt K H' ks)
          ⟨⟨_, _, _, _, rfl⟩, k3, .same s3, [], e3, rfl, fun p hp => (by cases hp)⟩ (fun n σ H' _ z => sqT_of z.2.1 c5) ?_ ?_
        · rintro n x σ H' hx ⟨⟨a, b, c, d, rfl⟩, k', t', ks, f1, f2, f3⟩
          rw [List.getElem?_map] at hx
          cases hm : rows[n]? with
          | none => rw [hm] at hx; cases hx
          | some r =>
            rw [hm] at hx
            cases hx
            obtain ⟨r1, ⟨r2, r3, r4⟩, r5, r6, r7⟩ := c6 r (List.mem_of_getElem? hm)
            have hn := (List.getElem?_eq_some_iff.mp hm).1
            refine ⟨r.pr, _, rfl, sqT_of k' r1, rfl, _, _, rfl, _, _, rfl, _, _, rfl, _, _, rfl, rfl, ?_⟩
            refine ⟨_, rfl, .inl ⟨rfl, _, SqL.of f1⟩, _, rfl, _, rfl, _, rfl, hd, r.rs, vals ++ args, r.res, rfl, t' _ _ hh, sqT_of k' r2, r3, r4, fun H4 ra k4 hra => ?_⟩
            have k04 := k'.trans k4
            refine ⟨_, rfl, _, rfl, _, rfl, hd, r.kp, vals ++ args, r.ns, rfl, sqT_of k4 (t' _ _ hh), sqT_of k04 r5, r6, r7, fun H5 rb k5 hrb => ⟨by show 2 ≤ sizeLine; decide, fun c' nc => ⟨by show 3 ≤ sizeLine; decide, fun p np => ?_⟩⟩⟩
            have k6 : Same H5 (upd H5 c' (.tup [.int r.after, .ref rb])) := same_upd nc
            have l6 : (upd H5 c' (.tup [.int r.after, .ref rb])) c' = some (.tup [.int r.after, .ref rb]) := upd_same
            generalize upd H5 c' (.tup [.int r.after, .ref rb]) = H6 at k6 l6 np ⊢
            have k7 : Same H6 (upd H6 p (.tup [.str r.reply, .ref ra, .ref c'])) := same_upd np
            have l7 : (upd H6 p (.tup [.str r.reply, .ref ra, .ref c'])) p = some (.tup [.str r.reply, .ref ra, .ref c']) := upd_same
            have dD : (upd H6 p (.tup [.str r.reply, .ref ra, .ref c'])) fl = some (.lst (ks.map fun p => V.ref p.1)) := k7 _ _ (k6 _ _ (k5 _ _ (k4 _ _ f1)))
            generalize upd H6 p (.tup [.str r.reply, .ref ra, .ref c']) = H7 at k7 l7 dD ⊢
            have lk : ks.length = n := by
              have z := congrArg List.length f2
              rw [List.length_map, List.length_map, List.length_take] at z
              omega
            have k47 : Same H' H7 := k4.trans (k5.trans (k6.trans k7))
            have up : TK K H7 (upd H7 fl (.lst ((ks.map fun p => V.ref p.1) ++ [.ref p]))) := .put dD
            refine ⟨fl, _, _, rfl, rfl, dD, ?_, ⟨_, _, _, _, rfl⟩, fun b' o h => ?_, (t'.trans (.same k47)).trans up, ks ++ [(p, okey (vals ++ args) r)], ?_, ?_, fun y hy => ?_⟩
            · rw [List.length_map, lk]
              have h9 : 1000 ≤ sizeLine := by decide
              omega
            · rw [upd_ne (fun z => by rw [z, nf0] at h; cases h)]
              exact k47 _ _ (k' _ _ h)
            · rw [upd_same, List.map_append]
              rfl
            · rw [List.map_append, f2, List.take_succ, hm, List.map_append]
              rfl
            · rcases List.mem_append.mp hy with z | z
              · exact ⟨key_keep ((TK.same k47).trans up) _ _ (f3 y z).1, (f3 y z).2⟩
              · rw [List.mem_singleton.mp z]
                refine ⟨?_, okey_depth (vals ++ args) r⟩
                show Dp K _ (.ref p) (okey (vals ++ args) r).data
                have en : (okey (vals ++ args) r).data = .tuple [.str r.reply, .tuple (NestedKey.datas ((at_ (vals ++ args) r.res).map .num)), .tuple [.int r.after, .tuple (NestedKey.datas ((at_ (vals ++ args) r.ns).map .num))]] := by simp [okey, NestedKey.data, NestedKey.datas]
                rw [en]
                exact .tup (up _ _ (SqT.of l7)) (.cons (.str _) (.cons (.tup (up _ _ (sqT_of k7 (sqT_of k6 (sqT_of k5 hra)))) (nums_dp _)) (.cons (.tup (up _ _ (sqT_of k7 (SqT.of l6))) (.cons (.int _) (.cons (.tup (up _ _ (sqT_of k7 (sqT_of k6 hrb))) (nums_dp _)) .nil))) .nil)))
        · rintro σ H' ⟨⟨a, b, c, d, rfl⟩, k', t', ks, f1, f2, f3⟩
          have e' : (rows.map fun r => V.ref r.pr).length = rows.length := List.length_map ..
          rw [e', List.take_length] at f2
          have len : ks.length = rows.length := by
            have z := congrArg List.length f2
            rwa [List.length_map, List.length_map] at z
          have key : ∀ y ∈ ks, ∃ r ∈ rows, y.2 = okey (vals ++ args) r := fun y hy => by
            have z : y.2 ∈ rows.map (okey (vals ++ args)) := by
              rw [← f2]
              exact List.mem_map.mpr ⟨y, hy, rfl⟩
            obtain ⟨r, hr, er⟩ := List.mem_map.mp z
            exact ⟨r, hr, er.symm⟩
          refine ⟨_, rfl, ?_⟩
          refine set_sorted_tuple (ks := ks) (SqL.of f1) f3 (by rw [len]; exact c7) (fun a ha b hb => ?_) (fun a ha => ?_) fun H4 r L2 s4 m2 sub t2 => ?_
          · obtain ⟨r1, _, er⟩ := key a ha
            obtain ⟨r2, _, er2⟩ := key b hb
            rw [er, er2]
            exact okey_alike _ _ _ _
          · obtain ⟨r1, _, er⟩ := key a ha
            rw [er]
            exact okey_ne _ _
          · rw [f2] at m2
            exact q H4 r L2 (k'.trans s4) m2 (fun p hp => (f3.same s4) p (sub p hp)) t2
end
end Eh
set_option Elab.async false
set_option linter.all false
set_option maxRecDepth 100000
set_option maxHeartbeats 4000000
/-! f(k = v, ..): a def called by keywords alone. -/
namespace L2
open PySem PySem.Spec PyProof.Rows
theorem Fun.kbn {K : PySem.W.Frag} {x qual : Str} {st : Stmt} {f : Addr} {fd : FuncData} {ps ks : List Str} {g : List Value → List Value → List Value} {gV : List V → List V → List V} (F : Fun K x qual st f fd)
    (hrel : ∀ {vs : List V} {us : List Value} {zs : List V} {ws : List Value}, Vals vs us → Vals zs ws → Vals (gV vs zs) (g us ws))
    (h : ∀ (kV doc pm : Value) (an : Option Addr) (cdv ct : Value) (ws : List Value), ws.length = ks.length → bindArgs (PySem.W.fnOf x qual (defArgs st) (defBody st) (defScope st) .none kV doc pm an cdv ct) ⟨[], ks.zip ws⟩ = pure (ps.zip (g [] ws))) : KBn K fd ps 0 ks g gV := by
  obtain ⟨oc, od, kV, doc, pm, an, cdv, ct, osl, rfl, lk, hcd⟩ := F.ex
  refine ⟨fun s us ws X l1 l2 => ?_, hrel⟩
  obtain rfl : us = [] := List.length_eq_zero_iff.mp l1
  exact .of_eq (h kV doc pm an cdv ct ws l2)
def tCallKO (m : Nat) (sp : Sp) (gV : List V → List V → List V) (E : XK) (tk : TA) : TE := fun σ H Q => tk σ H fun zs H2 => zs.length = m ∧ sp (gV [] zs) H2 Q E
section
variable {X : Cx} {CX : CXT} {k : Nat} {f : Addr} {fd : FuncData} {ps ks : List Str} {sp : Sp} {E : XK} {x : Str} {p pos : Pos} {kws : List Keyword} {tk : TA} {g : List Value → List Value → List Value} {gV : List V → List V → List V}
theorem pe_callKO (F : FnOk X.prog X.w X.K X.mg X.base CX k f fd ps sp) (hr : Room k X.A) (hg : Gl X x) (hm : X.mg x = some (.ref f)) (hk : PySem.W.keepIn X.K (.ref f) = true) (hb : KBn X.K fd ps 0 ks g gV) (hx : Passes CX X E) (hkw : PK X kws tk)
    (hall : (backToKw pos (keywordEach kws X.env)).all (·.1.isSome) = true := by rfl) (hks : (backToKw pos (keywordEach kws X.env)).filterMap (·.1) = ks := by rfl) (hdb : (x == ("__debug__" : Str)) = false := by decide)
    (hpl : ((backTo pos (starEach [] X.env)).any (·.1) || (backToKw pos (keywordEach kws X.env)).any (·.1.isNone)) = false := by rfl) :
    PE X (.Call (.Name x p) [] kws pos) (tCallKO ks.length sp gV E tk) := by
  refine ⟨fun pins s σ H Q I h => ?_⟩
  refine wpAny_Call_Name_kw (ld_glob I hg hm ?_ hdb)
  refine PySem.W.callWith_KW0 (h₀ := X.base) I.ok.mod.kin hk hall ?_ hpl
  refine thn (hkw.run pos pins s σ H _ I h) fun ws s2 ⟨zs, H2, I2, rz, l2, q2⟩ => ⟨I2.kIn, ?_⟩
  rw [hks]
  exact run_fnN (us := []) (vs := []) F hr hb hx I2 .nil rz rfl l2 q2
end
end L2
set_option Elab.async false
set_option linter.all false
set_option maxRecDepth 100000
set_option maxHeartbeats 8000000
/-! how long repr's texts are -/
namespace Eh
open PySem PySem.Spec PyProof.Rows L2 NS
/-- fine, its cap at most n, its depth at most d -/
structure Sm (k : NestedKey) (n d : Nat) : Prop where
  fine : fine k.data = true
  cap : cap k.data ≤ n
  dep : k.data.depth ≤ d
theorem Sm.mono {k : NestedKey} {n d n' d' : Nat} (h : Sm k n d) (e : n ≤ n') (g : d ≤ d') : Sm k n' d' := ⟨h.fine, Nat.le_trans h.cap e, Nat.le_trans h.dep g⟩
theorem sm_all {n d : Nat} : ∀ {ks : List NestedKey}, (∀ k ∈ ks, Sm k n d) → fineAll (NestedKey.datas ks) = true ∧ capAll (NestedKey.datas ks) ≤ ks.length * (n + 2) ∧ PyData.depthAll (NestedKey.datas ks) ≤ d
  | [], _ => by rw [NestedKey.datas]; simp [fineAll, capAll, PyData.depthAll]
  | k :: ks, h => by
    obtain ⟨a, b, c⟩ := sm_all fun k hk => h k (List.mem_cons_of_mem _ hk)
    have s := h k List.mem_cons_self
    rw [NestedKey.datas, fineAll, capAll, PyData.depthAll, a, s.fine, List.length_cons, Nat.succ_mul]
    have := s.cap
    exact ⟨rfl, by omega, Nat.max_le.mpr ⟨s.dep, c⟩⟩
theorem sm_tup {ks : List NestedKey} {n d l : Nat} (h : ∀ k ∈ ks, Sm k n d) (hl : ks.length ≤ l) : Sm (.tup ks) (4 + l * (n + 2)) (d + 1) := by
  obtain ⟨a, b, c⟩ := sm_all h
  have m : ks.length * (n + 2) ≤ l * (n + 2) := Nat.mul_le_mul_right _ hl
  refine ⟨?_, ?_, ?_⟩
  · rw [NestedKey.data, L2.fine]; exact a
  · rw [NestedKey.data, L2.cap]; omega
  · rw [NestedKey.data, PyData.depth]; omega
theorem sm_num {i : Int} (h : i.natAbs < 2 ^ 66) : Sm (.num i) 70 0 := by
  refine ⟨?_, ?_, ?_⟩
  · rw [NestedKey.data, L2.fine]; exact decide_eq_true h
  · rw [NestedKey.data, L2.cap]; exact Nat.le_refl _
  · rw [NestedKey.data, PyData.depth]; exact Nat.le_refl _
theorem sm_nat {i : Nat} (h : i < 1000000) : Sm (.num i) 70 0 := sm_num (by
  rw [Int.natAbs_natCast]
  exact Nat.lt_trans h (by decide))
theorem sm_val {i : Int} (h : Val i) : Sm (.num i) 70 0 := sm_num (by
  have h0 := h.1
  have h1 := h.2
  have : (1000000000 : Nat) < 2 ^ 66 := by decide
  omega)
theorem sm_text {s : Str} (h : Lt 8 s) : Sm (.text s) 82 0 := by
  have l := h.len
  refine ⟨?_, ?_, ?_⟩
  · rw [NestedKey.data, L2.fine, List.all_eq_true]
    intro c hc
    have := h.2 c hc
    exact decide_eq_true (by omega)
  · rw [NestedKey.data, L2.cap]; omega
  · rw [NestedKey.data, PyData.depth]; exact Nat.le_refl _
theorem sm_nums {ns : List Nat} (h : ns.length ≤ 8) (g : ∀ n ∈ ns, n < 1000000) : Sm (numsK ns) 580 1 := (sm_tup (l := 8) (n := 70) (d := 0) (fun k hk => by
  obtain ⟨n, hn, rfl⟩ := List.mem_map.mp hk
  exact sm_nat (g n hn)) (by rw [List.length_map]; exact h)).mono (by decide) (by decide)
theorem sm_ints {ns : List Int} (h : ns.length ≤ 8) (g : ∀ n ∈ ns, Val n) : Sm (intsK ns) 580 1 := (sm_tup (l := 8) (n := 70) (d := 0) (fun k hk => by
  obtain ⟨n, hn, rfl⟩ := List.mem_map.mp hk
  exact sm_val (g n hn)) (by rw [List.length_map]; exact h)).mono (by decide) (by decide)
theorem sm_cr {sl : List Nat} {sz : Nat} {x : Cr} (h : TgOk sl sz x) (hs : sz < 1000000) (b : ∀ n ∈ sl, n ≤ 8) (ln : sl.length ≤ 8) : Sm (crK x) 1170 2 := (sm_tup (l := 2) (n := 580) (d := 1) (fun k hk => by
  have h1 := (List.getElem?_eq_some_iff.mp h.1).1
  simp only [List.mem_cons, List.not_mem_nil, or_false] at hk
  rcases hk with rfl | rfl
  · exact (sm_nat (by omega)).mono (by decide) (by decide)
  · exact sm_nums (b _ (List.mem_of_getElem? h.1)) fun n hn => Nat.lt_trans (h.2 n hn) hs) (Nat.le_refl _)).mono (by decide) (by decide)
theorem sm_out {sl : List Nat} {sz : Nat} {x : Outc} (h : OutOk sl sz x) (hs : sz < 1000000) (b : ∀ n ∈ sl, n ≤ 8) (ln : sl.length ≤ 8) : Sm (outK x) 2340 2 := (sm_tup (l := 4) (n := 580) (d := 1) (fun k hk => by
  have h1 : x.after < sl.length := (List.getElem?_eq_some_iff.mp h.tg.1).1
  have f := h.few
  simp only [List.mem_cons, List.not_mem_nil, or_false] at hk
  rcases hk with rfl | rfl | rfl | rfl
  · exact (sm_text h.lt).mono (by decide) (by decide)
  · exact sm_nums (by omega) fun n hn => Nat.lt_trans (h.res n hn) hs
  · exact (sm_nat (by omega)).mono (by decide) (by decide)
  · exact sm_nums (b _ (List.mem_of_getElem? h.tg.1)) fun n hn => Nat.lt_trans (h.tg.2 n hn) hs) (Nat.le_refl _)).mono (by decide) (by decide)
theorem sm_spec {S : ASpec} (ok : SpecOk S) : Sm (specK S) 2000000 7 := (sm_tup (l := 4) (n := 460000) (d := 6) (fun k hk => by
  simp only [List.mem_cons, List.not_mem_nil, or_false] at hk
  rcases hk with rfl | rfl | rfl | rfl
  · exact (sm_nums ok.sn fun n hn => Nat.lt_of_le_of_lt (ok.sv n hn) (by decide)).mono (by decide) (by decide)
  · refine (sm_tup (l := 8) (n := 180) (d := 1) (fun k hk => ?_) (by rw [List.length_map]; exact ok.on)).mono (by decide) (by decide)
    obtain ⟨o, ho, rfl⟩ := List.mem_map.mp hk
    obtain ⟨h1, h2⟩ := ok.oo o ho
    refine (sm_tup (l := 2) (n := 82) (d := 0) (fun k hk => ?_) (Nat.le_refl _)).mono (by decide) (by decide)
    simp only [List.mem_cons, List.not_mem_nil, or_false] at hk
    rcases hk with rfl | rfl
    · exact sm_text h1
    · exact (sm_nat (by omega)).mono (by decide) (by decide)
  · refine (sm_tup (l := 8) (n := 56300) (d := 4) (fun k hk => ?_) (by rw [List.length_map, ok.cl]; exact ok.sn)).mono (by decide) (by decide)
    obtain ⟨row, hrow, rfl⟩ := List.mem_map.mp hk
    obtain ⟨i, hi⟩ := List.mem_iff_getElem?.mp hrow
    obtain ⟨l1, l2⟩ := ok.cr i row hi
    refine (sm_tup (l := 8) (n := 7030) (d := 3) (fun k hk => ?_) (by rw [List.length_map, l1]; exact ok.on)).mono (by decide) (by decide)
    obtain ⟨os, hos, rfl⟩ := List.mem_map.mp hk
    obtain ⟨j, hj⟩ := List.mem_iff_getElem?.mp hos
    obtain ⟨_, o3, o4⟩ := l2 j os hj
    refine (sm_tup (l := 3) (n := 2340) (d := 2) (fun k hk => ?_) (by rw [List.length_map]; exact o3)).mono (by decide) (by decide)
    obtain ⟨o, ho, rfl⟩ := List.mem_map.mp hk
    obtain ⟨sz, ar, h1, h2, h3⟩ := o4 o ho
    have b1 := ok.sv sz (List.mem_of_getElem? h1)
    have b2 : ar ≤ 2 := by
      obtain ⟨q, hq, e⟩ := List.mem_map.mp (List.mem_of_getElem? h2)
      rw [← e]
      exact (ok.oo q hq).2
    exact sm_out h3 (by omega) ok.sv ok.sn
  · refine (sm_tup (l := 8) (n := 4700) (d := 3) (fun k hk => ?_) (by rw [List.length_map, ok.cv.len]; exact ok.sn)).mono (by decide) (by decide)
    obtain ⟨c, hc, rfl⟩ := List.mem_map.mp hk
    obtain ⟨i, hi⟩ := List.mem_iff_getElem?.mp hc
    refine (sm_tup (l := 4) (n := 1170) (d := 2) (fun k hk => ?_) (by rw [List.length_map]; exact ok.c4 c hc)).mono (by decide) (by decide)
    obtain ⟨x, hx, rfl⟩ := List.mem_map.mp hk
    obtain ⟨sz, h1, h2⟩ := ok.cv.ok i c hi x hx
    have := ok.sv sz (List.mem_of_getElem? h1)
    exact sm_cr h2 (by omega) ok.sv ok.sn) (Nat.le_refl _)).mono (by decide) (by decide)
theorem at_val {vals : List Int} (h : ∀ n ∈ vals, Val n) (ns : List Nat) : ∀ n ∈ at_ vals ns, Val n := fun n hn => by
  obtain ⟨i, _, rfl⟩ := List.mem_map.mp hn
  by_cases hi : i < vals.length
  · rw [List.getD_eq_getElem?_getD, List.getElem?_eq_getElem hi]
    exact h _ (List.getElem_mem hi)
  · rw [List.getD_eq_getElem?_getD, List.getElem?_eq_none (by omega)]
    exact ⟨by decide, by decide⟩
theorem at_len (vals : List Int) (ns : List Nat) : (at_ vals ns).length = ns.length := List.length_map ..
theorem sm_cky {sl : List Nat} {sz : Nat} {x : Cr} {vals : List Int} (h : TgOk sl sz x) (hv : ∀ n ∈ vals, Val n) (b : ∀ n ∈ sl, n ≤ 8) (ln : sl.length ≤ 8) : Sm (cky vals x) 1170 2 := (sm_tup (l := 2) (n := 580) (d := 1) (fun k hk => by
  have h1 := (List.getElem?_eq_some_iff.mp h.1).1
  simp only [List.mem_cons, List.not_mem_nil, or_false] at hk
  rcases hk with rfl | rfl
  · exact (sm_nat (by omega)).mono (by decide) (by decide)
  · exact sm_ints (by rw [at_len]; exact b _ (List.mem_of_getElem? h.1)) (at_val hv _)) (Nat.le_refl _)).mono (by decide) (by decide)
theorem sm_oky {sl : List Nat} {sz : Nat} {x : Outc} {vals : List Int} (h : OutOk sl sz x) (hv : ∀ n ∈ vals, Val n) (b : ∀ n ∈ sl, n ≤ 8) (ln : sl.length ≤ 8) : Sm (oky vals x) 3600 3 := (sm_tup (l := 3) (n := 1170) (d := 2) (fun k hk => by
  have h1 : x.after < sl.length := (List.getElem?_eq_some_iff.mp h.tg.1).1
  have f := h.few
  simp only [List.mem_cons, List.not_mem_nil, or_false] at hk
  rcases hk with rfl | rfl | rfl
  · exact (sm_text h.lt).mono (by decide) (by decide)
  · exact (sm_ints (by rw [at_len]; omega) (at_val hv _)).mono (by decide) (by decide)
  · exact (sm_cky (x := (x.after, x.ns)) h.tg hv b ln)) (Nat.le_refl _)).mono (by decide) (by decide)
theorem sm_cfg {md : Nat} {vals : List Int} (hm : md < 1000000) (hl : vals.length ≤ 8) (hv : ∀ n ∈ vals, Val n) : Sm (cfgK md vals) 1170 2 := (sm_tup (l := 2) (n := 580) (d := 1) (fun k hk => by
  simp only [List.mem_cons, List.not_mem_nil, or_false] at hk
  rcases hk with rfl | rfl
  · exact (sm_nat hm).mono (by decide) (by decide)
  · exact sm_ints hl hv) (Nat.le_refl _)).mono (by decide) (by decide)
theorem sm_canon {ks : List NestedKey} {n d l : Nat} (h : ∀ k ∈ ks, Sm k n d) (hl : ks.length ≤ l) : Sm (.tup (canon ks)) (4 + l * (n + 2)) (d + 1) := sm_tup (fun k hk => h k (mem_canon.mp hk)) (Nat.le_trans (canon_le ks) hl)
theorem Sm.shows {k : NestedKey} {n d : Nat} (h : Sm k n d) (hn : n ≤ 16000000) (hd : d ≤ 60) : Shows k.data := shows_of h.fine (Nat.le_trans h.cap hn) (Nat.le_trans h.dep hd)
theorem sm_list {ks : List NestedKey} {n d l : Nat} (h : ∀ k ∈ ks, Sm k n d) (hl : ks.length ≤ l) (hn : 4 + l * (n + 2) ≤ 16000000) (hd : d + 1 ≤ 60) : Shows (.list (NestedKey.datas ks)) := by
  obtain ⟨a, b, c⟩ := sm_all h
  have m : ks.length * (n + 2) ≤ l * (n + 2) := Nat.mul_le_mul_right _ hl
  refine shows_of ?_ ?_ ?_
  · rw [L2.fine]; exact a
  · rw [L2.cap]; omega
  · rw [PyData.depth]; omega
mutual
theorem key_lay : ∀ k : NestedKey, L2.fine k.data = true → k.data.canLay0 = true
  | .none, _ => by rw [NestedKey.data]; simp [PyData.canLay0]
  | .num i, _ => by rw [NestedKey.data]; simp [PyData.canLay0]
  | .text s, h => by
    rw [NestedKey.data, L2.fine, List.all_eq_true] at h
    rw [NestedKey.data, PyData.canLay0]
    exact all_ok.mpr fun c hc => of_decide_eq_true (h c hc)
  | .tup ks, h => by
    rw [NestedKey.data, L2.fine] at h
    rw [NestedKey.data, PyData.canLay0]
    exact keys_lay ks h
theorem keys_lay : ∀ ks : List NestedKey, L2.fineAll (NestedKey.datas ks) = true → PyData.canLayAll0 (NestedKey.datas ks) = true
  | [], _ => by rw [NestedKey.datas]; simp [PyData.canLayAll0]
  | k :: ks, h => by
    rw [NestedKey.datas, L2.fineAll, Bool.and_eq_true] at h
    rw [NestedKey.datas, PyData.canLayAll0, key_lay k h.1, keys_lay ks h.2]
    rfl
end
theorem sm_shaped {k : NestedKey} {n d : Nat} (h : Sm k n d) (hd : d ≤ 64) : SeqAt.shaped k.data = true := by
  unfold SeqAt.shaped
  have := h.dep
  rw [key_lay k h.fine, decide_eq_true (by omega)]
  rfl
end Eh
set_option Elab.async false
set_option linter.all false
set_option maxRecDepth 100000
set_option maxHeartbeats 4000000
/-! x not in t, t a tuple of data. -/
namespace L2
open PySem PySem.Spec PyProof.Rows
section
variable {X : Cx}
def rNotInT (K : PySem.W.Frag) : R2 := fun x y H Q => ∃ d ds, Dp K H x d ∧ Dp K H y (.tuple ds) ∧ SeqAt.shaped d = true ∧ SeqAt.shaped (.tuple ds) = true ∧ Q (.bl (!ds.any fun z => PyData.eqv z d)) H
theorem op_notInT (hu : X.A.units + 65 < cLine) : OpR X (compareOp .NotIn) (rNotInT X.K) := by
  intro pins s σ H x y v u Q I rx ry h
  obtain ⟨d, ds, hd, he, sd, se, q⟩ := h
  obtain ⟨as, r1⟩ := Dp.reads I d x v hd rx
  obtain ⟨bs, r2⟩ := Dp.reads I (.tuple ds) y u he ry
  have h8 : d.depth ≤ 64 := SeqAt.depth_of_shaped sd
  exact SeqAt.notIn_tuple_reads r2 r1 (SeqAt.canLay_of_shaped se) (SeqAt.canLay_of_shaped sd) (by
    have : min (PyData.depthAll ds) d.depth ≤ d.depth := Nat.min_le_right _ _
    omega) ⟨.bl _, H, I, rfl, q⟩
end
end L2
set_option Elab.async false
set_option linter.all false
set_option maxRecDepth 100000
set_option maxHeartbeats 16000000
/-! config_right -/
namespace Eh
open PySem PySem.Spec PyProof.Rows L2 NS
abbrev NCR : List Str := ["_law_deck_here", "_law_machine", "_law_here", "_law_kept", "_law_due", "_law_told", "_law_one", "_law_far", "_law_name", "_law_arity", "_law_taken", "_law_k", "_law_again"]
theorem scRight : FnScope NCR ["_law_deck_here", "_law_machine", "_law_here"] (defScope sRight) := ⟨rfl, rfl, rfl, by decide +kernel, rfl, by decide +kernel, by decide +kernel⟩
def F0 : XK := fun _ _ _ => False
def tIfP (K : PySem.W.Frag) : TS := tIfS (tAnd (tTest (tOp (rNeD K) (tOp (rIxT K) (tVar 2) (tC (.int 1))) (tTup tNil))) (tTest (tOp rEq (tCall spDraw [] F0 (tCons (tVar 0) (tCons (tC (.int 3)) tNil))) (tC (.int 0)))))
  (tAsg (tCB (rTupOf K) (tCons (tLc (iRng1 (tCons (tVar 9) tNil)) (gName 11) tYes (tCall (spPick K) [] F0 (tCons (tVar 0) (tCons (tOp (rIxT K) (tVar 2) (tC (.int 1))) tNil))) [11]) tNil)) (gName 10)) tNext
section
variable {K : PySem.W.Frag}
theorem ints_lay : ∀ l : List Int, PyData.canLayAll0 (NestedKey.datas (l.map .num)) = true ∧ PyData.depthAll (NestedKey.datas (l.map .num)) = 0
  | [] => by rw [List.map_nil, NestedKey.datas]; simp [PyData.canLayAll0, PyData.depthAll]
  | n :: l => by
    obtain ⟨a, b⟩ := ints_lay l
    rw [List.map_cons, NestedKey.datas, NestedKey.data, PyData.canLayAll0, PyData.depthAll, a, b]
    simp [PyData.canLay0, PyData.depth]
theorem ints_shaped (l : List Int) : SeqAt.shaped (intsK l).data = true := by
  obtain ⟨a, b⟩ := ints_lay l
  unfold SeqAt.shaped
  rw [intsK, NestedKey.data, PyData.canLay0, a, PyData.depth, b]
  rfl
theorem nil_shapedT : SeqAt.shaped (.tuple []) = true := by decide +kernel
theorem cfg_inv {H : Hp} {v : V} {md : Nat} {vals : List Int} (h : Ky K H v (cfgK md vals)) : ∃ cf va, v = .ref cf ∧ SqT K H cf [.int md, .ref va] ∧ SqT K H va (vals.map V.int) := by
  obtain ⟨cf, a, b, rfl, tc, a1, b1⟩ := Ky.tup2 h
  rw [a1.num_inv] at tc
  obtain ⟨va, rfl, tv⟩ := intsK_inv b1
  exact ⟨cf, va, rfl, tc, tv⟩
theorem ifP_ok {H : Hp} {p c : Addr} {m ar md : Nat} {v wv u : V} {vals args : List Int} {o3 o4 o5 o6 o7 o8 o11 o12 : Option V} {D : Ends} (dk : Deck H p c m) (hm : m < 880000) (hw : Ky K H wv (cfgK md vals)) (hv8 : vals.length ≤ 8) (hv : ∀ n ∈ vals, Val n) (har : ar ≤ 8)
    (hu : Ky K H u (intsK args)) (la : args.length = ar) (va : ∀ n ∈ args, Val n)
    (q : ∀ (H' : Hp) (u' : V) (args' : List Int) (o11' : Option V), Kp p c H H' → Deck H' p c (m + 9) → Ky K H' u' (intsK args') → args'.length = ar → (∀ n ∈ args', Val n) → D.nx [some (.ref p), some v, some wv, o3, o4, o5, o6, o7, o8, some (.int ar), some u', o11', o12] H') :
    tIfP K D [some (.ref p), some v, some wv, o3, o4, o5, o6, o7, o8, some (.int ar), some u, o11, o12] H := by
  obtain ⟨cf, vaA, rfl, tc, tv⟩ := cfg_inv hw
  refine ⟨_, rfl, cf, _, ((1 : Nat) : Int), _, rfl, rfl, tc, atI_nat (j := 1) rfl, by show 0 ≤ sizeLine; decide, fun te nte => ?_⟩
  have s1 : Same H (upd H te (.tup [])) := same_upd nte
  have e1 : (upd H te (.tup [])) te = some (.tup []) := upd_same
  have d1 := dk.of_same s1
  generalize upd H te (.tup []) = H1 at s1 e1 d1 ⊢
  refine ⟨(intsK vals).data, .tuple [], (Ky.tup (sqT_of s1 tv) (Kys.nums vals)), .tup (SqT.of e1) .nil, ints_shaped vals, nil_shapedT, _, rfl, ?_⟩
  have same : D.nx [some (.ref p), some v, some (.ref cf), o3, o4, o5, o6, o7, o8, some (.int ar), some u, o11, o12] H1 :=
    q H1 u args o11 (.of_same s1) (d1.mono (by omega)) (hu.tk (.same s1)) la va
  cases vals with
  | nil => exact iteF (iteF same)
  | cons n0 vals =>
    have ne : PyData.eqv (intsK (n0 :: vals)).data (.tuple []) = false := by
      rw [intsK, NestedKey.data, List.map_cons, NestedKey.datas]
      simp [PyData.eqv, PyData.eqvAll]
    rw [ne]
    refine iteT ?_
    refine ⟨_, rfl, p, c, m, 3, rfl, d1, by omega, by decide, by decide, fun H2 r k2 d2 r0 r1 => ⟨rfl, _, rfl, ?_⟩⟩
    refine ite2 (fun _ => ?_) fun _ => ?_
    · refine ⟨_, rfl, (ar : Int), rfl, by omega, by omega, fun Dl hDl => ?_⟩
      refine cd_range (K := K) (j := 11) (m := m + 1) (d := 1) (n := ar) (Pk := fun k => ∃ s : Int, k = .num s ∧ Val s) d2 hDl (by omega) (fun i H' Q' hi kk dd qq => ?_) fun H3 vs ks k3 d3 e3 y3 l3 p3 => ?_
      · have t' : TK K H H' := (TK.same s1).trans ((TK.kp d1 k2).trans (.kp d2 kk))
        have tv' := t' _ _ tv
        refine ⟨_, rfl, _, rfl, cf, _, ((1 : Nat) : Int), _, rfl, rfl, t' _ _ tc, atI_nat (j := 1) rfl, p, c, vaA, _, _, rfl, dd, by omega, .inr tv', by rw [List.length_map]; exact Nat.succ_pos _, by rw [List.length_map]; omega, fun H4 i4 v4 k4 d4 h4 => ?_⟩
        obtain ⟨z, hz, rfl⟩ := get_ints h4
        exact qq _ _ (.num z) k4 (by rw [Nat.succ_mul, ← Nat.add_assoc]; exact d4) (.num z) ⟨z, rfl, hv z (List.mem_of_getElem? hz)⟩
      · obtain ⟨ns, rfl, hns⟩ := ints_of p3
        have ln : ns.length = ar := by rw [List.length_map] at l3; exact l3
        refine ⟨Dl, _, rfl, .inl ⟨SqL.of e3, fun t nt => ?_⟩⟩
        have s4 := same_upd (o := .tup vs) nt
        exact q _ _ ns _ ((((Kp.of_same s1).trans k2).trans k3).trans (.of_same s4)) ((d3.of_same s4).mono (by omega)) (.tup (SqT.of upd_same) (y3.tk (.new nt))) ln hns
    · exact q H2 u args o11 ((Kp.of_same s1).trans k2) (d2.mono (by omega)) (hu.tk ((TK.same s1).trans (.kp d1 k2))) la va
end
end Eh
set_option Elab.async false
set_option linter.all false
set_option maxRecDepth 100000
set_option maxHeartbeats 16000000
/-! config_right, the def -/
namespace Eh
open PySem PySem.Spec PyProof.Rows L2 NS
theorem vals_getD : ∀ {zs : List V} {ws : List Value} (i : Nat), Vals zs ws → RelV (zs.getD i .non) (ws.getD i .none)
  | _, _, i, .nil => by cases i <;> exact rfl
  | _, _, 0, .cons r _ => r
  | _, _, i + 1, .cons _ t => vals_getD i t
section
variable {P : Program} {w : World} {K : PySem.W.Frag} {mg : Str → Option Value} {base : Heap}
def spRight (K : PySem.W.Frag) : Sp := fun us H Q _ => ∃ (p c : Addr) (m md : Nat) (v wv : V) (S : ASpec) (vals : List Int), us = [.ref p, v, wv] ∧ Deck H p c m ∧ m < 850000 ∧ Ky K H v (specK S) ∧ SpecOk S ∧ Ky K H wv (cfgK md vals) ∧ S.slots[md]? = some vals.length ∧ (∀ n ∈ vals, Val n) ∧
  ∀ H', Kp p c H H' → Deck H' p c (m + 400) → Q (.bl true) H'
def kvR (zs : List V) (l : List Nat) : List V := l.map fun i => zs.getD i .non
theorem kbn2 {x qual : Str} {st : Stmt} {f : Addr} {fd : FuncData} (F : Fun K x qual st f fd) (l : List Nat) {ps ks : List Str}
    (h : ∀ (kV doc pm : Value) (an : Option Addr) (cdv ct : Value) (ws : List Value), ws.length = ks.length → bindArgs (PySem.W.fnOf x qual (defArgs st) (defBody st) (defScope st) .none kV doc pm an cdv ct) ⟨[], ks.zip ws⟩ = pure (ps.zip (l.map fun i => ws.getD i .none))) :
    KBn K fd ps 0 ks (fun _ ws => l.map fun i => ws.getD i .none) (fun _ zs => kvR zs l) := by
  refine F.kbn (fun {vs us zs ws} _ r => ?_) h
  unfold kvR
  clear h
  induction l with
  | nil => exact .nil
  | cons i l ih => exact .cons (vals_getD i r) ih
theorem ok_right {k : Nat} {f fD fP fH fC fO fc fo : Addr} {fd fdD fdP fdH fdC fdO fdc fdo : FuncData} {gc go : List Value → List Value → List Value} (F : Fun K "_law_config_right" "_law_config_right" sRight f fd)
    (GD : FnOk P w K mg base CX0 k fD fdD ["_law_deck_here", "_law_many"] spDraw) (kD : PySem.W.keepIn K (.ref fD) = true) (bD : Binds K fdD ["_law_deck_here", "_law_many"] []) (gD : mg "_law_draw" = some (.ref fD))
    (GP : FnOk P w K mg base CX0 k fP fdP ["_law_deck_here", "_law_some"] (spPick K)) (kP : PySem.W.keepIn K (.ref fP) = true) (bP : Binds K fdP ["_law_deck_here", "_law_some"] []) (gP : mg "_law_pick" = some (.ref fP))
    (GH : FnOk P w K mg base CX0 k fH fdH ["_law_deck_here", "_law_many", "_law_way"] (spHeld K)) (kH : PySem.W.keepIn K (.ref fH) = true) (bH : Binds K fdH ["_law_deck_here", "_law_many", "_law_way"] []) (gH : mg "_law_held" = some (.ref fH))
    (GC : FnOk P w K mg base CX0 k fC fdC ["_law_machine", "_law_here"] (spCrash K)) (kC : PySem.W.keepIn K (.ref fC) = true) (bC : Binds K fdC ["_law_machine", "_law_here"] []) (gC : mg "_law_crashed" = some (.ref fC))
    (GO : FnOk P w K mg base CX0 k fO fdO ["_law_machine", "_law_here", "_law_name", "_law_taken"] (spOut K)) (kO : PySem.W.keepIn K (.ref fO) = true) (bO : Binds K fdO ["_law_machine", "_law_here", "_law_name", "_law_taken"] []) (gO : mg "_law_outcomes" = some (.ref fO))
    (Gc : FnOk P w K mg base CX0 k fc fdc ["spec", "config"] (spCrash K)) (kc : PySem.W.keepIn K (.ref fc) = true) (bc : Binds K fdc ["spec", "config"] []) (gc' : mg "crash_results" = some (.ref fc)) (nc : KBn K fdc ["spec", "config"] 0 ["config", "spec"] gc (fun _ zs => kvR zs [1, 0]))
    (Go : FnOk P w K mg base CX0 k fo fdo ["spec", "config", "op", "arguments"] (spOut K)) (ko : PySem.W.keepIn K (.ref fo) = true) (bo : Binds K fdo ["spec", "config", "op", "arguments"] []) (go' : mg "outcomes_at" = some (.ref fo)) (no : KBn K fdo ["spec", "config", "op", "arguments"] 0 ["arguments", "op", "config", "spec"] go (fun _ zs => kvR zs [3, 2, 1, 0]))
    (mr : mg "range" = none) (mt : mg "tuple" = none) (mp : mg "repr" = none) :
    FnG P w K mg base CX0 (k + 1) f fd ["_law_deck_here", "_law_machine", "_law_here"] (spRight K) := by
  refine F.okG scRight (fun us H Q E h => ?_) (fun cdv A outer s H us Q E hr hgd h => ?_)
  · obtain ⟨p, c, m, md, v, wv, S, vals, rfl, _⟩ := h
    rfl
  · have hu : (cxOf CX0 P w K mg base NCR "_law_config_right" (defScope sRight) f cdv A outer s H E).nox.A.units + 64 < cLine := hr.units
    have hu5 : (cxOf CX0 P w K mg base NCR "_law_config_right" (defScope sRight) f cdv A outer s H E).nox.A.units + 65 < cLine := by
      have z := hr.un
      show (A.deeper _).units + 65 < cLine
      omega
    have hgx : (cxOf CX0 P w K mg base NCR "_law_config_right" (defScope sRight) f cdv A outer s H E).nox.A.guards = some [] := guards_deeper hgd
    obtain ⟨p, c, m, md, v, wv, S, vals, rfl, dk, hm, hv, ok, hw, hl, hva, q⟩ := h
    refine ⟨_, pss_cons (ps_asg (pe_tup (pa_cons (pe_callB (call_reprD (by exact hgx) (by exact hu)) (by rfl) mp boot_repr (pa_cons (pe_tup (pa_cons (pv 1) (pa_cons (pv 2) pa_nil))) pa_nil)) (pa_cons (pe_call GC hr (by rfl) gC kC bC .nil pass0 (pa_cons (pv 1) (pa_cons (pv 2) pa_nil))) pa_nil)))
          (pg_tup rfl (pgs_cons (pg_name (i := 3) scRight.nd rfl (.inl rfl)) (pgs_cons (pg_name (i := 4) scRight.nd rfl (.inr rfl)) pgs_nil))))
      (pss_cons (ps_set (i := 5) scRight.nd rfl (.inl rfl) (pe_lst (pa_cons (pe_call Gc hr (by rfl) gc' kc bc .nil pass0 (pa_cons (pv 1) (pa_cons (pv 2) pa_nil))) (pa_cons (pe_callKO Gc hr (by rfl) gc' kc nc pass0 (pk_cons (pv 2) (pk_cons (pv 1) pk_nil))) pa_nil))))
      (pss_cons (ps_if (pt_cmpR op_ne (pe_callB (call_reprD (by exact hgx) (by exact hu)) (by rfl) mp boot_repr (pa_cons (pv 5) pa_nil)) (pe_callB (call_reprD (by exact hgx) (by exact hu)) (by rfl) mp boot_repr (pa_cons (pe_lst (pa_cons (pv 4) (pa_cons (pv 4) pa_nil))) pa_nil)) (nomark _)) (pss_one (ps_ret pe_bl)) pss_nil)
      (pss_cons (ps_for PassesOwn.never rfl (pi_tup (pv 4)) (pg_name (i := 6) scRight.nd rfl (.inl rfl)) (pss_one (ps_if (pt_cmpR (op_neD hu)
          (pe_lc (own := [("_law_far", 7)]) (g := gName 7) (tt := tTest (tOp (rNotInT K) (tVar 7) (tVar 4))) (te := tVar 7) rfl scRight.nd (pi_tup (pe_call Gc hr (by rfl) gc' kc bc .nil pass0 (pa_cons (pv 1) (pa_cons (pv 6) pa_nil)))) (blkOk_by (N := NCR) (sc := defScope sRight) (by decide +kernel))
            (fun _ _ _ _ _ => pg_name (i := 7) scRight.nd rfl (.inl rfl)) (fun _ _ _ _ _ => pts_one (pt_cmpR (op_notInT hu5) (pv 7) (pv 4) rfl)) (fun _ _ _ _ _ => pv 7))
          (pe_lst pa_nil) (nomark _)) (pss_one (ps_ret pe_bl)) pss_nil)))
      (pss_cons (ps_for PassesOwn.never rfl (pi_tup (pe_ix ix_tup (pv 1) pe_int (fun _ _ => rfl))) (pg_tup rfl (pgs_cons (pg_name (i := 8) scRight.nd rfl (.inr rfl)) (pgs_cons (pg_name (i := 9) scRight.nd rfl (.inl rfl)) pgs_nil)))
          (pss_cons (ps_set (i := 10) scRight.nd rfl (.inr rfl) (pe_call GH hr (by rfl) gH kH bH .nil pass0 (pa_cons (pv 0) (pa_cons (pv 9) (pa_cons (pe_call GD hr (by rfl) gD kD bD .nil pass0 (pa_cons (pv 0) (pa_cons pe_int pa_nil))) pa_nil)))))
          (pss_cons (psAs (tIfP K) (ps_if (PW.pt (pw_and (pt_cmpR (op_neD hu) (pe_ix ix_tup (pv 2) pe_int (fun _ _ => rfl)) (pe_tup pa_nil) (nomark _)) (pw_and1 (pt_cmpR op_eq (pe_call GD hr (by rfl) gD kD bD .nil pass0 (pa_cons (pv 0) (pa_cons pe_int pa_nil))) pe_int (nomark _)))))
              (pss_one (ps_set (i := 10) scRight.nd rfl (.inr rfl) (pe_callTy call_tuple_of (by rfl) mt (by decide +kernel) (pa_cons
                (pe_lc (own := [("_law_k", 11)]) (g := gName 11) (tt := tYes) (te := tCall (spPick K) [] F0 (tCons (tVar 0) (tCons (tOp (rIxT K) (tVar 2) (tC (.int 1))) tNil))) rfl scRight.nd (pi_range1 rfl mr (pa_cons (pv 9) pa_nil)) (blkOk_by (N := NCR) (sc := defScope sRight) (by decide +kernel))
                  (fun _ _ _ _ _ => pg_name (i := 11) scRight.nd rfl (.inl rfl)) (fun _ _ _ _ _ => pts_nil) (fun _ _ _ _ _ => pe_call GP hr (by rfl) gP kP bP .nil pass0 (pa_cons (pv 0) (pa_cons (pe_ix ix_tup (pv 2) pe_int (fun _ _ => rfl)) pa_nil)))) pa_nil)))) pss_nil))
          (pss_cons (ps_set (i := 4) scRight.nd rfl (.inr rfl) (pe_call GO hr (by rfl) gO kO bO .nil pass0 (pa_cons (pv 1) (pa_cons (pv 2) (pa_cons (pv 8) (pa_cons (pv 10) pa_nil))))))
          (pss_cons (ps_setLc (i := 5) (own := [("_law_again", 12)]) (g := gName 12) (tt := tYes) (te := tCall (spOut K) [] F0 (tCons (tVar 1) (tCons (tVar 2) (tCons (tVar 8) (tCons (tVar 10) tNil))))) rfl scRight.nd rfl rfl (sw_true rfl rfl rfl (by decide +kernel)) (pi_range1 rfl mr (pa_cons pe_int pa_nil)) (blkOk_by (N := NCR) (sc := defScope sRight) (by decide +kernel))
              (fun _ _ _ _ _ => pg_name (i := 12) scRight.nd rfl (.inl rfl)) (fun _ _ _ _ _ => pts_nil) (fun _ _ _ _ _ => pe_call Go hr (by rfl) go' ko bo .nil pass0 (pa_cons (pv 1) (pa_cons (pv 2) (pa_cons (pv 8) (pa_cons (pv 10) pa_nil))))))
          (pss_cons (ps_expr (pe_bm PySem.F.plainAttrs_list PySem.F.slot_list_append PySem.F.type_list_append mt_append (pv 5) (pa_cons (pe_callKO Go hr (by rfl) go' ko no pass0 (pk_cons (pv 10) (pk_cons (pv 8) (pk_cons (pv 2) (pk_cons (pv 1) pk_nil))))) pa_nil)))
          (pss_one (ps_if (pt_cmpR op_ne (pe_callB (call_reprD (by exact hgx) (by exact hu)) (by rfl) mp boot_repr (pa_cons (pv 5) pa_nil)) (pe_callB (call_reprD (by exact hgx) (by exact hu)) (by rfl) mp boot_repr (pa_cons (pe_op op_rep (pe_lst (pa_cons (pv 4) pa_nil)) pe_int) pa_nil)) (nomark _)) (pss_one (ps_ret pe_bl)) pss_nil))))))))
      (pss_one (ps_ret (pe_cmpR op_eq (pe_callB (call_reprD (by exact hgx) (by exact hu)) (by rfl) mp boot_repr (pa_cons (pe_tup (pa_cons (pv 1) (pa_cons (pv 2) pa_nil))) pa_nil)) (pv 3) (nomark _)))))))), ?_⟩
    have md8 : md < S.slots.length := (List.getElem?_eq_some_iff.mp hl).1
    have sn := ok.sn
    have vl8 : vals.length ≤ 8 := ok.sv _ (List.mem_of_getElem? hl)
    have smS : Sm (.tup [specK S, cfgK md vals]) 5000000 8 := (sm_tup (l := 2) (n := 2000000) (d := 7) (fun k hk => by
      simp only [List.mem_cons, List.not_mem_nil, or_false] at hk
      rcases hk with rfl | rfl
      · exact sm_spec ok
      · exact (sm_cfg (by omega) vl8 hva).mono (by decide) (by decide)) (Nat.le_refl _)).mono (by decide) (by decide)
    obtain ⟨cc, hcc⟩ : ∃ cc, S.crs[md]? = some cc := ⟨_, List.getElem?_eq_getElem (by rw [ok.cv.len]; exact md8)⟩
    have c4 : cc.length ≤ 4 := ok.c4 cc (List.mem_of_getElem? hcc)
    have tgc : ∀ x ∈ cc, TgOk S.slots vals.length x := fun x hx => by
      obtain ⟨sz, h1, h2⟩ := ok.cv.ok md cc hcc x hx
      rw [hl] at h1
      cases h1
      exact h2
    have smD : Sm (.tup (canon (cc.map (cky vals)))) 5000 3 := (sm_canon (l := 4) (n := 1170) (d := 2) (fun k hk => by
      obtain ⟨x, hx, rfl⟩ := List.mem_map.mp hk
      exact sm_cky (tgc x hx) hva ok.sv ok.sn) (by rw [List.length_map]; exact c4)).mono (by decide) (by decide)
    generalize hdk : (NestedKey.tup (canon (cc.map (cky vals)))) = dueK at smD
    -- kept, due
    refine ⟨_, rfl, _, rfl, by show 2 ≤ sizeLine; decide, fun t1 nt1 => ?_⟩
    have s1 : Same H (upd H t1 (.tup [v, wv])) := same_upd nt1
    have e1 : (upd H t1 (.tup [v, wv])) t1 = some (.tup [v, wv]) := upd_same
    generalize upd H t1 (.tup [v, wv]) = H1 at s1 e1 ⊢
    refine ⟨.ref t1, (NestedKey.tup [specK S, cfgK md vals]).data, rfl, Ky.tup (SqT.of e1) (.cons (hv.tk (.same s1)) (.one (hw.tk (.same s1)))), smS.shows (by decide) (by decide), ?_⟩
    refine ⟨_, rfl, _, rfl, ?_⟩
    dsimp only [tNil]
    refine crash_use (hv.tk (.same s1)) ok (hw.tk (.same s1)) hl hcc fun H2 r2 s2 y2 => ?_
    rw [hdk] at y2
    refine ⟨by show 2 ≤ sizeLine; decide, fun t2 nt2 => ⟨t2, _, rfl, SqT.of upd_same, rfl, _, _, rfl, _, _, rfl, rfl, ?_⟩⟩
    have s3 := same_upd (o := .tup [V.str (NestedKey.tup [specK S, cfgK md vals]).data.shown, r2]) nt2
    have s03 := s1.trans (s2.trans s3)
    have y3 := y2.tk (.same (K := K) s3)
    have d3 := dk.of_same s03
    have k03 : Kp p c H _ := .of_same s03
    have t03 : TK K H _ := .same s03
    generalize htx : (NestedKey.tup [specK S, cfgK md vals]).data.shown = txt at s3 s03 y3 d3 k03 t03 ⊢
    show tSeq _ _ _ _ (upd H2 t2 (.tup [V.str txt, r2]))
    generalize upd H2 t2 (.tup [V.str txt, r2]) = H3 at y3 d3 k03 t03 ⊢
    clear s3 s03 s2 y2 s1 e1
    -- told
    refine ⟨_, rfl, _, rfl, ?_⟩
    dsimp only [tNil]
    refine crash_use (hv.tk t03) ok (hw.tk t03) hl hcc fun H4 r4 s4 y4 => ?_
    rw [hdk] at y4
    have t04 : TK K H H4 := t03.trans (.same s4)
    refine ⟨_, rfl, _, rfl, rfl, ?_⟩
    dsimp only [tNil]
    refine crash_use (hv.tk t04) ok (hw.tk t04) hl hcc fun H5 r5 s5 y5 => ?_
    rw [hdk] at y5
    refine ⟨by show 2 ≤ sizeLine; decide, fun tl ntl => ?_⟩
    have s6 : Same H5 (upd H5 tl (.lst [r4, r5])) := same_upd ntl
    have e6 : (upd H5 tl (.lst [r4, r5])) tl = some (.lst [r4, r5]) := upd_same
    have s36 := s4.trans (s5.trans s6)
    have y6a := y4.tk (.same (K := K) (s5.trans s6))
    have y6b := y5.tk (.same (K := K) s6)
    have y6d := y3.tk (.same (K := K) s36)
    have d6 := d3.of_same s36
    have k06 := k03.trans (.of_same s36)
    have t06 := t03.trans (.same s36)
    show tSeq _ _ _ _ (upd H5 tl (.lst [r4, r5]))
    generalize upd H5 tl (.lst [r4, r5]) = H6 at e6 y6a y6b y6d d6 k06 t06 ⊢
    clear s36 s6 y5 s5 t04 y4 s4 t03 k03 d3 y3
    have sm2 : Shows (.list (NestedKey.datas [dueK, dueK])) := sm_list (l := 2) (n := 5000) (d := 3) (fun k hk => by
      simp only [List.mem_cons, List.not_mem_nil, or_false] at hk
      rcases hk with rfl | rfl <;> exact smD) (Nat.le_refl _) (by decide) (by decide)
    refine ⟨_, rfl, .ref tl, .list (NestedKey.datas [dueK, dueK]), rfl, .lst (SqL.of e6) (Kys.cons y6a (.one y6b)), sm2, _, rfl, _, rfl, by show 2 ≤ sizeLine; decide, fun l2 nl2 => ?_⟩
    have s7 : Same H6 (upd H6 l2 (.lst [r2, r2])) := same_upd nl2
    have e7 : (upd H6 l2 (.lst [r2, r2])) l2 = some (.lst [r2, r2]) := upd_same
    have y7d := y6d.tk (.same (K := K) s7)
    have d7 := d6.of_same s7
    have k07 := k06.trans (.of_same s7)
    have t07 := t06.trans (.same s7)
    generalize upd H6 l2 (.lst [r2, r2]) = H7 at s7 e7 y7d d7 k07 t07 ⊢
    refine ⟨.ref l2, .list (NestedKey.datas [dueK, dueK]), rfl, .lst (SqL.of e7) (Kys.cons y7d (.one y7d)), sm2, rfl, _, rfl, iteNS rfl ?_⟩
    clear e7 s7 e6 y6a y6b y6d d6 k06 t06
    -- for one in due
    subst hdk
    obtain ⟨da, dvs, rfl, dt, dy⟩ := y7d.tup_inv
    refine ⟨_, rfl, da, rfl, ⟨_, dt⟩, ?_⟩
    refine for_tup (K := K) (a := da) (xs := dvs) (fun n σ H' => (∃ o6 o7 o8 o9 o10 o11 o12, σ = [some (.ref p), some v, some wv, some (.str txt), some (.ref da), some (.ref tl), o6, o7, o8, o9, o10, o11, o12]) ∧ Same H7 H') ⟨⟨_, _, _, _, _, _, _, rfl⟩, Same.refl _⟩ (fun n σ H' _ z => sqT_of z.2 dt) ?_ ?_
    · rintro n x σ H' hx ⟨⟨o6, o7, o8, o9, o10, o11, o12, rfl⟩, s8⟩
      obtain ⟨kx, hkx, hyx⟩ := (dy.tk (.same s8)).at hx
      obtain ⟨cx, hcx, rfl⟩ := List.mem_map.mp (mem_canon.mp (List.mem_of_getElem? hkx))
      have tx := tgc cx hcx
      have t0 : TK K H H' := t07.trans (.same s8)
      have lx : S.slots[cx.1]? = some (at_ vals cx.2).length := by rw [at_len]; exact tx.1
      obtain ⟨cd, hcd⟩ : ∃ cd, S.crs[cx.1]? = some cd := ⟨_, List.getElem?_eq_getElem (by rw [ok.cv.len]; exact (List.getElem?_eq_some_iff.mp lx).1)⟩
      refine ⟨_, rfl, _, rfl, ?_⟩
      dsimp only [tNil]
      refine crash_use (hv.tk t0) ok (md := cx.1) (vals := at_ vals cx.2) hyx lx hcd fun H9 r9 s9 y9 => ?_
      obtain ⟨ra, rvs, rfl, rt, ry⟩ := y9.tup_inv
      refine ⟨ra, rfl, ⟨_, rt⟩, fun D hD => ?_⟩
      refine lc_tup (K := K) (xs := rvs) (fun i H' => Same H9 H' ∧ H' D = some (.lst [])) ⟨same_upd hD, upd_same⟩ (fun i H' _ z => sqT_of z.1 rt) ?_ ?_
      · rintro i y H10 hy ⟨s10, e10⟩
        obtain ⟨ky, hky, hyy⟩ := (ry.tk (.same s10)).at hy
        obtain ⟨cy, hcy, rfl⟩ := List.mem_map.mp (mem_canon.mp (List.mem_of_getElem? hky))
        obtain ⟨szy, hsy, ty⟩ := ok.cv.ok cx.1 cd hcd cy hcy
        have ekey : cky (at_ vals cx.2) cy = cky vals (thenC cx cy) := by
          have e : at_ (at_ vals cx.2) cy.2 = at_ vals (cy.2.map fun n => cx.2.getD n 0) := by
            unfold at_
            rw [List.map_map]
            refine List.map_congr_left fun n hn => ?_
            have ln := ty.2 n hn
            rw [tx.1] at hsy
            cases hsy
            show ((cx.2.map fun n => vals.getD n 0).getD n 0) = vals.getD (cx.2.getD n 0) 0
            rw [List.getD_eq_getElem?_getD, List.getElem?_map, List.getElem?_eq_getElem ln, List.getD_eq_getElem?_getD (l := cx.2), List.getElem?_eq_getElem ln]
            rfl
          unfold cky
          rw [e]
          rfl
        have hmem : cky (at_ vals cx.2) cy ∈ canon (cc.map (cky vals)) := by
          rw [ekey]
          exact mem_canon.mpr (List.mem_map.mpr ⟨thenC cx cy, ok.cc md cc hcc cx hcx cd hcd cy hcy, rfl⟩)
        have dy10 : Ky K H10 (.ref da) (.tup (canon (cc.map (cky vals)))) := Ky.tup (sqT_of ((s8.trans s9).trans s10) dt) (dy.tk (.same ((s8.trans s9).trans s10)))
        refine ⟨rfl, ?_⟩
        refine ⟨_, rfl, _, rfl, (cky (at_ vals cx.2) cy).data, NestedKey.datas (canon (cc.map (cky vals))), hyy, ?_, ?_, ?_, _, rfl, ?_⟩
        · have z : Dp K H10 (.ref da) (NestedKey.tup (canon (cc.map (cky vals)))).data := dy10
          rw [NestedKey.data] at z
          exact z
        · exact sm_shaped (sm_cky ty (at_val hva cx.2) ok.sv ok.sn) (by decide)
        · have z := sm_shaped smD (by decide)
          rw [NestedKey.data] at z
          exact z
        · rw [keys_any.mpr hmem]
          exact iteF ⟨s10, e10⟩
      · rintro H10 ⟨s10, e10⟩
        refine ⟨by show 0 ≤ sizeLine; decide, fun ln nln => ?_⟩
        have s11 : Same H10 (upd H10 ln (.lst [])) := same_upd nln
        refine ⟨.list [], .list [], .lst (SqL.of (s11 _ _ e10)) .nil, .lst (SqL.of upd_same) .nil, nil_shaped, nil_shaped, _, rfl, ?_⟩
        exact iteF ⟨⟨_, _, _, _, _, _, _, rfl⟩, s8.trans (s9.trans (s10.trans s11))⟩
    · rintro σ H8 ⟨⟨o6, o7, o8, o9, o10, o11, o12, rfl⟩, s8⟩
      have hv0 := hv
      obtain ⟨sp, x0, x1, x2, x3, rfl, st, y0, y1, y2, y3⟩ := Ky.tup4 hv0
      obtain ⟨oa, ovs, rfl, to, yo⟩ := y1.tup_inv
      obtain ⟨row, hrow⟩ : ∃ row, S.cases[md]? = some row := ⟨_, List.getElem?_eq_getElem (by rw [ok.cl]; exact md8)⟩
      obtain ⟨lrow, crow⟩ := ok.cr md row hrow
      have k08 : Kp p c H H8 := k07.trans (.of_same s8)
      have t08 : TK K H H8 := t07.trans (.same s8)
      have d8 := d7.of_same s8
      refine ⟨_, rfl, sp, _, ((1 : Nat) : Int), _, rfl, rfl, t08 _ _ st, atI_nat (j := 1) rfl, oa, rfl, ⟨_, t08 _ _ to⟩, ?_⟩
      have lovs : ovs.length = S.ops.length := by rw [yo.length, List.length_map]
      have on8 := ok.on
      refine for_tup (K := K) (a := oa) (xs := ovs) (fun n σ H' => (∃ o4 o5 o6 o7 o8 o9 o10 o11 o12, σ = [some (.ref p), some (.ref sp), some wv, some (.str txt), o4, o5, o6, o7, o8, o9, o10, o11, o12]) ∧ Kp p c H H' ∧ Deck H' p c (m + n * 30)) ⟨⟨_, _, _, _, _, _, _, _, _, rfl⟩, k08, by rw [Nat.zero_mul]; exact d8⟩ (fun n σ H' _ z => TK.kp dk z.2.1 _ _ to) ?_ ?_
      · rintro n x σ H' hx ⟨⟨o4, o5, o6, o7, o8, o9, o10, o11, o12, rfl⟩, k9, d9⟩
        have hn := (List.getElem?_eq_some_iff.mp hx).1
        have t9 : TK K H H' := .kp dk k9
        obtain ⟨kx, hkx, hyx⟩ := (yo.tk t9).at hx
        rw [List.getElem?_map] at hkx
        cases hop : S.ops[n]? with
        | none => rw [hop] at hkx; cases hkx
        | some op =>
          rw [hop] at hkx
          cases hkx
          obtain ⟨pa, px, py, rfl, pt, px1, py1⟩ := Ky.tup2 hyx
          rw [px1.text_inv, py1.num_inv] at pt
          have ar2 := (ok.oo op (List.mem_of_getElem? hop)).2
          obtain ⟨os, hos⟩ : ∃ os, row[n]? = some os := ⟨_, List.getElem?_eq_getElem (by omega)⟩
          obtain ⟨o0, o3, oko⟩ := crow n os hos
          have hjn : (S.ops.map (·.2))[n]? = some op.2 := by rw [List.getElem?_map, hop]; rfl
          have hnn : (S.ops.map (·.1))[n]? = some op.1 := by rw [List.getElem?_map, hop]; rfl
          have hfn : ∀ i, i < n → (S.ops.map (·.1))[i]? ≠ some op.1 := fun i hi e => by
            have := (List.getElem?_inj (List.getElem?_eq_some_iff.mp e).1 ok.nd).mp (e.trans hnn.symm)
            omega
          refine ⟨pa, _, rfl, pt, rfl, _, _, rfl, _, _, rfl, rfl, ?_⟩
          refine ⟨_, rfl, _, rfl, _, rfl, p, c, _, 4, rfl, d9, by omega, by decide, by decide, fun Ha r ka da r0 r1 => ?_⟩
          refine ⟨p, c, _, op.2, r, rfl, da, by omega, by omega, r0, r1, fun Hb u ns kb db lb vb yb => ?_⟩
          have tb : TK K H Hb := t9.trans ((TK.kp d9 ka).trans (.kp da kb))
          dsimp only [gName, tSeq]
          refine ifP_ok (ar := op.2) (md := md) (vals := vals) (args := ns) db (by omega) (hw.tk tb) vl8 hva (by omega) yb lb vb fun Hc u' args o11' kc dc yc lc vc => ?_
          have tc : TK K H Hc := tb.trans (.kp db kc)
          have kHc : Kp p c H Hc := ((k9.trans ka).trans kb).trans kc
          have oko' : ∀ o ∈ os, OutOk S.slots (vals.length + op.2) o := fun o ho => by
            obtain ⟨sz, ar', h1, h2, h3⟩ := oko o ho
            rw [hl] at h1
            rw [hjn] at h2
            cases h1
            cases h2
            exact h3
          have vap : ∀ n ∈ vals ++ args, Val n := fun n hn => by
            rcases List.mem_append.mp hn with z | z
            · exact hva n z
            · exact vc n z
          have smO : Sm (.tup (canon (os.map (oky (vals ++ args))))) 12000 4 := (sm_canon (l := 3) (n := 3600) (d := 3) (fun k hk => by
            obtain ⟨o, ho, rfl⟩ := List.mem_map.mp hk
            exact sm_oky (oko' o ho) vap ok.sv ok.sn) (by rw [List.length_map]; exact o3)).mono (by decide) (by decide)
          generalize hok : (NestedKey.tup (canon (os.map (oky (vals ++ args))))) = outK' at smO
          have use : ∀ {H1 : Hp} {Q1 : VK} {E1 : XK}, TK K Hc H1 → (∀ H2 r, Same H1 H2 → Ky K H2 r outK' → Q1 r H2) → spOut K [.ref sp, wv, .str op.1, u'] H1 Q1 E1 := fun {H1 Q1 E1} t1 q1 =>
            out_use (hv.tk (tc.trans t1)) ok (hw.tk (tc.trans t1)) (yc.tk t1) hl (by omega) (by rw [lc]; exact hjn) hnn hfn hrow hos fun H2 r s2 y2 => q1 H2 r s2 (by rw [← hok]; exact y2)
          refine ⟨_, rfl, _, rfl, _, rfl, _, rfl, ?_⟩
          dsimp only [tNil]
          refine use .refl fun Hd rd sd yd => ?_
          have dd' := dc.of_same sd
          have tcd : TK K Hc Hd := .same sd
          refine ⟨2, rfl, by decide, by decide, fun D hD => ?_⟩
          refine cd_range (K := K) (j := 12) (m := m + n * 30 + 1 + 9 + 9) (d := 0) (n := 2) (Pk := fun k => k = outK') dd' hD (by decide) (fun i H1 Q1 hi kk d1 qq => ?_) fun He vs ks ke de ee ye le pe => ?_
          · refine ⟨_, rfl, _, rfl, _, rfl, _, rfl, ?_⟩
            dsimp only [tNil]
            refine use (tcd.trans (.kp dd' kk)) fun H2 r2 s2 y2 => qq H2 r2 outK' (.of_same s2) (Deck.of_same d1 s2) y2 rfl
          · obtain ⟨v1, v2, rfl⟩ : ∃ a b, vs = [a, b] := by
              have l2 : vs.length = 2 := by rw [ye.length, le]
              match vs, l2 with
              | [a, b], _ => exact ⟨a, b, rfl⟩
            obtain ⟨k1, k2, rfl⟩ : ∃ a b, ks = [a, b] := by
              match ks, le with
              | [a, b], _ => exact ⟨a, b, rfl⟩
            obtain rfl := pe k1 (by simp)
            obtain rfl := pe k2 (by simp)
            have t1e : TK K Hc He := tcd.trans (.kp dd' ke)
            have kHe : Kp p c H He := (kHc.trans (.of_same sd)).trans ke
            have yde : Ky K He rd k2 := yd.tk (.kp dd' ke)
            refine ⟨_, rfl, .inl ⟨rfl, _, SqL.of ee⟩, _, rfl, _, rfl, _, rfl, _, rfl, rfl, ?_⟩
            dsimp only [tNil]
            refine use t1e fun Hf rf sf yf => ?_
            refine ⟨D, _, _, rfl, rfl, sf _ _ ee, by show 2 < sizeLine; decide, ?_⟩
            have tp : TK K Hf (upd Hf D (.lst ([v1, v2] ++ [rf]))) := .put (sf _ _ ee)
            have eg : (upd Hf D (.lst ([v1, v2] ++ [rf]))) D = some (.lst [v1, v2, rf]) := upd_same
            obtain ⟨nDp, nDc⟩ := dd'.nep hD
            have dg : Deck (upd Hf D (.lst ([v1, v2] ++ [rf]))) p c (m + (n + 1) * 30) := ((Deck.of_same de sf).put nDp nDc).mono (by omega)
            have hD0 : H D = none := (kHc.trans (.of_same sd)).none_back hD nDp nDc
            have kHg : Kp p c H (upd Hf D (.lst ([v1, v2] ++ [rf]))) := fun b o b1 b2 e => by
              rw [upd_ne (fun z => by rw [z, hD0] at e; cases e)]
              exact sf _ _ (kHe _ _ b1 b2 e)
            have yg1 := (ye.tk (.same (K := K) sf)).tk tp
            have ygf := yf.tk tp
            have ygd := (yde.tk (.same (K := K) sf)).tk tp
            generalize upd Hf D (.lst ([v1, v2] ++ [rf])) = Hg at eg dg kHg yg1 ygf ygd ⊢
            have y3g : Kys K Hg [v1, v2, rf] [k2, k2, k2] := Kys.app yg1 (.one ygf)
            have sm3 : Shows (.list (NestedKey.datas [k2, k2, k2])) := sm_list (l := 3) (n := 12000) (d := 4) (fun k hk => by
              simp only [List.mem_cons, List.not_mem_nil, or_false] at hk
              rcases hk with rfl | rfl | rfl <;> exact smO) (Nat.le_refl _) (by decide) (by decide)
            refine ⟨_, rfl, .ref D, .list (NestedKey.datas [k2, k2, k2]), rfl, .lst (SqL.of eg) y3g, sm3, _, rfl, by show 1 ≤ sizeLine; decide, fun la nla => ?_⟩
            have sh : Same Hg (upd Hg la (.lst [rd])) := same_upd nla
            have eh : (upd Hg la (.lst [rd])) la = some (.lst [rd]) := upd_same
            generalize upd Hg la (.lst [rd]) = Hh at sh eh ⊢
            refine ⟨la, 3, _, rfl, rfl, eh, by decide, by decide, by show 1 * 3 ≤ sizeLine; decide, fun lb2 nlb => ?_⟩
            have si : Same Hh (upd Hh lb2 (.lst [rd, rd, rd])) := same_upd nlb
            have ei : (upd Hh lb2 (.lst [rd, rd, rd])) lb2 = some (.lst [rd, rd, rd]) := upd_same
            have yi := ygd.tk (.same (K := K) (sh.trans si))
            refine ⟨.ref lb2, .list (NestedKey.datas [k2, k2, k2]), rfl, .lst (SqL.of ei) (Kys.cons yi (Kys.cons yi (Kys.one yi))), sm3, rfl, _, rfl, iteNS rfl ?_⟩
            exact ⟨⟨_, _, _, _, _, _, _, _, _, rfl⟩, kHg.trans (.of_same (sh.trans si)), dg.of_same (sh.trans si)⟩
      · rintro σ H' ⟨⟨o4, o5, o6, o7, o8, o9, o10, o11, o12, rfl⟩, k9, d9⟩
        have t9 : TK K H H' := .kp dk k9
        refine ⟨_, rfl, _, rfl, by show 2 ≤ sizeLine; decide, fun te nte => ?_⟩
        have sz := same_upd (o := .tup [.ref sp, wv]) nte
        refine ⟨.ref te, (NestedKey.tup [specK S, cfgK md vals]).data, rfl, Ky.tup (SqT.of upd_same) (.cons ((hv.tk t9).tk (.new nte)) (.one ((hw.tk t9).tk (.new nte)))), smS.shows (by decide) (by decide), _, rfl, rfl, ?_⟩
        rw [htx, decide_eq_true rfl]
        exact q _ (k9.trans (.of_same sz)) ((d9.of_same sz).mono (by omega))
end
end Eh
set_option Elab.async false
set_option linter.all false
set_option maxRecDepth 100000
set_option maxHeartbeats 16000000
/-! law -/
namespace Eh
open PySem PySem.Spec PyProof.Rows L2 NS
abbrev NLw : List Str := ["_law_script", "_law_deck_here", "_law_turn", "_law_machine", "_law_mode", "_law_size", "_law_k"]
theorem scLaw : FnScope NLw ["_law_script"] (defScope sLaw) := ⟨rfl, rfl, rfl, by decide +kernel, rfl, by decide +kernel, by decide +kernel⟩
def spLaw (K : PySem.W.Frag) : Sp := fun vs H Q _ => ∃ (a : Addr) (ns : List Int), vs = [.ref a] ∧ SqL K H a (ns.map V.int) ∧ ns.length ≤ 63 ∧ ∀ H', Q (.bl true) H'
section
variable {P : Program} {w : World} {K : PySem.W.Frag} {mg : Str → Option Value} {base : Heap}
theorem FnOk.le {CX : CXT} {k j : Nat} {f : Addr} {fd : FuncData} {ps : List Str} {sp : Sp} (F : FnOk P w K mg base CX k f fd ps sp) (h : k ≤ j) : FnOk P w K mg base CX j f fd ps sp :=
  ⟨F.len, fun A outer s H args us vs Q E hr => F.run A outer s H args us vs Q E (hr.mono h)⟩
def spSp (K : PySem.W.Frag) : Sp := fun us H Q _ => ∃ (p c : Addr) (m : Nat), us = [.ref p] ∧ Deck H p c m ∧ m < 860000 ∧ ∀ (H' : Hp) (v : V) (S : ASpec), Kp p c H H' → Deck H' p c (m + 7001) → SpecOk S → Ky K H' v (specK S) → Q v H'
theorem ok_law {k : Nat} {f fK fD fS fH fR : Addr} {fd fdK fdD fdS fdH fdR : FuncData} (F : Fun K "law" "law" sLaw f fd)
    (GK : FnOk P w K mg base CX0 k fK fdK ["_law_script"] (spDeck K)) (kK : PySem.W.keepIn K (.ref fK) = true) (bK : Binds K fdK ["_law_script"] []) (gK : mg "_law_deck" = some (.ref fK))
    (GD : FnOk P w K mg base CX0 k fD fdD ["_law_deck_here", "_law_many"] spDraw) (kD : PySem.W.keepIn K (.ref fD) = true) (bD : Binds K fdD ["_law_deck_here", "_law_many"] []) (gD : mg "_law_draw" = some (.ref fD))
    (GS : FnOk P w K mg base CX0 k fS fdS ["_law_deck_here"] (spSp K)) (kS : PySem.W.keepIn K (.ref fS) = true) (bS : Binds K fdS ["_law_deck_here"] []) (gS : mg "_law_spec" = some (.ref fS))
    (GH : FnOk P w K mg base CX0 k fH fdH ["_law_deck_here", "_law_many", "_law_way"] (spHeld K)) (kH : PySem.W.keepIn K (.ref fH) = true) (bH : Binds K fdH ["_law_deck_here", "_law_many", "_law_way"] []) (gH : mg "_law_held" = some (.ref fH))
    (GR : FnG P w K mg base CX0 k fR fdR ["_law_deck_here", "_law_machine", "_law_here"] (spRight K)) (kR : PySem.W.keepIn K (.ref fR) = true) (bR : Binds K fdR ["_law_deck_here", "_law_machine", "_law_here"] []) (gR : mg "_law_config_right" = some (.ref fR))
    (mr : mg "range" = none) (me : mg "enumerate" = none) : FnG P w K mg base CX0 (k + 1) f fd ["_law_script"] (spLaw K) := by
  refine F.okG scLaw (fun us H Q E h => ?_) (fun cdv A outer s H us Q E hr hgd h => ?_)
  · obtain ⟨a, ns, rfl, _⟩ := h
    rfl
  · have hgx : (cxOf CX0 P w K mg base NLw "law" (defScope sLaw) f cdv A outer s H E).nox.A.guards = some [] := guards_deeper hgd
    obtain ⟨a, ns, rfl, hs, hl, q⟩ := h
    refine ⟨_, pss_cons (ps_set (i := 1) scLaw.nd rfl (.inl rfl) (pe_call GK hr (by rfl) gK kK bK .nil pass0 (pa_cons (pv 0) pa_nil)))
      (pss_cons (ps_for PassesOwn.never rfl (pi_range1 rfl mr (pa_cons pe_int pa_nil)) (pg_name (i := 2) scLaw.nd rfl (.inl rfl))
        (pss_cons (ps_set (i := 3) scLaw.nd rfl (.inl rfl) (pe_call GS hr (by rfl) gS kS bS .nil pass0 (pa_cons (pv 1) pa_nil)))
        (pss_one (ps_for PassesOwn.never rfl (pi_enumT (by rfl) me (pa_cons (pe_ix ix_tup (pv 3) pe_int (fun _ _ => rfl)) pa_nil)) (pg_tup rfl (pgs_cons (pg_name (i := 4) scLaw.nd rfl (.inl rfl)) (pgs_cons (pg_name (i := 5) scLaw.nd rfl (.inl rfl)) pgs_nil)))
          (pss_one (ps_for PassesOwn.never rfl (pi_range1 rfl mr (pa_cons pe_int pa_nil)) (pg_name (i := 6) scLaw.nd rfl (.inl rfl))
            (pss_one (ps_if (pt_not (pt_val (pe_callG GR hr (by exact hgx) (by rfl) gR kR bR pass0 (pa_cons (pv 1) (pa_cons (pv 3) (pa_cons
                (pe_tup (pa_cons (pv 4) (pa_cons (pe_call GH hr (by rfl) gH kH bH .nil pass0 (pa_cons (pv 1) (pa_cons (pv 5) (pa_cons (pe_ix ix_list (pe_lst (pa_cons (pv 6) (pa_cons pe_int pa_nil))) (pe_call GD hr (by rfl) gD kD bD .nil pass0 (pa_cons (pv 1) (pa_cons pe_int pa_nil))) (fun _ _ => rfl)) pa_nil)))) pa_nil))) pa_nil))))))
              (pss_one (ps_ret pe_bl)) pss_nil))))))))
      (pss_one (ps_ret pe_bl))), ?_⟩
    refine ⟨_, rfl, a, ns, rfl, hs, hl, fun H1 p c s1 _ _ d1 => ?_⟩
    refine ⟨3, rfl, by decide, by decide, ?_⟩
    refine for_range (n := 3) (fun i σ H' => (∃ o2 o3 o4 o5 o6, σ = [some (.ref a), some (.ref p), o2, o3, o4, o5, o6]) ∧ Deck H' p c (i * 30000)) ⟨⟨_, _, _, _, _, rfl⟩, by rw [Nat.zero_mul]; exact d1⟩ ?_ ?_
    · rintro i σ H2 hi ⟨⟨o2, o3, o4, o5, o6, rfl⟩, d2⟩
      refine ⟨_, rfl, p, c, _, rfl, d2, by omega, fun H3 v S k3 d3 ok hv => ?_⟩
      have hv0 := hv
      obtain ⟨sp, x0, x1, x2, x3, rfl, st, y0, y1, y2, y3⟩ := Ky.tup4 hv0
      obtain ⟨sa, rfl, sst⟩ := numsK_inv y0
      refine ⟨_, rfl, sp, _, ((0 : Nat) : Int), _, rfl, rfl, st, atI_nat (j := 0) rfl, sa, _, rfl, sst, ?_⟩
      have sn := ok.sn
      refine for_it walk_enumT (fun j σ H' => (∃ o4 o5 o6, σ = [some (.ref a), some (.ref p), some (.int (0 + (i : Int))), some (.ref sp), o4, o5, o6]) ∧ TK K H3 H' ∧ Deck H' p c (i * 30000 + 7001 + j * 1300)) ⟨⟨_, _, _, rfl⟩, .refl, by rw [Nat.zero_mul]; exact d3⟩ (fun j σ H' _ z => z.2.1 _ _ sst) ?_ ?_
      · rintro j x σ H4 H5 hj ⟨⟨o4, o5, o6, rfl⟩, t4, d4⟩ ⟨T, ax, bx, rfl, hT, rfl, ha, hb⟩
        cases ha
        rw [List.length_map] at hj
        have hb' : (S.slots.map fun n : Nat => V.int n)[j]? = some bx := hb
        rw [List.getElem?_map] at hb'
        cases hsz : S.slots[j]? with
        | none => rw [hsz] at hb'; cases hb'
        | some sz =>
          rw [hsz] at hb'
          cases hb'
          have sz8 := ok.sv sz (List.mem_of_getElem? hsz)
          refine ⟨T, _, rfl, SqT.of upd_same, rfl, _, _, rfl, _, _, rfl, rfl, ?_⟩
          have s5 : Same H4 (upd H4 T (.tup [.int (j : Nat), .int sz])) := same_upd hT
          have t5 : TK K H3 (upd H4 T (.tup [.int (j : Nat), .int sz])) := t4.trans (.same s5)
          have d5 := d4.of_same s5
          generalize upd H4 T (.tup [.int (j : Nat), .int sz]) = H5 at t5 d5 ⊢
          refine ⟨3, rfl, by decide, by decide, ?_⟩
          refine for_range (n := 3) (fun t σ H' => (∃ o6, σ = [some (.ref a), some (.ref p), some (.int (0 + (i : Int))), some (.ref sp), some (.int (j : Nat)), some (.int sz), o6]) ∧ TK K H3 H' ∧ Deck H' p c (i * 30000 + 7001 + j * 1300 + t * 420)) ⟨⟨_, rfl⟩, t5, by rw [Nat.zero_mul]; exact d5⟩ ?_ ?_
          · rintro t σ H6 ht ⟨⟨o6, rfl⟩, t6, d6⟩
            refine ⟨_, rfl, _, rfl, _, rfl, _, rfl, _, rfl, _, rfl, by show 2 ≤ sizeLine; decide, fun ll nll => ?_⟩
            have s7 : Same H6 (upd H6 ll (.lst [.int (0 + (t : Int)), .int 3])) := same_upd nll
            have e7 : (upd H6 ll (.lst [.int (0 + (t : Int)), .int 3])) ll = some (.lst [.int (0 + (t : Int)), .int 3]) := upd_same
            obtain ⟨nlp, nlc⟩ := d6.nep nll
            have d7 := d6.of_same s7
            generalize upd H6 ll (.lst [.int (0 + (t : Int)), .int 3]) = H7 at s7 e7 d7 ⊢
            refine ⟨_, rfl, p, c, _, 2, rfl, d7, by omega, by decide, by decide, fun H8 r k8 d8 r0 r1 => ?_⟩
            have e8 := k8 _ _ nlp nlc e7
            have t8 : TK K H3 H8 := t6.trans ((TK.same s7).trans (.kp d7 k8))
            obtain ⟨w0, hw0, w1, w2⟩ : ∃ w0, atI [V.int (0 + (t : Int)), V.int 3] r = some (V.int w0) ∧ 0 ≤ w0 ∧ w0 < 4 := by
              rcases (show r = ((0 : Nat) : Int) ∨ r = ((1 : Nat) : Int) by omega) with rfl | rfl
              · exact ⟨_, atI_nat (j := 0) rfl, by omega, by omega⟩
              · exact ⟨_, atI_nat (j := 1) rfl, by decide, by decide⟩
            refine ⟨ll, _, r, _, rfl, rfl, SqL.of e8, hw0, ?_⟩
            refine ⟨p, c, _, sz, w0, rfl, d8, by omega, sz8, w1, w2, fun H9 u hs9 k9 d9 l9 v9 y9 => ⟨by show 2 ≤ sizeLine; decide, fun tt ntt => ?_⟩⟩
            have s10 : Same H9 (upd H9 tt (.tup [.int (j : Nat), u])) := same_upd ntt
            have e10 : (upd H9 tt (.tup [.int (j : Nat), u])) tt = some (.tup [.int (j : Nat), u]) := upd_same
            have d10 := d9.of_same s10
            have t10 : TK K H3 (upd H9 tt (.tup [.int (j : Nat), u])) := (t8.trans (.kp d8 k9)).trans (.same s10)
            have y10 := y9.tk (.same (K := K) s10)
            generalize upd H9 tt (.tup [.int (j : Nat), u]) = H10 at e10 d10 t10 y10 ⊢
            refine ⟨p, c, _, j, .ref sp, .ref tt, S, hs9, rfl, d10, by omega, hv.tk t10, ok, Ky.tup (SqT.of e10) (.cons (.num j) (.one y10)), by rw [l9]; exact hsz, v9, fun H11 k11 d11 => ?_⟩
            refine ⟨_, rfl, ?_⟩
            exact iteF ⟨⟨_, rfl⟩, t10.trans (.kp d10 k11), d11.mono (by omega)⟩
          · rintro σ H6 ⟨⟨o6, rfl⟩, t6, d6⟩
            exact ⟨⟨_, _, _, rfl⟩, t6, d6.mono (by omega)⟩
      · rintro σ H4 ⟨⟨o4, o5, o6, rfl⟩, t4, d4⟩
        rw [List.length_map] at d4
        exact ⟨⟨_, _, _, _, _, rfl⟩, d4.mono (by omega)⟩
    · rintro σ H2 _
      exact q H2
end
end Eh
set_option Elab.async false
set_option linter.all false
set_option maxRecDepth 100000
set_option maxHeartbeats 16000000
/-! k04: all together -/
namespace Eh
open PySem PySem.Spec PyProof.Rows L2 NS
theorem all_mk {P : Program} {w : World} {K : PySem.W.Frag} {h : Heap} {mg : Str → Option Value} {fa fIndex fOuts fLOuts fCrash fLCrash fPicked fDeck fDraw fPick fNames fRefs fTarget fCase fTrans fCrashes fUnsafe fRandom fSpec fValues fOutcomes fCrashed fHeld fRight fLaw : Addr}
    {odIndex anIndex odOuts anOuts odLOuts anLOuts odCrash anCrash odLCrash anLCrash odPicked anPicked odDeck anDeck odDraw anDraw odPick anPick odNames anNames odRefs anRefs odTarget anTarget odCase anCase odTrans anTrans odCrashes anCrashes odUnsafe anUnsafe odRandom anRandom odSpec anSpec odValues anValues odOutcomes anOutcomes odCrashed anCrashed odHeld anHeld odRight anRight odLaw anLaw : Option Addr} {slIndex slOuts slLOuts slCrash slLCrash slPicked slDeck slDraw slPick slNames slRefs slTarget slCase slTrans slCrashes slUnsafe slRandom slSpec slValues slOutcomes slCrashed slHeld slRight slLaw : Array (Option Value)} {ocIndex kVIndex dcIndex pmIndex cdIndex ctIndex ocOuts kVOuts dcOuts pmOuts cdOuts ctOuts ocLOuts kVLOuts dcLOuts pmLOuts cdLOuts ctLOuts ocCrash kVCrash dcCrash pmCrash cdCrash ctCrash ocLCrash kVLCrash dcLCrash pmLCrash cdLCrash ctLCrash ocPicked kVPicked dcPicked pmPicked cdPicked ctPicked ocDeck kVDeck dcDeck pmDeck cdDeck ctDeck ocDraw kVDraw dcDraw pmDraw cdDraw ctDraw ocPick kVPick dcPick pmPick cdPick ctPick ocNames kVNames dcNames pmNames cdNames ctNames ocRefs kVRefs dcRefs pmRefs cdRefs ctRefs ocTarget kVTarget dcTarget pmTarget cdTarget ctTarget ocCase kVCase dcCase pmCase cdCase ctCase ocTrans kVTrans dcTrans pmTrans cdTrans ctTrans ocCrashes kVCrashes dcCrashes pmCrashes cdCrashes ctCrashes ocUnsafe kVUnsafe dcUnsafe pmUnsafe cdUnsafe ctUnsafe ocRandom kVRandom dcRandom pmRandom cdRandom ctRandom ocSpec kVSpec dcSpec pmSpec cdSpec ctSpec ocValues kVValues dcValues pmValues cdValues ctValues ocOutcomes kVOutcomes dcOutcomes pmOutcomes cdOutcomes ctOutcomes ocCrashed kVCrashed dcCrashed pmCrashed cdCrashed ctCrashed ocHeld kVHeld dcHeld pmHeld cdHeld ctHeld ocRight kVRight dcRight pmRight cdRight ctRight ocLaw kVLaw dcLaw pmLaw cdLaw ctLaw : Value} (X : K.In h) (G : h.Ns mainGlobals mg) (hfa : mg "law" = some (.ref fa))
    (nIndex : PySem.W.nsIn K mainGlobals "operation_index" = some (some (.ref fIndex)))
    (lIndex : K.lookup fIndex = some ⟨ocIndex, odIndex, .func (PySem.W.fnOf "operation_index" "operation_index" (defArgs sIndex) (defBody sIndex) (defScope sIndex) .none kVIndex dcIndex pmIndex anIndex cdIndex ctIndex), slIndex⟩)
    (eIndex : PySem.W.codeIn K cdIndex "operation_index" = true)
    (kIndex : PySem.W.keepIn K (.ref fIndex) = true)
    (nOuts : PySem.W.nsIn K mainGlobals "outcomes_at" = some (some (.ref fOuts)))
    (lOuts : K.lookup fOuts = some ⟨ocOuts, odOuts, .func (PySem.W.fnOf "outcomes_at" "outcomes_at" (defArgs sOuts) (defBody sOuts) (defScope sOuts) .none kVOuts dcOuts pmOuts anOuts cdOuts ctOuts), slOuts⟩)
    (eOuts : PySem.W.codeIn K cdOuts "outcomes_at" = true)
    (kOuts : PySem.W.keepIn K (.ref fOuts) = true)
    (nLOuts : PySem.W.nsIn K mainGlobals "listed_outcomes" = some (some (.ref fLOuts)))
    (lLOuts : K.lookup fLOuts = some ⟨ocLOuts, odLOuts, .func (PySem.W.fnOf "listed_outcomes" "listed_outcomes" (defArgs sLOuts) (defBody sLOuts) (defScope sLOuts) .none kVLOuts dcLOuts pmLOuts anLOuts cdLOuts ctLOuts), slLOuts⟩)
    (eLOuts : PySem.W.codeIn K cdLOuts "listed_outcomes" = true)
    (kLOuts : PySem.W.keepIn K (.ref fLOuts) = true)
    (nCrash : PySem.W.nsIn K mainGlobals "crash_results" = some (some (.ref fCrash)))
    (lCrash : K.lookup fCrash = some ⟨ocCrash, odCrash, .func (PySem.W.fnOf "crash_results" "crash_results" (defArgs sCrash) (defBody sCrash) (defScope sCrash) .none kVCrash dcCrash pmCrash anCrash cdCrash ctCrash), slCrash⟩)
    (eCrash : PySem.W.codeIn K cdCrash "crash_results" = true)
    (kCrash : PySem.W.keepIn K (.ref fCrash) = true)
    (nLCrash : PySem.W.nsIn K mainGlobals "listed_crashes" = some (some (.ref fLCrash)))
    (lLCrash : K.lookup fLCrash = some ⟨ocLCrash, odLCrash, .func (PySem.W.fnOf "listed_crashes" "listed_crashes" (defArgs sLCrash) (defBody sLCrash) (defScope sLCrash) .none kVLCrash dcLCrash pmLCrash anLCrash cdLCrash ctLCrash), slLCrash⟩)
    (eLCrash : PySem.W.codeIn K cdLCrash "listed_crashes" = true)
    (kLCrash : PySem.W.keepIn K (.ref fLCrash) = true)
    (nPicked : PySem.W.nsIn K mainGlobals "_picked" = some (some (.ref fPicked)))
    (lPicked : K.lookup fPicked = some ⟨ocPicked, odPicked, .func (PySem.W.fnOf "_picked" "_picked" (defArgs sPicked) (defBody sPicked) (defScope sPicked) .none kVPicked dcPicked pmPicked anPicked cdPicked ctPicked), slPicked⟩)
    (ePicked : PySem.W.codeIn K cdPicked "_picked" = true)
    (kPicked : PySem.W.keepIn K (.ref fPicked) = true)
    (nDeck : PySem.W.nsIn K mainGlobals "_law_deck" = some (some (.ref fDeck)))
    (lDeck : K.lookup fDeck = some ⟨ocDeck, odDeck, .func (PySem.W.fnOf "_law_deck" "_law_deck" (defArgs sDeck) (defBody sDeck) (defScope sDeck) .none kVDeck dcDeck pmDeck anDeck cdDeck ctDeck), slDeck⟩)
    (eDeck : PySem.W.codeIn K cdDeck "_law_deck" = true)
    (kDeck : PySem.W.keepIn K (.ref fDeck) = true)
    (nDraw : PySem.W.nsIn K mainGlobals "_law_draw" = some (some (.ref fDraw)))
    (lDraw : K.lookup fDraw = some ⟨ocDraw, odDraw, .func (PySem.W.fnOf "_law_draw" "_law_draw" (defArgs sDraw) (defBody sDraw) (defScope sDraw) .none kVDraw dcDraw pmDraw anDraw cdDraw ctDraw), slDraw⟩)
    (eDraw : PySem.W.codeIn K cdDraw "_law_draw" = true)
    (kDraw : PySem.W.keepIn K (.ref fDraw) = true)
    (nPick : PySem.W.nsIn K mainGlobals "_law_pick" = some (some (.ref fPick)))
    (lPick : K.lookup fPick = some ⟨ocPick, odPick, .func (PySem.W.fnOf "_law_pick" "_law_pick" (defArgs sPick) (defBody sPick) (defScope sPick) .none kVPick dcPick pmPick anPick cdPick ctPick), slPick⟩)
    (ePick : PySem.W.codeIn K cdPick "_law_pick" = true)
    (kPick : PySem.W.keepIn K (.ref fPick) = true)
    (nNames : PySem.W.nsIn K mainGlobals "_law_names" = some (some (.ref fNames)))
    (lNames : K.lookup fNames = some ⟨ocNames, odNames, .func (PySem.W.fnOf "_law_names" "_law_names" (defArgs sNames) (defBody sNames) (defScope sNames) .none kVNames dcNames pmNames anNames cdNames ctNames), slNames⟩)
    (eNames : PySem.W.codeIn K cdNames "_law_names" = true)
    (kNames : PySem.W.keepIn K (.ref fNames) = true)
    (nRefs : PySem.W.nsIn K mainGlobals "_law_refs" = some (some (.ref fRefs)))
    (lRefs : K.lookup fRefs = some ⟨ocRefs, odRefs, .func (PySem.W.fnOf "_law_refs" "_law_refs" (defArgs sRefs) (defBody sRefs) (defScope sRefs) .none kVRefs dcRefs pmRefs anRefs cdRefs ctRefs), slRefs⟩)
    (eRefs : PySem.W.codeIn K cdRefs "_law_refs" = true)
    (kRefs : PySem.W.keepIn K (.ref fRefs) = true)
    (nTarget : PySem.W.nsIn K mainGlobals "_law_target" = some (some (.ref fTarget)))
    (lTarget : K.lookup fTarget = some ⟨ocTarget, odTarget, .func (PySem.W.fnOf "_law_target" "_law_target" (defArgs sTarget) (defBody sTarget) (defScope sTarget) .none kVTarget dcTarget pmTarget anTarget cdTarget ctTarget), slTarget⟩)
    (eTarget : PySem.W.codeIn K cdTarget "_law_target" = true)
    (kTarget : PySem.W.keepIn K (.ref fTarget) = true)
    (nCase : PySem.W.nsIn K mainGlobals "_law_case" = some (some (.ref fCase)))
    (lCase : K.lookup fCase = some ⟨ocCase, odCase, .func (PySem.W.fnOf "_law_case" "_law_case" (defArgs sCase) (defBody sCase) (defScope sCase) .none kVCase dcCase pmCase anCase cdCase ctCase), slCase⟩)
    (eCase : PySem.W.codeIn K cdCase "_law_case" = true)
    (kCase : PySem.W.keepIn K (.ref fCase) = true)
    (nTrans : PySem.W.nsIn K mainGlobals "_law_transitive" = some (some (.ref fTrans)))
    (lTrans : K.lookup fTrans = some ⟨ocTrans, odTrans, .func (PySem.W.fnOf "_law_transitive" "_law_transitive" (defArgs sTrans) (defBody sTrans) (defScope sTrans) .none kVTrans dcTrans pmTrans anTrans cdTrans ctTrans), slTrans⟩)
    (eTrans : PySem.W.codeIn K cdTrans "_law_transitive" = true)
    (kTrans : PySem.W.keepIn K (.ref fTrans) = true)
    (nCrashes : PySem.W.nsIn K mainGlobals "_law_crashes" = some (some (.ref fCrashes)))
    (lCrashes : K.lookup fCrashes = some ⟨ocCrashes, odCrashes, .func (PySem.W.fnOf "_law_crashes" "_law_crashes" (defArgs sCrashes) (defBody sCrashes) (defScope sCrashes) .none kVCrashes dcCrashes pmCrashes anCrashes cdCrashes ctCrashes), slCrashes⟩)
    (eCrashes : PySem.W.codeIn K cdCrashes "_law_crashes" = true)
    (kCrashes : PySem.W.keepIn K (.ref fCrashes) = true)
    (nUnsafe : PySem.W.nsIn K mainGlobals "_law_unsafe_cell" = some (some (.ref fUnsafe)))
    (lUnsafe : K.lookup fUnsafe = some ⟨ocUnsafe, odUnsafe, .func (PySem.W.fnOf "_law_unsafe_cell" "_law_unsafe_cell" (defArgs sUnsafe) (defBody sUnsafe) (defScope sUnsafe) .none kVUnsafe dcUnsafe pmUnsafe anUnsafe cdUnsafe ctUnsafe), slUnsafe⟩)
    (eUnsafe : PySem.W.codeIn K cdUnsafe "_law_unsafe_cell" = true)
    (kUnsafe : PySem.W.keepIn K (.ref fUnsafe) = true)
    (nRandom : PySem.W.nsIn K mainGlobals "_law_random_spec" = some (some (.ref fRandom)))
    (lRandom : K.lookup fRandom = some ⟨ocRandom, odRandom, .func (PySem.W.fnOf "_law_random_spec" "_law_random_spec" (defArgs sRandom) (defBody sRandom) (defScope sRandom) .none kVRandom dcRandom pmRandom anRandom cdRandom ctRandom), slRandom⟩)
    (eRandom : PySem.W.codeIn K cdRandom "_law_random_spec" = true)
    (kRandom : PySem.W.keepIn K (.ref fRandom) = true)
    (nSpec : PySem.W.nsIn K mainGlobals "_law_spec" = some (some (.ref fSpec)))
    (lSpec : K.lookup fSpec = some ⟨ocSpec, odSpec, .func (PySem.W.fnOf "_law_spec" "_law_spec" (defArgs sSpec) (defBody sSpec) (defScope sSpec) .none kVSpec dcSpec pmSpec anSpec cdSpec ctSpec), slSpec⟩)
    (eSpec : PySem.W.codeIn K cdSpec "_law_spec" = true)
    (kSpec : PySem.W.keepIn K (.ref fSpec) = true)
    (nValues : PySem.W.nsIn K mainGlobals "_law_values" = some (some (.ref fValues)))
    (lValues : K.lookup fValues = some ⟨ocValues, odValues, .func (PySem.W.fnOf "_law_values" "_law_values" (defArgs sValues) (defBody sValues) (defScope sValues) .none kVValues dcValues pmValues anValues cdValues ctValues), slValues⟩)
    (eValues : PySem.W.codeIn K cdValues "_law_values" = true)
    (kValues : PySem.W.keepIn K (.ref fValues) = true)
    (nOutcomes : PySem.W.nsIn K mainGlobals "_law_outcomes" = some (some (.ref fOutcomes)))
    (lOutcomes : K.lookup fOutcomes = some ⟨ocOutcomes, odOutcomes, .func (PySem.W.fnOf "_law_outcomes" "_law_outcomes" (defArgs sOutcomes) (defBody sOutcomes) (defScope sOutcomes) .none kVOutcomes dcOutcomes pmOutcomes anOutcomes cdOutcomes ctOutcomes), slOutcomes⟩)
    (eOutcomes : PySem.W.codeIn K cdOutcomes "_law_outcomes" = true)
    (kOutcomes : PySem.W.keepIn K (.ref fOutcomes) = true)
    (nCrashed : PySem.W.nsIn K mainGlobals "_law_crashed" = some (some (.ref fCrashed)))
    (lCrashed : K.lookup fCrashed = some ⟨ocCrashed, odCrashed, .func (PySem.W.fnOf "_law_crashed" "_law_crashed" (defArgs sCrashed) (defBody sCrashed) (defScope sCrashed) .none kVCrashed dcCrashed pmCrashed anCrashed cdCrashed ctCrashed), slCrashed⟩)
    (eCrashed : PySem.W.codeIn K cdCrashed "_law_crashed" = true)
    (kCrashed : PySem.W.keepIn K (.ref fCrashed) = true)
    (nHeld : PySem.W.nsIn K mainGlobals "_law_held" = some (some (.ref fHeld)))
    (lHeld : K.lookup fHeld = some ⟨ocHeld, odHeld, .func (PySem.W.fnOf "_law_held" "_law_held" (defArgs sHeld) (defBody sHeld) (defScope sHeld) .none kVHeld dcHeld pmHeld anHeld cdHeld ctHeld), slHeld⟩)
    (eHeld : PySem.W.codeIn K cdHeld "_law_held" = true)
    (kHeld : PySem.W.keepIn K (.ref fHeld) = true)
    (nRight : PySem.W.nsIn K mainGlobals "_law_config_right" = some (some (.ref fRight)))
    (lRight : K.lookup fRight = some ⟨ocRight, odRight, .func (PySem.W.fnOf "_law_config_right" "_law_config_right" (defArgs sRight) (defBody sRight) (defScope sRight) .none kVRight dcRight pmRight anRight cdRight ctRight), slRight⟩)
    (eRight : PySem.W.codeIn K cdRight "_law_config_right" = true)
    (kRight : PySem.W.keepIn K (.ref fRight) = true)
    (nLaw : PySem.W.nsIn K mainGlobals "law" = some (some (.ref fLaw)))
    (lLaw : K.lookup fLaw = some ⟨ocLaw, odLaw, .func (PySem.W.fnOf "law" "law" (defArgs sLaw) (defBody sLaw) (defScope sLaw) .none kVLaw dcLaw pmLaw anLaw cdLaw ctLaw), slLaw⟩)
    (eLaw : PySem.W.codeIn K cdLaw "law" = true)
    (kLaw : PySem.W.keepIn K (.ref fLaw) = true)
    (ztup : PySem.W.nsIn K mainGlobals "tuple" = some none)
    (zset : PySem.W.nsIn K mainGlobals "set" = some none)
    (zsor : PySem.W.nsIn K mainGlobals "sorted" = some none)
    (zran : PySem.W.nsIn K mainGlobals "range" = some none)
    (zlen : PySem.W.nsIn K mainGlobals "len" = some none)
    (zlis : PySem.W.nsIn K mainGlobals "list" = some none)
    (zenu : PySem.W.nsIn K mainGlobals "enumerate" = some none)
    (zmin : PySem.W.nsIn K mainGlobals "min" = some none)
    (zrep : PySem.W.nsIn K mainGlobals "repr" = some none)
    : ∃ fd : FuncData, (∀ (s : Shared) (u : Value), BindsTo s fd ⟨[u], []⟩ [("_law_script", u)]) ∧ ∀ base : Heap, K.In base → base.Ns mainGlobals mg → FnG P w K mg base CX0 7 fa fd ["_law_script"] (spLaw K) := by
  have e := hfa.symm.trans (PySem.W.mg_of X G nLaw)
  cases e
  have FIndex := fun_mk (st := sIndex) lIndex eIndex kIndex
  have BIndex := FIndex.binds (ps := ["spec", "op"]) fun _ _ _ _ _ _ us hl => match us, hl with | [_, _], _ => rfl
  have gIndex := PySem.W.mg_of X G nIndex
  have FOuts := fun_mk (st := sOuts) lOuts eOuts kOuts
  have BOuts := FOuts.binds (ps := ["spec", "config", "op", "arguments"]) fun _ _ _ _ _ _ us hl => match us, hl with | [_, _, _, _], _ => rfl
  have gOuts := PySem.W.mg_of X G nOuts
  have FLOuts := fun_mk (st := sLOuts) lLOuts eLOuts kLOuts
  have BLOuts := FLOuts.binds (ps := ["spec", "config", "op", "arguments"]) fun _ _ _ _ _ _ us hl => match us, hl with | [_, _, _, _], _ => rfl
  have gLOuts := PySem.W.mg_of X G nLOuts
  have FCrash := fun_mk (st := sCrash) lCrash eCrash kCrash
  have BCrash := FCrash.binds (ps := ["spec", "config"]) fun _ _ _ _ _ _ us hl => match us, hl with | [_, _], _ => rfl
  have gCrash := PySem.W.mg_of X G nCrash
  have FLCrash := fun_mk (st := sLCrash) lLCrash eLCrash kLCrash
  have BLCrash := FLCrash.binds (ps := ["spec", "config"]) fun _ _ _ _ _ _ us hl => match us, hl with | [_, _], _ => rfl
  have gLCrash := PySem.W.mg_of X G nLCrash
  have FPicked := fun_mk (st := sPicked) lPicked ePicked kPicked
  have BPicked := FPicked.binds (ps := ["values", "references"]) fun _ _ _ _ _ _ us hl => match us, hl with | [_, _], _ => rfl
  have gPicked := PySem.W.mg_of X G nPicked
  have FDeck := fun_mk (st := sDeck) lDeck eDeck kDeck
  have BDeck := FDeck.binds (ps := ["_law_script"]) fun _ _ _ _ _ _ us hl => match us, hl with | [_], _ => rfl
  have gDeck := PySem.W.mg_of X G nDeck
  have FDraw := fun_mk (st := sDraw) lDraw eDraw kDraw
  have BDraw := FDraw.binds (ps := ["_law_deck_here", "_law_many"]) fun _ _ _ _ _ _ us hl => match us, hl with | [_, _], _ => rfl
  have gDraw := PySem.W.mg_of X G nDraw
  have FPick := fun_mk (st := sPick) lPick ePick kPick
  have BPick := FPick.binds (ps := ["_law_deck_here", "_law_some"]) fun _ _ _ _ _ _ us hl => match us, hl with | [_, _], _ => rfl
  have gPick := PySem.W.mg_of X G nPick
  have FNames := fun_mk (st := sNames) lNames eNames kNames
  have BNames := FNames.binds (ps := ["_law_deck_here", "_law_many"]) fun _ _ _ _ _ _ us hl => match us, hl with | [_, _], _ => rfl
  have gNames := PySem.W.mg_of X G nNames
  have FRefs := fun_mk (st := sRefs) lRefs eRefs kRefs
  have BRefs := FRefs.binds (ps := ["_law_deck_here", "_law_many", "_law_size"]) fun _ _ _ _ _ _ us hl => match us, hl with | [_, _, _], _ => rfl
  have gRefs := PySem.W.mg_of X G nRefs
  have FTarget := fun_mk (st := sTarget) lTarget eTarget kTarget
  have BTarget := FTarget.binds (ps := ["_law_deck_here", "_law_slots", "_law_size"]) fun _ _ _ _ _ _ us hl => match us, hl with | [_, _, _], _ => rfl
  have gTarget := PySem.W.mg_of X G nTarget
  have FCase := fun_mk (st := sCase) lCase eCase kCase
  have BCase := FCase.binds (ps := ["_law_deck_here", "_law_slots", "_law_size", "_law_replies"]) fun _ _ _ _ _ _ us hl => match us, hl with | [_, _, _, _], _ => rfl
  have gCase := PySem.W.mg_of X G nCase
  have FTrans := fun_mk (st := sTrans) lTrans eTrans kTrans
  have BTrans := FTrans.binds (ps := ["_law_crashes_here"]) fun _ _ _ _ _ _ us hl => match us, hl with | [_], _ => rfl
  have gTrans := PySem.W.mg_of X G nTrans
  have FCrashes := fun_mk (st := sCrashes) lCrashes eCrashes kCrashes
  have BCrashes := FCrashes.binds (ps := ["_law_deck_here", "_law_slots"]) fun _ _ _ _ _ _ us hl => match us, hl with | [_, _], _ => rfl
  have gCrashes := PySem.W.mg_of X G nCrashes
  have FUnsafe := fun_mk (st := sUnsafe) lUnsafe eUnsafe kUnsafe
  have BUnsafe := FUnsafe.binds (ps := ["_law_deck_here"]) fun _ _ _ _ _ _ us hl => match us, hl with | [_], _ => rfl
  have gUnsafe := PySem.W.mg_of X G nUnsafe
  have FRandom := fun_mk (st := sRandom) lRandom eRandom kRandom
  have BRandom := FRandom.binds (ps := ["_law_deck_here"]) fun _ _ _ _ _ _ us hl => match us, hl with | [_], _ => rfl
  have gRandom := PySem.W.mg_of X G nRandom
  have FSpec := fun_mk (st := sSpec) lSpec eSpec kSpec
  have BSpec := FSpec.binds (ps := ["_law_deck_here"]) fun _ _ _ _ _ _ us hl => match us, hl with | [_], _ => rfl
  have gSpec := PySem.W.mg_of X G nSpec
  have FValues := fun_mk (st := sValues) lValues eValues kValues
  have BValues := FValues.binds (ps := ["_law_refs_here", "_law_held_here"]) fun _ _ _ _ _ _ us hl => match us, hl with | [_, _], _ => rfl
  have gValues := PySem.W.mg_of X G nValues
  have FOutcomes := fun_mk (st := sOutcomes) lOutcomes eOutcomes kOutcomes
  have BOutcomes := FOutcomes.binds (ps := ["_law_machine", "_law_here", "_law_name", "_law_taken"]) fun _ _ _ _ _ _ us hl => match us, hl with | [_, _, _, _], _ => rfl
  have gOutcomes := PySem.W.mg_of X G nOutcomes
  have FCrashed := fun_mk (st := sCrashed) lCrashed eCrashed kCrashed
  have BCrashed := FCrashed.binds (ps := ["_law_machine", "_law_here"]) fun _ _ _ _ _ _ us hl => match us, hl with | [_, _], _ => rfl
  have gCrashed := PySem.W.mg_of X G nCrashed
  have FHeld := fun_mk (st := sHeld) lHeld eHeld kHeld
  have BHeld := FHeld.binds (ps := ["_law_deck_here", "_law_many", "_law_way"]) fun _ _ _ _ _ _ us hl => match us, hl with | [_, _, _], _ => rfl
  have gHeld := PySem.W.mg_of X G nHeld
  have FRight := fun_mk (st := sRight) lRight eRight kRight
  have BRight := FRight.binds (ps := ["_law_deck_here", "_law_machine", "_law_here"]) fun _ _ _ _ _ _ us hl => match us, hl with | [_, _, _], _ => rfl
  have gRight := PySem.W.mg_of X G nRight
  have FLaw := fun_mk (st := sLaw) lLaw eLaw kLaw
  have gLaw := PySem.W.mg_of X G nLaw
  have mtup := PySem.W.mg_none_of X G ztup
  have mset := PySem.W.mg_none_of X G zset
  have msor := PySem.W.mg_none_of X G zsor
  have mran := PySem.W.mg_none_of X G zran
  have mlen := PySem.W.mg_none_of X G zlen
  have mlis := PySem.W.mg_none_of X G zlis
  have menu := PySem.W.mg_none_of X G zenu
  have mmin := PySem.W.mg_none_of X G zmin
  have mrep := PySem.W.mg_none_of X G zrep
  have nCrash := kbn2 FCrash [1, 0] (ps := ["spec", "config"]) (ks := ["config", "spec"]) fun _ _ _ _ _ _ ws hl => match ws, hl with | [_, _], _ => rfl
  have nOuts := kbn2 FOuts [3, 2, 1, 0] (ps := ["spec", "config", "op", "arguments"]) (ks := ["arguments", "op", "config", "spec"]) fun _ _ _ _ _ _ ws hl => match ws, hl with | [_, _, _, _], _ => rfl
  refine ⟨PySem.W.fnOf "law" "law" (defArgs sLaw) (defBody sLaw) (defScope sLaw) .none kVLaw dcLaw pmLaw anLaw cdLaw ctLaw, fun s u => .of_eq rfl, fun base _ _ => ?_⟩
  have GDraw : ∀ k, FnOk P w K mg base CX0 (k + 1) _ _ ["_law_deck_here", "_law_many"] spDraw := fun k => ok_draw FDraw
  have GPick : ∀ k, FnOk P w K mg base CX0 (k + 2) _ _ ["_law_deck_here", "_law_some"] (spPick K) := fun k => ok_pick FPick FDraw BDraw gDraw mlen
  have GHeld : ∀ k, FnOk P w K mg base CX0 (k + 2) _ _ ["_law_deck_here", "_law_many", "_law_way"] (spHeld K) := fun k => ok_held FHeld FDraw BDraw gDraw mran mtup
  have GDeck : FnOk P w K mg base CX0 6 _ _ ["_law_script"] (spDeck K) := ok_deck FDeck mlis
  have GCrash : FnOk P w K mg base CX0 3 _ _ ["spec", "config"] (spCrash K) := ok_crash FCrash FLCrash BLCrash gLCrash FPicked BPicked gPicked mtup mset msor
  have GOuts : FnOk P w K mg base CX0 3 _ _ ["spec", "config", "op", "arguments"] (spOut K) := ok_out FOuts FLOuts BLOuts gLOuts FPicked BPicked gPicked FIndex BIndex gIndex mtup mset msor
  have GCrashed : FnOk P w K mg base CX0 2 _ _ ["_law_machine", "_law_here"] (spCrash K) := ok_crashed FCrashed FValues BValues gValues mtup mset msor
  have GOutcomes : FnOk P w K mg base CX0 2 _ _ ["_law_machine", "_law_here", "_law_name", "_law_taken"] (spOut K) := ok_outcomes FOutcomes FValues BValues gValues mtup mset msor
  have GUnsafe : FnOk P w K mg base CX0 5 _ _ ["_law_deck_here"] (spUnsafe K) := ok_unsafe FUnsafe FDraw BDraw gDraw FNames BNames gNames mran mtup msor
  have GRandom : FnOk P w K mg base CX0 5 _ _ ["_law_deck_here"] (spSpec K) := ok_random FRandom FDraw BDraw gDraw FPick BPick gPick FRefs BRefs gRefs FTarget BTarget gTarget FTrans BTrans gTrans FNames BNames gNames FCase BCase gCase FCrashes BCrashes gCrashes mran mtup mlen mset msor mlis menu mmin
  have GSpec : FnOk P w K mg base CX0 6 _ _ ["_law_deck_here"] (spSp K) := ok_spec (k := 0) FSpec FDraw BDraw gDraw GUnsafe FUnsafe.kp BUnsafe gUnsafe GRandom FRandom.kp BRandom gRandom
  have GRight : FnG P w K mg base CX0 6 _ _ ["_law_deck_here", "_law_machine", "_law_here"] (spRight K) :=
    ok_right (k := 5) FRight (GDraw 4) FDraw.kp BDraw gDraw (GPick 3) FPick.kp BPick gPick (GHeld 3) FHeld.kp BHeld gHeld (GCrashed.mono (by decide)) FCrashed.kp BCrashed gCrashed (GOutcomes.mono (by decide)) FOutcomes.kp BOutcomes gOutcomes
      (GCrash.mono (by decide)) FCrash.kp BCrash gCrash nCrash (GOuts.mono (by decide)) FOuts.kp BOuts gOuts nOuts mran mtup mrep
  exact ok_law (k := 6) FLaw GDeck FDeck.kp BDeck gDeck (GDraw 5) FDraw.kp BDraw gDraw GSpec FSpec.kp BSpec gSpec (GHeld 4) FHeld.kp BHeld gHeld GRight FRight.kp BRight gRight mran menu
end Eh
open PySem PySem.W PyProof.Rows
set_option Elab.async false
set_option maxRecDepth 100000
set_option maxHeartbeats 0 in
theorem PySem.Challenge.cw_eachheight_k04_outcomes_and_crash_result_holds : PySem.Challenge.rw_eachheight_k04_outcomes_and_crash_result.Holds := by
  w_on; o_law; k_head; (case hw => w_witness2)
  k_fill
  refine L2.walk_ofG (l := PySem.Challenge.rw_eachheight_k04_outcomes_and_crash_result) (n := 63) (k := 7) (x := "_law_script") (CX := fun _ => L2.CX0) (sp := fun w => Eh.spLaw _) rfl (by decide) rfl ⟨rfl, by decide, by decide⟩ (fun w h Y => PySem.W.kIn_of Y) ?F (fun _ _ a ns hl _ hS => ⟨a, ns, rfl, hS, hl, fun _ => rfl⟩) (fun _ _ _ _ _ h => h)
  case F =>
    intro w mg fa h KX G hmg
    refine' Eh.all_mk KX G hmg ?nIndex ?lIndex ?eIndex ?kIndex ?nOuts ?lOuts ?eOuts ?kOuts ?nLOuts ?lLOuts ?eLOuts ?kLOuts ?nCrash ?lCrash ?eCrash ?kCrash ?nLCrash ?lLCrash ?eLCrash ?kLCrash ?nPicked ?lPicked ?ePicked ?kPicked ?nDeck ?lDeck ?eDeck ?kDeck ?nDraw ?lDraw ?eDraw ?kDraw ?nPick ?lPick ?ePick ?kPick ?nNames ?lNames ?eNames ?kNames ?nRefs ?lRefs ?eRefs ?kRefs ?nTarget ?lTarget ?eTarget ?kTarget ?nCase ?lCase ?eCase ?kCase ?nTrans ?lTrans ?eTrans ?kTrans ?nCrashes ?lCrashes ?eCrashes ?kCrashes ?nUnsafe ?lUnsafe ?eUnsafe ?kUnsafe ?nRandom ?lRandom ?eRandom ?kRandom ?nSpec ?lSpec ?eSpec ?kSpec ?nValues ?lValues ?eValues ?kValues ?nOutcomes ?lOutcomes ?eOutcomes ?kOutcomes ?nCrashed ?lCrashed ?eCrashed ?kCrashed ?nHeld ?lHeld ?eHeld ?kHeld ?nRight ?lRight ?eRight ?kRight ?nLaw ?lLaw ?eLaw ?kLaw ?ztup ?zset ?zsor ?zran ?zlen ?zlis ?zenu ?zmin ?zrep
    (case nIndex => k_is)
    (case lIndex => k_is)
    (case eIndex => k_is)
    (case kIndex => k_is)
    (case nOuts => k_is)
    (case lOuts => k_is)
    (case eOuts => k_is)
    (case kOuts => k_is)
    (case nLOuts => k_is)
    (case lLOuts => k_is)
    (case eLOuts => k_is)
    (case kLOuts => k_is)
    (case nCrash => k_is)
    (case lCrash => k_is)
    (case eCrash => k_is)
    (case kCrash => k_is)
    (case nLCrash => k_is)
    (case lLCrash => k_is)
    (case eLCrash => k_is)
    (case kLCrash => k_is)
    (case nPicked => k_is)
    (case lPicked => k_is)
    (case ePicked => k_is)
    (case kPicked => k_is)
    (case nDeck => k_is)
    (case lDeck => k_is)
    (case eDeck => k_is)
    (case kDeck => k_is)
    (case nDraw => k_is)
    (case lDraw => k_is)
    (case eDraw => k_is)
    (case kDraw => k_is)
    (case nPick => k_is)
    (case lPick => k_is)
    (case ePick => k_is)
    (case kPick => k_is)
    (case nNames => k_is)
    (case lNames => k_is)
    (case eNames => k_is)
    (case kNames => k_is)
    (case nRefs => k_is)
    (case lRefs => k_is)
    (case eRefs => k_is)
    (case kRefs => k_is)
    (case nTarget => k_is)
    (case lTarget => k_is)
    (case eTarget => k_is)
    (case kTarget => k_is)
    (case nCase => k_is)
    (case lCase => k_is)
    (case eCase => k_is)
    (case kCase => k_is)
    (case nTrans => k_is)
    (case lTrans => k_is)
    (case eTrans => k_is)
    (case kTrans => k_is)
    (case nCrashes => k_is)
    (case lCrashes => k_is)
    (case eCrashes => k_is)
    (case kCrashes => k_is)
    (case nUnsafe => k_is)
    (case lUnsafe => k_is)
    (case eUnsafe => k_is)
    (case kUnsafe => k_is)
    (case nRandom => k_is)
    (case lRandom => k_is)
    (case eRandom => k_is)
    (case kRandom => k_is)
    (case nSpec => k_is)
    (case lSpec => k_is)
    (case eSpec => k_is)
    (case kSpec => k_is)
    (case nValues => k_is)
    (case lValues => k_is)
    (case eValues => k_is)
    (case kValues => k_is)
    (case nOutcomes => k_is)
    (case lOutcomes => k_is)
    (case eOutcomes => k_is)
    (case kOutcomes => k_is)
    (case nCrashed => k_is)
    (case lCrashed => k_is)
    (case eCrashed => k_is)
    (case kCrashed => k_is)
    (case nHeld => k_is)
    (case lHeld => k_is)
    (case eHeld => k_is)
    (case kHeld => k_is)
    (case nRight => k_is)
    (case lRight => k_is)
    (case eRight => k_is)
    (case kRight => k_is)
    (case nLaw => k_is)
    (case lLaw => k_is)
    (case eLaw => k_is)
    (case kLaw => k_is)
    (case ztup => k_is)
    (case zset => k_is)
    (case zsor => k_is)
    (case zran => k_is)
    (case zlen => k_is)
    (case zlis => k_is)
    (case zenu => k_is)
    (case zmin => k_is)
    (case zrep => k_is)
