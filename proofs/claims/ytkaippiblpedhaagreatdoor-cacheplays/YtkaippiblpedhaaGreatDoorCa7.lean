/- The Cache's Flush. -/
import Derived.Test.YtkaippiblpedhaaGreatDoorCa6
namespace Go.Proofs.YtkaippiblpedhaaGreatDoor
open Go.RowKit Go.Extern.Stop Go.Stop Go.Extern Go.Maps
set_option maxRecDepth 100000

/-- The changes as a group of blocks. -/
def grpM (M : Chg) : Grp := M.map fun p => (p.1.toNat, p.2)
theorem grpM_len (M : Chg) : (grpM M).length = M.length := by simp [grpM]
theorem grpM_up (M : Chg) (h : ∀ p ∈ M, 0 ≤ p.1) : up (grpM M) = M := by
  unfold up grpM
  rw [List.map_map]
  conv => rhs; rw [← List.map_id M]
  apply List.map_congr_left
  intro p hp
  have := h p hp
  simp only [Function.comp, id]
  rw [Int.toNat_of_nonneg this]
/-- The changes may be written as one group. -/
theorem grpM_good {n at_ own : Nat} {M : Chg} (ht : Tidy M) (hl : M.length ≤ 200) (hk : ∀ p ∈ M, 0 ≤ p.1 ∧ p.1 < n ∧ (p.1 < at_ ∨ (at_ : Int) + own ≤ p.1)) : Good n at_ own (grpM M) := by
  have hlen := grpM_len M
  have hget : ∀ j, j < M.length → ∃ p, M[j]? = some p ∧ p ∈ M ∧ nob (grpM M) j = p.1.toNat ∧ dat (grpM M) j = p.2 := fun j hj => by
    obtain ⟨p, hp⟩ : ∃ p, M[j]? = some p := ⟨_, List.getElem?_eq_getElem hj⟩
    refine ⟨p, hp, List.mem_of_getElem? hp, ?_, ?_⟩
    · show ((grpM M).getD j (0, [])).1 = _; simp [grpM, List.getD, hp]
    · show ((grpM M).getD j (0, [])).2 = _; simp [grpM, List.getD, hp]
  refine ⟨by omega, fun j hj => ?_, fun j hj => ?_, fun j hj => ?_, fun j hj => ?_, fun j i hj hi => ?_⟩
  · obtain ⟨p, -, hm, e, -⟩ := hget j (by omega); rw [e]; have := hk p hm; omega
  · obtain ⟨p, -, hm, -, e⟩ := hget j (by omega); rw [e]; exact (ht.rows p hm).1
  · obtain ⟨p, -, hm, -, e⟩ := hget j (by omega); rw [e]; exact (ht.rows p hm).2
  · obtain ⟨p, -, hm, e, -⟩ := hget j (by omega); rw [e]; have := hk p hm; omega
  · obtain ⟨p, hp, hm, e, -⟩ := hget j (by omega)
    obtain ⟨q, hq, hm2, e2, -⟩ := hget i (by omega)
    rw [e, e2]
    have h1 := hk p hm
    have h2 := hk q hm2
    have := List.pairwise_iff_getElem.1 ht.up i j (by omega) (by omega) hi
    rw [List.getElem?_eq_getElem (by omega)] at hp hq
    rw [Option.some.inj hp, Option.some.inj hq] at this
    omega
theorem Done.from {w0 : World} {d g n : Nat} {ws : Grp} {mem : Nat → Int} {writes left : Int} {r : Value} {w w1 w' : World} (hb : Below w.heap.size w w1) (h : Done w0 d g n ws mem writes left r w1 w') : Done w0 d g n ws mem writes left r w w' := by
  refine ⟨(Apart.of_below hb).trans h.apart, ?_⟩
  rcases h.out with h' | ⟨k, b, i, h1, h2, h3, h4, h5⟩
  · exact Or.inl h'
  · exact Or.inr ⟨k, b, i, h1, h2, h3, Nat.le_trans hb.size h4, h5⟩
section
variable {w0 : World} {d g n jb cb mb at_ most : Nat} {blocks : Int} {mem : Nat → Int} {writes left : Int} {M : Chg} {w w' : World}
/-- The disk has turned. -/
theorem CSt.disked (h : CSt w0 d g n jb cb mb at_ most blocks mem writes left M w) {mem' : Nat → Int} {writes' left' : Int} (ha : Apart [d, g] w w') (hS : Sys w0 d g n mem' writes' left' w') : CSt w0 d g n jb cb mb at_ most blocks mem' writes' left' M w' :=
  ⟨hS, h.jat.keep ha (by simp; exact h.jd), h.cat.keep ha (by simp; exact h.cd), h.map.keep ha (by simp; exact h.md), h.jd, h.cd, h.md, h.mj, h.new⟩
/-- What is behind a Flush. -/
def Flush (w0 : World) (d g n jb cb mb at_ most : Nat) (blocks : Int) (mem : Nat → Int) (writes left : Int) (M : Chg) (w : World) (e : Ending) (w' : World) : Prop :=
  (e = .returned .nilIface ∧ Apart [d, g, mb] w w' ∧ ∃ left', CSt w0 d g n jb cb mb at_ most blocks (laid (allWs at_ (grpM M)) mem) (writes + (allWs at_ (grpM M)).length) left' [] w' ∧ LeftOk left' ∧ (left = -1 → left' = -1)) ∨
  (∃ (k b : Nat) (i : Int), k < (allWs at_ (grpM M)).length ∧ e = .returned (flt b) ∧ Chain w' [(sCache, sNone), (sJournal, sNone), (sDisk, itoaB i)] (num 50) (flt b) ∧ Apart [d, g] w w' ∧ CSt w0 d g n jb cb mb at_ most blocks (laid ((allWs at_ (grpM M)).take k) mem) (writes + k) 0 M w' ∧ left ≠ -1)
set_option maxHeartbeats 2000000 in
theorem flush_calls (h : CSt w0 d g n jb cb mb at_ most blocks mem writes left M w) (hlo : LeftOk left) (hw : 0 ≤ writes ∧ writes < 400000000) (hm : 1 ≤ most ∧ most ≤ 200) (hat : at_ + needN most ≤ n) (hi : Idle at_ mem) (h1 : 1 ≤ M.length) (h2 : M.length ≤ most) (hk : ∀ p ∈ M, 0 ≤ p.1 ∧ p.1 < n ∧ (p.1 < at_ ∨ (at_ : Int) + needN most ≤ p.1)) :
    Calls Tryz.prog 11 #[ptr cb] w fun e w' => Flush w0 d g n jb cb mb at_ most blocks mem writes left M w e w' := by
  have hfew := h.sys.disk.few
  have hlts := h.lts
  have hgood := grpM_good (own := needN most) h.map.tidy (by omega) hk
  have hup := grpM_up M (fun p hp => (hk p hp).1)
  have kG : ∀ wx, Below w.heap.size w wx → Calls Tryz.prog 28 #[ptr cb] wx fun e w' => ∃ v ps, e = .returned v ∧ GOwn w.heap.size w' v ps ∧ plain ps = M ∧ Below w.heap.size w w' := fun wx hx => by
    refine (cgroup_calls (h.more hx).cat (h.more hx).map (by omega) (fun p hp => by have := hk p hp; constructor <;> omega)).mono ?_
    rintro e w' ⟨v, ps, rfl, hG, hP, hB⟩
    refine ⟨v, ps, rfl, ?_, hP, hx.trans (hB.mono hx.size)⟩
    exact ⟨by
      rcases hG.row.2 with h2 | ⟨g', cap', cur, rfl, h1, rest⟩
      · exact ⟨hG.row.1, .inl h2⟩
      · exact ⟨hG.row.1, .inr ⟨g', cap', cur, rfl, Nat.le_trans hx.size h1, rest⟩⟩, fun p hp => by
      have := hG.data p hp
      exact ⟨Nat.le_trans hx.size this.new, this.lt, this.len, this.bytes, this.row⟩⟩
  have kC : ∀ w2 v ps, GOwn w.heap.size w2 v ps → plain ps = M → Below w.heap.size w w2 → Calls Tryz.prog 27 #[ptr jb, v] w2 fun e w' => ∃ r, e = .returned r ∧ Done w0 d g n (allWs at_ (grpM M)) mem writes left r w w' := fun w2 v ps hG hP hB => by
    have hpl : ps.length = M.length := by have := congrArg List.length hP; simpa [plain] using this
    have hoff := hG.off (d := d) (g := g) (by omega) (by omega) (by omega)
    rw [hP, ← hup] at hoff
    refine (commit_good (h.more hB).sys hlo hw jb at_ most hm (h.more hB).jat h.jd hat hi (grpM M) (by rw [grpM_len]; exact h1) (by rw [grpM_len]; exact h2) hgood v hoff).mono ?_
    rintro e w' ⟨r, rfl, hD⟩
    exact ⟨r, rfl, hD.from hB⟩
  have hF0 := hidden h
  have c0 := h.cat.c0
  have hcl := h.cat.lt
  have c0x : ∀ wx, Below w.heap.size w wx → wx.cell? ⟨cb, 0, none⟩ = some (ptr jb) := fun wx hx => (hx.cell (p := ⟨cb, 0, none⟩) hcl).trans c0
  replace kG := hidden kG
  replace kC := hidden kC
  replace c0x := hidden c0x
  clear h hgood hup hi hk
  have hBd : Below w.heap.size w w.drew := below_drew1 w
  replace hBd := hidden hBd
  go_enter Tryz.func11, Tryz.ntmps11
  go_upto_region 1 with fail
  go_cut [3] (fun x wx => Done w0 d g n (allWs at_ (grpM M)) mem writes left x w wx)
  case first =>
    go_region_with (first
      | (go_at_call 28; refine (kG.out _ hBd.out).mono ?_; rintro ev w2 ⟨v2, ps2, rfl, hG2, hP2, hB2⟩; have c2 := c0x.out _ hB2; have hC2 := hidden (kC.out _ _ _ hG2 hP2 hB2); clear hG2 hP2 hB2)
      | (go_at_call 27; refine (hC2.out).mono ?_; rintro ev w3 ⟨r, rfl, hD⟩; replace hD := hidden hD))
    all_goals (go_wp2; go_meet; case rel => exact hD.out)
  case rest =>
    rcases hcut.out with ⟨rfl, left', hS, hl1, hl2⟩ | ⟨k, b, i, hk, rfl, hc, hb, hS, hl⟩
    · have hC := hF0.out.disked hcut.apart hS
      have hD := hidden (drop_calls hC)
      have hA := hidden hcut.apart
      have hl3 := hidden (And.intro hl1 hl2)
      clear hcut hS hC kG kC c0x c0 hl1 hl2
      go_wp2_with fail
      refine (hD.out).mono ?_
      rintro ev w4 ⟨rfl, hC4, hA4⟩
      have hE := hidden (And.intro ((hA.out.mono (cs := [d, g, mb]) (by simp)).trans (hA4.mono (cs := [d, g, mb]) (by simp))) hC4)
      clear hC4 hA4 hD
      go_wp2
      go_ret
      exact Or.inl ⟨rfl, hE.out.1, left', hE.out.2, hl3.out⟩
    · have hC := hidden (hF0.out.disked hcut.apart hS)
      have hA := hidden hcut.apart
      replace hc := hidden hc
      replace hk := hidden hk
      replace hl := hidden hl
      clear hcut hS kG kC c0x c0
      go_wp2_with fail
      refine (wrap_some sCache sNone _ _ wc).mono ?_
      rintro ev w4 ⟨rfl, rfl⟩
      have hB4 : Below wc.heap.size wc (wc.alloc (fcells sCache sNone (flt b))) := (Below.refl _ _).alloc (Nat.le_refl _) _
      have hE := hidden (And.intro (Chain.alloc (w := wc) sCache sNone hc.out) (And.intro (hA.out.trans (Apart.of_below hB4)) (hC.out.more hB4)))
      clear hB4
      generalize wc.alloc (fcells sCache sNone (flt b)) = w5 at hE ⊢
      go_wp2
      go_ret
      exact Or.inr ⟨k, _, i, hk.out, rfl, hE.out.1, hE.out.2.1, hE.out.2.2, hl.out⟩
theorem flush_none (h : CSt w0 d g n jb cb mb at_ most blocks mem writes left [] w) (hm : 1 ≤ most ∧ most ≤ 200) (hat : at_ + needN most ≤ n) :
    Calls Tryz.prog 11 #[ptr cb] w fun e w' => e = .returned .nilIface ∧ CSt w0 d g n jb cb mb at_ most blocks mem writes left [] w' ∧ Apart [mb] w w' := by
  have hlts := h.lts
  have kG : ∀ wx, Below w.heap.size w wx → Calls Tryz.prog 28 #[ptr cb] wx fun e w' => ∃ v ps, e = .returned v ∧ GOwn wx.heap.size w' v ps ∧ plain ps = [] ∧ Below w.heap.size w w' := fun wx hx => by
    refine (cgroup_calls (h.more hx).cat (h.more hx).map (by simp) (fun p hp => by cases hp)).mono ?_
    rintro e w' ⟨v, ps, rfl, hG, hP, hB⟩
    exact ⟨v, ps, rfl, hG, hP, hx.trans (hB.mono hx.size)⟩
  have kC : ∀ w2 v, GAt w2 v [] → Below w.heap.size w w2 → Calls Tryz.prog 27 #[ptr jb, v] w2 fun e w' => e = .returned .nilIface ∧ Below w.heap.size w w' := fun w2 v hv hB =>
    (commit_none (h.more hB).sys jb at_ most hm (h.more hB).jat hat v hv).mono fun _ _ ⟨h1, h2⟩ => ⟨h1, hB.trans (h2.mono hB.size)⟩
  have hF0 := hidden h
  have c0 := h.cat.c0
  have hcl := h.cat.lt
  have c0x : ∀ wx, Below w.heap.size w wx → wx.cell? ⟨cb, 0, none⟩ = some (ptr jb) := fun wx hx => (hx.cell (p := ⟨cb, 0, none⟩) hcl).trans c0
  replace kG := hidden kG
  replace kC := hidden kC
  replace c0x := hidden c0x
  clear h
  have hBd : Below w.heap.size w w.drew := below_drew1 w
  replace hBd := hidden hBd
  go_enter Tryz.func11, Tryz.ntmps11
  go_upto_region 1 with fail
  go_cut [3] (fun x wx => x = .nilIface ∧ Below w.heap.size w wx)
  case first =>
    go_region_with (first
      | (go_at_call 28; refine (kG.out _ hBd.out).mono ?_; rintro ev w2 ⟨v2, ps2, rfl, hG2, hP2, hB2⟩; have c2 := c0x.out _ hB2; have hC2 := hidden (kC.out _ _ (by have := hG2.at (by have := congrArg List.length hP2; simp [plain] at this; simp [this]); rw [hP2] at this; exact this) hB2); clear hG2 hP2 hB2)
      | (go_at_call 27; refine (hC2.out).mono ?_; rintro ev w3 ⟨rfl, hD⟩; replace hD := hidden hD))
    all_goals (go_wp2; go_meet; case rel => exact ⟨rfl, hD.out⟩)
  case rest =>
    obtain ⟨rfl, hB⟩ := hcut
    have hD := hidden (drop_calls (hF0.out.more hB))
    replace hB := hidden hB
    clear kG kC c0x c0
    go_wp2_with fail
    refine (hD.out).mono ?_
    rintro ev w4 ⟨rfl, hC4, hA4⟩
    have hE := hidden (And.intro hC4 ((Apart.of_below hB.out).trans hA4))
    clear hC4 hA4 hD
    go_wp2
    go_ret
    exact ⟨rfl, hE.out⟩
end
end Go.Proofs.YtkaippiblpedhaaGreatDoor
