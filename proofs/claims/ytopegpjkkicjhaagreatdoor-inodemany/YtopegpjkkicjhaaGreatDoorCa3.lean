/- The Cache's New, Read, Write and Drop. -/
import Derived.Test.YtopegpjkkicjhaaGreatDoorCa2
namespace Go.Proofs.YtopegpjkkicjhaaGreatDoor
open Go.RowKit Go.Extern.Stop Go.Stop Go.Extern
set_option maxRecDepth 100000

/-- What holds of a Cache over a Journal over a Disk, between two calls. -/
structure CSt (w0 : World) (d g n jb cb mb at_ most : Nat) (blocks : Int) (mem : Nat → Int) (writes left : Int) (M : Chg) (w : World) : Prop where
  sys : Sys w0 d g n mem writes left w
  jat : JAt jb d at_ most w
  cat : CAt cb jb mb blocks w
  map : MapAt w mb M
  jd : jb ≠ d ∧ jb ≠ g
  cd : cb ≠ d ∧ cb ≠ g
  md : mb ≠ d ∧ mb ≠ g
  mj : jb ≠ mb ∧ cb ≠ mb
  new : w0.heap.size ≤ mb
section
variable {w0 : World} {d g n jb cb mb at_ most : Nat} {blocks : Int} {mem : Nat → Int} {writes left : Int} {M : Chg} {w w' : World}
theorem CSt.more (h : CSt w0 d g n jb cb mb at_ most blocks mem writes left M w) (hb : Below w.heap.size w w') : CSt w0 d g n jb cb mb at_ most blocks mem writes left M w' :=
  ⟨h.sys.more hb, h.jat.below hb, h.cat.below hb, h.map.below hb, h.jd, h.cd, h.md, h.mj, h.new⟩
/-- Only the map has turned. -/
theorem CSt.turn (h : CSt w0 d g n jb cb mb at_ most blocks mem writes left M w) {M' : Chg} (ha : Apart [mb] w w') (hm : MapAt w' mb M') : CSt w0 d g n jb cb mb at_ most blocks mem writes left M' w' :=
  ⟨⟨h.sys.base, h.sys.disk.apart_of ha (by simpa using h.md.1.symm) (by simpa using h.md.2.symm), h.sys.below.trans (ha.below (by simpa using h.new) h.sys.below.size), h.sys.hd, h.sys.hg⟩, h.jat.keep ha (by simpa using h.mj.1), h.cat.keep ha (by simpa using h.mj.2), hm, h.jd, h.cd, h.md, h.mj, h.new⟩
/-- What a block holds, changed or not. -/
def nowM (mem : Nat → Int) (M : Chg) (no : Nat) : List Int := getM no M (blockL mem no)
theorem getM_any {k : Int} {M : Chg} (h : hasM k M = true) (y z : List Int) : getM k M y = getM k M z := by
  unfold getM
  cases hf : M.find? (fun p => decide (p.1 = k)) with
  | some p => rfl
  | none =>
    obtain ⟨p, hp, e⟩ := hasM_iff.1 h
    have := List.find?_eq_none.1 hf p hp
    simp [e] at this
theorem now_calls (h : CSt w0 d g n jb cb mb at_ most blocks mem writes left M w) (hl : left ≠ 0) (no : Nat) (hno : no < n) :
    Calls Tryz.prog 63 #[ptr cb, .int .i64 no] w fun e w' => ∃ b, e = .returned (.tuple #[.slice (some ⟨b, 0, none⟩) 128 128, .nilIface]) ∧ Lie w' b (nowM mem M no) ∧ w.heap.size ≤ b ∧ Below w.heap.size w w' := by
  have hfew := h.sys.disk.few
  unfold nowM
  cases hh : hasM no M with
  | true =>
    rw [getM_any hh _ zeroRow]
    exact now_hit h.cat h.map no ⟨by omega, by omega⟩ hh
  | false =>
    rw [getM_none hh]
    exact now_miss h.sys hl h.jat h.cat h.map no hno hh
theorem read_calls (h : CSt w0 d g n jb cb mb at_ most blocks mem writes left M w) (hl : left ≠ 0) (no : Nat) (hno : no < n) (hnb : (no : Int) < blocks) :
    Calls Tryz.prog 84 #[ptr cb, .int .i64 no] w fun e w' => ∃ b, e = .returned (.tuple #[.slice (some ⟨b, 0, none⟩) 128 128, .nilIface]) ∧ Lie w' b (nowM mem M no) ∧ w.heap.size ≤ b ∧ Below w.heap.size w w' := by
  have hfew := h.sys.disk.few
  have hH := has_calls h.cat no
  rw [decide_eq_true (show 0 ≤ (no : Int) ∧ (no : Int) < blocks from ⟨by omega, hnb⟩)] at hH
  replace hH := hidden hH
  have hN := hidden (now_calls h hl no hno)
  have hG := h.sys.ground
  have hi : i64 no := ⟨by omega, by omega⟩
  replace hG := hidden hG
  replace hi := hidden hi
  clear h
  go_enter Tryz.func84, Tryz.ntmps84
  go_wp2_with fail
  refine (hH.out).mono ?_
  rintro ev w1 ⟨rfl, rfl⟩
  go_wp2_with fail
  refine (hN.out).mono ?_
  rintro ev w2 ⟨b, rfl, hL, hb, hB⟩
  have hC := hidden (cwrong_nil no hi.out w2 (hG.out.below hB))
  replace hL := hidden hL
  replace hB := hidden hB
  clear hN hH
  go_wp2_with fail
  refine (hC.out).mono ?_
  rintro ev w3 ⟨rfl, hB3⟩
  have hE := hidden (And.intro (hL.out.below hB3) (And.intro hb (hB.out.trans (hB3.mono hB.out.size))))
  clear hC hB3 hL hB
  go_wp2
  go_ret2
  exact ⟨b, rfl, hE.out⟩
theorem cread_bad (h : CSt w0 d g n jb cb mb at_ most blocks mem writes left M w) (no : Int) (hi : i64 no) (hno : ¬ (0 ≤ no ∧ no < blocks)) :
    Calls Tryz.prog 84 #[ptr cb, .int .i64 no] w fun e w' => ∃ b, e = .returned (.tuple #[.slice none 0 0, flt b]) ∧ Chain w' [(sCache, itoaB no)] (num 1) (flt b) ∧ w.heap.size ≤ b ∧ Below w.heap.size w w' := by
  have hH := has_calls h.cat no
  rw [decide_eq_false hno] at hH
  replace hH := hidden hH
  have hC := hidden (cwrong_some no hi w h.sys.ground [] (num 1) _ _ rfl)
  clear h
  replace hno := hidden hno
  go_enter Tryz.func84, Tryz.ntmps84
  go_wp2_with fail
  refine (hH.out).mono ?_
  rintro ev w1 ⟨rfl, rfl⟩
  go_wp2_with fail
  refine (hC.out).mono ?_
  rintro ev w2 ⟨b, rfl, hE⟩
  replace hE := hidden hE
  go_wp2
  go_ret2
  exact ⟨b, rfl, hE.out⟩
/-- Bytes laid over others from a place on. -/
def layL (old : List Int) (at_ : Nat) (zs : List Int) : List Int := old.take at_ ++ zs ++ old.drop (at_ + zs.length)
theorem layL_row {old zs : List Int} {at_ : Nat} (ho : Row old) (hz : ∀ z ∈ zs, 0 ≤ z ∧ z ≤ 255) (ha : at_ + zs.length ≤ 128) : Row (layL old at_ zs) := by
  refine ⟨by simp [layL, ho.1]; omega, fun z h => ?_⟩
  unfold layL at h
  rcases List.mem_append.1 h with h | h
  · rcases List.mem_append.1 h with h | h
    · exact ho.2 z (List.mem_of_mem_take h)
    · exact hz z h
  · exact ho.2 z (List.mem_of_mem_drop h)
theorem layL_get {old zs : List Int} {at_ : Nat} (ho : Row old) (ha : at_ + zs.length ≤ 128) (k : Nat) : (layL old at_ zs).getD k 0 = if at_ ≤ k ∧ k < at_ + zs.length then zs.getD (k - at_) 0 else old.getD k 0 := by
  have hl : (old.take at_).length = at_ := by simp [ho.1]; omega
  unfold layL
  simp only [List.getD_eq_getElem?_getD]
  by_cases h1 : k < at_
  · rw [if_neg (by omega), List.append_assoc, List.getElem?_append_left (by omega), List.getElem?_take, if_pos h1]
  · by_cases h2 : k < at_ + zs.length
    · rw [if_pos ⟨by omega, h2⟩, List.append_assoc, List.getElem?_append_right (by omega), hl, List.getElem?_append_left (by omega)]
    · rw [if_neg (by omega), List.getElem?_append_right (by simp [hl]; omega), List.getElem?_drop]
      congr 2
      simp [hl]
      omega
/-- A row behind a copy. -/
theorem Lie.laid {b : Nat} {old : List Int} (h : Lie w b old) (at_ : Nat) (zs : List Int) (hz : ∀ z ∈ zs, 0 ≤ z ∧ z ≤ 255) (ha : at_ + zs.length ≤ 128) : Lie (w.setCells b at_ (zs.map (Value.int .u8))) b (layL old at_ zs) := by
  refine ⟨fun k hk => ?_, fun k hk => by rw [World.frozen?_setCells]; exact h.free k hk, layL_row h.row hz ha⟩
  rw [layL_get h.row ha k]
  by_cases h1 : at_ ≤ k ∧ k < at_ + zs.length
  · rw [if_pos h1]
    have := World.cell?_setCells_in b (zs.map (Value.int .u8)) at_ w (fun j hj => by rw [h.cell (at_ + j) (by simp at hj; omega)]; rfl) (k - at_) (by simp; omega)
    rw [show at_ + (k - at_) = k by omega] at this
    rw [this]
    simp [List.getD, show k - at_ < zs.length by omega]
  · rw [if_neg h1, World.cell?_setCells_out b _ _ w ⟨b, k, none⟩ (fun _ _ => by show k < _ ∨ _ ≤ k; simp; omega)]
    exact h.cell k hk
theorem copy_row {b : Nat} {old : List Int} (h : Lie w b old) (at_ : Nat) (v : Value) (zs : List Int) (hv : BytesAt w v zs) (ha : at_ + zs.length ≤ 128) (ty : TypeId) :
    ∃ r, ∀ p : Option Addr, (at_ = 128 ∨ p = some ⟨b, at_, none⟩) → (Builtin.copy_ #[34, 34] ty #[.slice p (128 - at_) (128 - at_), v]).run Tryz.prog w = .ok r (w.setCells b at_ (zs.map (Value.int .u8))) := by
  obtain ⟨a, vcap, rfl, hr, hm, hn, hc⟩ := hv
  by_cases hz : zs = []
  · subst hz
    exact ⟨_, fun p _ => run_copy_none (P := Tryz.prog) w 34 34 ty 5 p a (128 - at_) (128 - at_) 0 vcap Tryz.underlying34 Tryz.sizeByte (by simp)⟩
  · have hl : 0 < zs.length := List.length_pos_iff.2 hz
    obtain ⟨b', off, rfl, hb, hcell⟩ := hc hz
    have key := run_copy_cells (P := Tryz.prog) w 34 34 ty 5 b at_ (128 - at_) (128 - at_) ⟨b', off, none⟩ zs.length vcap (zs.map (Value.int .u8)) Tryz.underlying34 Tryz.sizeByte (by simp [Nat.min_def]; omega) (fun j u hu => by
      have hj : j < zs.length := by
        rcases Nat.lt_or_ge j zs.length with h | h
        · exact h
        · rw [List.getElem?_eq_none (by simpa using h)] at hu; cases hu
      rw [getD_map hj] at hu
      rw [Go.WideShapes.add_plain, hcell j hj]
      exact hu) (fun j hj => by rw [h.cell (at_ + j) (by simp at hj; omega)]; rfl) (fun j hj => h.free _ (by simp at hj; omega)) (by intro u hu; obtain ⟨z, _, rfl⟩ := List.mem_map.1 hu; rfl)
    exact ⟨_, fun p hp => by rw [hp.resolve_left (by omega)]; exact key⟩
theorem cwrite_bad (h : CSt w0 d g n jb cb mb at_ most blocks mem writes left M w) (no at1 : Int) (hi : i64 no) (h1 : i64 at1) (v : Value) (zs : List Int) (hv : BytesAt w v zs) (hno : ¬ (0 ≤ no ∧ no < blocks ∧ 0 ≤ at1 ∧ at1 + zs.length ≤ 128)) :
    Calls Tryz.prog 33 #[ptr cb, .int .i64 no, .int .i64 at1, v] w fun e w' => ∃ b, e = .returned (flt b) ∧ Chain w' [(sCache, itoaB no)] (num 1) (flt b) ∧ w.heap.size ≤ b ∧ Below w.heap.size w w' := by
  have hH := has_calls h.cat no
  have hC := hidden (cwrong_some no hi w h.sys.ground [] (num 1) _ _ rfl)
  obtain ⟨a, vcap, rfl, -, hm, -, -⟩ := hv
  have hm' : (zs.length : Int) ≤ 9223372036854775807 := by unfold maxLen at hm; omega
  generalize zs.length = L at hno hm'
  clear h
  by_cases hin : 0 ≤ no ∧ no < blocks
  · rw [decide_eq_true hin] at hH
    replace hH := hidden hH
    by_cases hneg : at1 < 0
    · replace hno := hidden hno
      go_enter Tryz.func33, Tryz.ntmps33
      go_wp2_with fail
      refine (hH.out).mono ?_
      rintro ev w1 ⟨rfl, rfl⟩
      go_wp2_with fail
      refine (hC.out).mono ?_
      rintro ev w2 ⟨b, rfl, hE⟩
      replace hE := hidden hE
      go_wp2
      go_ret
      exact ⟨b, rfl, hE.out⟩
    · have hbig : (128 : Int) - (L : Int) < at1 := by omega
      replace hno := hidden hno
      go_enter Tryz.func33, Tryz.ntmps33
      go_wp2_with fail
      refine (hH.out).mono ?_
      rintro ev w1 ⟨rfl, rfl⟩
      go_wp2_with fail
      refine (hC.out).mono ?_
      rintro ev w2 ⟨b, rfl, hE⟩
      replace hE := hidden hE
      go_wp2
      go_ret
      exact ⟨b, rfl, hE.out⟩
  · rw [decide_eq_false hin] at hH
    replace hH := hidden hH
    replace hno := hidden hno
    go_enter Tryz.func33, Tryz.ntmps33
    go_wp2_with fail
    refine (hH.out).mono ?_
    rintro ev w1 ⟨rfl, rfl⟩
    go_wp2_with fail
    refine (hC.out).mono ?_
    rintro ev w2 ⟨b, rfl, hE⟩
    replace hE := hidden hE
    go_wp2
    go_ret
    exact ⟨b, rfl, hE.out⟩
theorem cwrite_big (h : CSt w0 d g n jb cb mb at_ most blocks mem writes left M w) (no : Int) (at1 : Nat) (hi : i64 no) (v : Value) (zs : List Int) (hv : BytesAt w v zs) (hno : 0 ≤ no ∧ no < blocks) (hat : at1 + zs.length ≤ 128) (hh : hasM no M = false) (hbig : most ≤ M.length) :
    Calls Tryz.prog 33 #[ptr cb, .int .i64 no, .int .i64 at1, v] w fun e w' => ∃ b, e = .returned (flt b) ∧ Chain w' [(sCache, itoaB no)] (num 5) (flt b) ∧ w.heap.size ≤ b ∧ Below w.heap.size w w' := by
  have hH := has_calls h.cat no
  rw [decide_eq_true hno] at hH
  replace hH := hidden hH
  have hT := ctakes_calls h.jat h.cat h.map no hi
  rw [hh, decide_eq_false (by omega)] at hT
  replace hT := hidden hT
  have hG := hidden h.sys.ground
  have hC := hidden (fun w2 (hB : Below w.heap.size w w2) => cwrong_some no hi w2 (hG.out.below hB) [] (num 5) _ _ rfl)
  obtain ⟨a, vcap, rfl, -, hm, -, -⟩ := hv
  generalize zs.length = L at hat
  clear h hbig hm
  have hat' : ¬ (128 : Int) - (L : Int) < (at1 : Int) := by omega
  have hL : L ≤ 128 := by omega
  go_enter Tryz.func33, Tryz.ntmps33
  go_wp2_with fail
  refine (hH.out).mono ?_
  rintro ev w1 ⟨rfl, rfl⟩
  go_wp2_with fail
  refine (hT.out).mono ?_
  rintro ev w2 ⟨rfl, hB⟩
  replace hB := hidden hB
  go_wp2_with fail
  refine (hC.out w2 hB.out).mono ?_
  rintro ev w3 ⟨b, rfl, hc, hb, hB3⟩
  have hE := hidden (And.intro hc (And.intro (Nat.le_trans hB.out.size hb) (hB.out.trans (hB3.mono hB.out.size))))
  clear hc hb hB3
  go_wp2
  go_ret
  exact ⟨b, rfl, hE.out⟩
end
end Go.Proofs.YtopegpjkkicjhaaGreatDoor
