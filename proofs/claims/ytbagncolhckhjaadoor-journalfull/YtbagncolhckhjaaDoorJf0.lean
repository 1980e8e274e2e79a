/- Groups that the statement JournalFull makes. -/
import Derived.Test.YtbagncolhckhjaaDoorJr3
namespace Go.Proofs.YtbagncolhckhjaaDoor
open Go.RowKit Go.Extern.Stop Go.Stop Go.Extern
set_option maxRecDepth 100000

theorem Apart.of_low {B : Nat} {w w' : World} (h : Below B w w') : Apart ((List.range w.heap.size).filter (fun k => decide (B ≤ k))) w w' :=
  ⟨h.os, h.tape, h.output, h.size, fun k hk hn => h.block k (by
    rcases Nat.lt_or_ge k B with h' | h'
    · exact h'
    · exact absurd (List.mem_filter.2 ⟨List.mem_range.2 hk, by simpa using h'⟩) hn)⟩
theorem Sys.low {w0 : World} {d g n : Nat} {mem : Nat → Int} {writes left : Int} {w w' : World} {B : Nat} (h : Sys w0 d g n mem writes left w) (hb : Below B w w') (hd : d < B) (hg : g < B) (h0 : w0.heap.size ≤ B) : Sys w0 d g n mem writes left w' :=
  ⟨h.base, h.disk.apart_of (Apart.of_low hb) (by simp; omega) (by simp; omega), h.below.trans (hb.mono h0), h.hd, h.hg⟩
abbrev noF : Nat → Nat := fun j => 60 + j
abbrev fF : Nat → Int := fun j => (j : Int) + 1
theorem needF (M : Nat) (h : M ≤ 20) : needN M ≤ 24 := by unfold needN rowsN; omega
theorem goodF (M : Nat) (h : M ≤ 20) : Good 120 5 (needN M) (seqG noF fF M) :=
  seqG_good _ _ _ _ _ _ (by omega) (fun k hk => by show 60 + k < 120; omega) (fun k hk => Or.inr (by show 5 + needN M ≤ 60 + k; have := needF M h; omega)) (fun k j _ hj => by show 60 + j ≠ 60 + k; omega)
theorem row_tail {w : World} {b : Nat} {zs : List Int} (h : BytesAt w (.slice (some ⟨b, 0, none⟩) 128 128) zs) (hl : zs.length = 128) : BytesAt w (.slice (some ⟨b, 1, none⟩) 127 127) (zs.drop 1) := by
  obtain ⟨a, c, hv, hr, hm, -, hc⟩ := h
  obtain ⟨b2, o2, ha, hlt, hcell⟩ := hc (by intro e; rw [e] at hl; simp at hl)
  have he := (Value.slice.inj hv).1
  subst ha
  simp only [Option.some.injEq, Addr.mk.injEq] at he
  obtain ⟨rfl, rfl, -⟩ := he
  refine ⟨some ⟨b, 1, none⟩, 127, by simp [hl], fun z hz => hr z (List.mem_of_mem_drop hz), by simp [hl, maxLen], fun e => (by cases e), fun _ => ⟨b, 1, rfl, hlt, fun k hk => ?_⟩⟩
  have hk' : k < 127 := by simp [hl] at hk; omega
  have := hcell (1 + k) (by omega)
  rw [Nat.zero_add] at this
  rw [this, Nat.add_comm 1 k]
  simp [List.getD]
/-- One block, however long its bytes. -/
theorem gat_one (w : World) (no : Int) (a : Option Addr) (n c : Nat) (zs : List Int) (hx : BytesAt w (.slice a n c) zs) : GAt (w.alloc (.cells #[.int .i64 no, .slice a n c] 35)) (.slice (some ⟨w.heap.size, 0, none⟩) 1 1) [(no, zs)] := by
  refine ⟨_, 1, rfl, by simp, fun _ => ⟨w.heap.size, 0, rfl, by simp, fun k hk => ?_⟩⟩
  have : k = 0 := by simpa using hk
  subst this
  exact ⟨by simp, _, by simp, hx.below ((Below.refl _ _).alloc (Nat.le_refl _) _)⟩
theorem gat_two (w : World) (no no2 : Int) (a a2 : Option Addr) (n c n2 c2 : Nat) (zs zs2 : List Int) (hx : BytesAt w (.slice a n c) zs) (hx2 : BytesAt w (.slice a2 n2 c2) zs2) : GAt (w.alloc (.cells #[.int .i64 no, .slice a n c, .int .i64 no2, .slice a2 n2 c2] 35)) (.slice (some ⟨w.heap.size, 0, none⟩) 2 2) [(no, zs), (no2, zs2)] := by
  have hb : Below w.heap.size w (w.alloc (.cells #[.int .i64 no, .slice a n c, .int .i64 no2, .slice a2 n2 c2] 35)) := (Below.refl _ _).alloc (Nat.le_refl _) _
  refine ⟨_, 2, rfl, by simp, fun _ => ⟨w.heap.size, 0, rfl, by simp, fun k hk => ?_⟩⟩
  match k, hk with
  | 0, _ => exact ⟨by simp, _, by simp, hx.below hb⟩
  | 1, _ => exact ⟨by simp, _, by simp, hx2.below hb⟩
theorem bad_twice (N at_ own : Nat) (x : Int) (zs ys : List Int) : ¬ ∀ k, k < ([(x, zs), (x, ys)] : List (Int × List Int)).length → OkAt N at_ own [(x, zs), (x, ys)] k := fun h => (h 1 (by simp)).once 0 (by omega) rfl
theorem bad_own (N at_ own : Nat) (x : Int) (zs : List Int) (h1 : (at_ : Int) ≤ x) (h2 : x < (at_ : Int) + own) : ¬ ∀ k, k < ([(x, zs)] : List (Int × List Int)).length → OkAt N at_ own [(x, zs)] k := fun h => by
  have := (h 0 (by simp)).out
  have e : xno [(x, zs)] 0 = x := rfl
  rw [e] at this
  omega
theorem bad_short (N at_ own : Nat) (x : Int) (zs : List Int) (h1 : zs.length ≠ 128) : ¬ ∀ k, k < ([(x, zs)] : List (Int × List Int)).length → OkAt N at_ own [(x, zs)] k := fun h => h1 (h 0 (by simp)).len
theorem GOwn.empty (base : Nat) (w : World) (hb : base ≤ w.heap.size) : GOwn base (w.alloc (.cells #[] 35)) (.slice (some ⟨w.heap.size, 0, none⟩) 0 0) [] :=
  ⟨World.ownsRow_lit (base := base) (e := 35) (size := 2) w #[] 0 hb (by decide) rfl, fun q hq => by cases hq⟩
/-- As many as may be and one more. -/
theorem okF (M : Nat) (h : M ≤ 20) (xs : List (Int × List Int)) (hx : xs = up (seqG noF fF M ++ [(100, fillL 0)])) : ∀ k, k < xs.length → OkAt 120 5 (needN M) xs k := by
  have hg : Good 120 5 (needN M) (seqG noF fF M ++ [(100, fillL 0)]) := by
    have hl := seqG_len noF fF M
    have g0 := goodF M h
    have e : ∀ k, k < M → (seqG noF fF M ++ [(100, fillL 0)]).getD k (0, []) = (60 + k, fillL (fF k)) := fun k hk => by
      rw [← seqG_get noF fF M k hk]; simp [List.getD, List.getElem?_append_left (show k < (seqG noF fF M).length by omega)]
    have e2 : (seqG noF fF M ++ [(100, fillL 0)]).getD M (0, []) = (100, fillL 0) := by simp [List.getD, hl]
    have hlen : (seqG noF fF M ++ [(100, fillL 0)]).length = M + 1 := by simp [hl]
    have hn := needF M h
    refine ⟨by omega, fun k hk => ?_, fun k hk => ?_, fun k hk => ?_, fun k hk => ?_, fun k j hk hj => ?_⟩
    all_goals (rw [hlen] at hk; rcases Nat.lt_or_ge k M with hkM | hkM)
    · show ((seqG noF fF M ++ [(100, fillL 0)]).getD k (0, [])).1 < 120; rw [e k hkM]; show 60 + k < 120; omega
    · obtain rfl : k = M := by omega
      show ((seqG noF fF k ++ [(100, fillL 0)]).getD k (0, [])).1 < 120; rw [e2]; decide
    · show ((seqG noF fF M ++ [(100, fillL 0)]).getD k (0, [])).2.length = 128; rw [e k hkM]; exact fillL_len _
    · obtain rfl : k = M := by omega
      show ((seqG noF fF k ++ [(100, fillL 0)]).getD k (0, [])).2.length = 128; rw [e2]; exact fillL_len _
    · show ∀ z ∈ ((seqG noF fF M ++ [(100, fillL 0)]).getD k (0, [])).2, _; rw [e k hkM]; exact fillL_range _
    · obtain rfl : k = M := by omega
      show ∀ z ∈ ((seqG noF fF k ++ [(100, fillL 0)]).getD k (0, [])).2, _; rw [e2]; exact fillL_range _
    · right; show 5 + needN M ≤ ((seqG noF fF M ++ [(100, fillL 0)]).getD k (0, [])).1; rw [e k hkM]; show 5 + needN M ≤ 60 + k; omega
    · obtain rfl : k = M := by omega
      right; show 5 + needN k ≤ ((seqG noF fF k ++ [(100, fillL 0)]).getD k (0, [])).1; rw [e2]; show 5 + needN k ≤ 100; omega
    · show ((seqG noF fF M ++ [(100, fillL 0)]).getD j (0, [])).1 ≠ ((seqG noF fF M ++ [(100, fillL 0)]).getD k (0, [])).1; rw [e k hkM, e j (by omega)]; show 60 + j ≠ 60 + k; omega
    · obtain rfl : k = M := by omega
      show ((seqG noF fF k ++ [(100, fillL 0)]).getD j (0, [])).1 ≠ ((seqG noF fF k ++ [(100, fillL 0)]).getD k (0, [])).1; rw [e2, e j (by omega)]; show 60 + j ≠ 100; omega
  subst hx
  exact hg.ok
end Go.Proofs.YtbagncolhckhjaaDoor
