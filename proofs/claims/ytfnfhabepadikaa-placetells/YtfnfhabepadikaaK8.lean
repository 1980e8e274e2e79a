/- slices.SortFunc at a list of ranges of one's own, by where they begin. -/
import Derived.Test.YtfnfhabepadikaaK7
import Derived.Test.YtfnfhabepadikaaShelf5
namespace Go.Proofs.Ytfnfhabepadikaa
open Go Go.RowKit Go.Sort Go.Shelf
set_option maxRecDepth 100000

def enR (x : Rg) : List Value := [.int .i64 x.1, .int .i64 x.2]
def cmpR (x y : Rg) : Int := Lib.compareInt x.1 y.1
theorem ltR (x y : Rg) : ltOf cmpR x y = decide (x.1 < y.1) := by
  unfold ltOf cmpR Lib.compareInt
  by_cases h1 : x.1 < y.1
  · simp [h1]
  · by_cases h2 : y.1 < x.1 <;> simp [h1, h2]
theorem swoR : SWO (ltOf cmpR) where
  irrefl x := by rw [ltR]; simp
  trans x y z h1 h2 := by rw [ltR] at *; simp at *; omega
  ntrans x y z h1 h2 := by rw [ltR] at *; simp at *; omega
set_option maxHeartbeats 1000000 in
theorem clos_calls (x y : Rg) (W : World) : Calls Try.prog 31 #[.agg #[.int .i64 x.1, .int .i64 x.2], .agg #[.int .i64 y.1, .int .i64 y.2]] W fun e w' => e = .returned (.int .i64 (cmpR x y)) ∧ ∃ q os', w' = grow (W.drewN q) os' := by
  have hcon := hidden (fun W' => AnyG.cmp_Compare_int Try.cmpInt x.1 y.1 W')
  have hcon2 : Hid (∀ W', Calls Try.prog 32 #[.int .i64 x.1, .int .i64 y.1] W' fun e w' => e = .returned (.int .i64 (cmpR x y)) ∧ w' = W') := hcon
  generalize cmpR x y = r at hcon2 ⊢
  clear hcon
  go_enter Try.func31, Try.ntmps31
  go_wp2_with fail
  refine (hcon2.out _).mono ?_
  rintro e w' ⟨rfl, rfl⟩
  go_wp2
  go_ret
  exact ⟨rfl, 0, _, by rw [alloc_eq_grow, alloc_eq_grow, grow_grow]; rfl⟩
theorem closLays (blk off size : Nat) (w : World) : CmpLays Try.prog 31 #[] enR 2 cmpR blk off size w :=
  fun _ _ _ _ x y => clos_calls x y _
theorem RgOwn.holds {base : Nat} {w : World} {g n cap : Nat} {L : List Rg} (h : RgOwn base w (.slice (some ⟨g, 0, none⟩) n cap) L) (hn : L ≠ []) : HoldsK enR 2 w g 0 L.toArray := by
  obtain ⟨g', cap', hv, h1, h2, h3, h4, h5⟩ := h.lt hn
  obtain ⟨e, -, rfl⟩ := Value.slice.inj hv
  simp only [Option.some.injEq, Addr.mk.injEq] at e
  obtain ⟨rfl, -⟩ := e
  intro j hj
  have hj' : j < L.length * 2 := by simpa using hj
  have hk : j / 2 < L.length := by omega
  obtain ⟨c0, c1⟩ := h5 (j / 2) _ (List.getElem?_eq_getElem hk)
  rw [Nat.zero_add]
  refine ⟨?_, h4 j⟩
  have hgd : L.toArray[j / 2]! = L[j / 2] := by rw [getElem!_pos L.toArray (j / 2) (by simpa using hk)]; simp
  rw [get_flatK _ _ _ _ (by simpa using hj'), hgd]
  rcases Nat.mod_two_eq_zero_or_one j with h | h
  · have e : j = j / 2 * 2 := by omega
    rw [h, show (⟨g, j, none⟩ : Addr) = ⟨g, j / 2 * 2, none⟩ by rw [← e], c0]; simp [enR]
  · have e : j = j / 2 * 2 + 1 := by omega
    rw [h, show (⟨g, j, none⟩ : Addr) = ⟨g, j / 2 * 2 + 1, none⟩ by rw [← e], c1]; simp [enR]
theorem sort_below {base : Nat} (w : World) (g off m : Nat) (d : Array Rg) (os : Array Obj) (hb : base ≤ g) (hw : base ≤ w.heap.size) : Go.RowKit.Below base w (sortWorldK enR 2 w g off m d os) := by
  have hs : (sortWorldK enR 2 w g off m d os).heap = (w.heap.modify g (onCells (putCells id off (flatK enR 2 d)))) ++ os := rfl
  refine ⟨rfl, rfl, rfl, ?_, fun k hk => ?_⟩
  · rw [hs]; simp
  · rw [hs, Array.getElem?_append_left (by simp; omega), Array.getElem?_modify, if_neg (by omega)]
theorem sort_holds (w : World) (g m : Nat) (d0 d : Array Rg) (os : Array Obj) (hg : g < w.heap.size) (h : HoldsK enR 2 w g 0 d0) (hs : d.size = d0.size) : HoldsK enR 2 (sortWorldK enR 2 w g 0 m d os) g 0 d := by
  refine holdsK_grow _ _ _ _ _ _ _ (by rw [putRowK, size_putRow]; exact hg) ?_
  exact holdsK_putRowK _ _ _ _ _ d0 d (holdsK_ahead _ _ _ _ _ _ _ h) hs
theorem sorted_pair {d : Array Rg} (h : SortedIn (ltOf cmpR) 0 d.size d) : d.toList.Pairwise (fun a b => a.1 ≤ b.1) := by
  rw [List.pairwise_iff_getElem]
  intro i j hi hj hij
  have h1 := h i j (Nat.zero_le _) hij (by simpa using hj)
  rw [ltR, getElem!_pos d j (by simpa using hj), getElem!_pos d i (by simpa using hi)] at h1
  simp at h1
  simpa using h1
set_option maxHeartbeats 1000000 in
theorem sortF_calls {base : Nat} {w : World} {g n cap : Nat} {L : List Rg} (h : RgOwn base w (.slice (some ⟨g, 0, none⟩) n cap) L) (hn : L ≠ []) (hl : L.length ≤ 100000) (hw : base ≤ w.heap.size) :
    Calls Try.prog 30 #[.slice (some ⟨g, 0, none⟩) n cap, .func (.func 31) #[] #[]] w fun e w' => e = .returned (.tuple #[]) ∧ ∃ D : List Rg, D.Perm L ∧ D.Pairwise (fun a b => a.1 ≤ b.1) ∧ RgAt w' (.slice (some ⟨g, 0, none⟩) n cap) D ∧ Go.RowKit.Below base w w' := by
  obtain ⟨g', cap', hv, h1, h2, h3, h4, h5⟩ := h.lt hn
  have hH := h.holds hn
  obtain ⟨e, rfl, rfl⟩ := Value.slice.inj hv
  simp only [Option.some.injEq, Addr.mk.injEq] at e
  obtain ⟨rfl, -⟩ := e
  have eg : ∀ args w, (callFunc 31 args).run Try.prog w = .ok (.enter 31 args) w := enters_of Try.func31 (by kernel_rfl) rfl
  have hcon := AnyQ.slices_SortFunc Try.sortR 2 Try.isAgg25 Try.sizeOf25 enR (fun _ => rfl) (fun x v hv => by simp [enR] at hv; rcases hv with rfl | rfl <;> rfl) cmpR swoR 31 #[] g 0 cap L.toArray w eg (closLays g 0 _ w) hH h3 (by simp; omega)
  have hcon2 : Calls Try.prog 30 #[.slice (some ⟨g, 0, none⟩) L.length cap, .func (.func 31) #[] #[]] w _ := hcon
  refine hcon2.mono ?_
  rintro e w' ⟨he, d', m, os, hp, hs, rfl⟩
  have hsz : d'.size = L.length := by simpa using hp.1
  have hperm : d'.toList.Perm L := by
    have := hp.2.2
    have e : (d'.extract 0 L.toArray.size).toList = d'.toList := by simp [← hsz]
    have e2 : (L.toArray.extract 0 L.toArray.size).toList = L := by simp
    rwa [e, e2] at this
  refine ⟨he, d'.toList, hperm, sorted_pair (by rw [hsz]; simpa using hs), ?_, sort_below w g 0 m d' os h2 hw⟩
  have hh := sort_holds w g m L.toArray d' os h3 hH (by simp [hsz])
  have hb := sort_below (base := base) w g 0 m d' os h2 hw
  refine ⟨_, cap, by rw [hperm.length_eq], by rw [Array.length_toList, hsz]; exact h1, fun _ => ⟨g, 0, rfl, Nat.lt_of_lt_of_le h3 hb.size, fun k x hk => ?_⟩⟩
  obtain ⟨hk1, hk2⟩ := List.getElem?_eq_some_iff.1 hk
  have hk3 : k < d'.size := by simpa using hk1
  have c0 := (hh.cell (i := k) (c := 0) hk3 (by decide)).1
  have c1 := (hh.cell (i := k) (c := 1) hk3 (by decide)).1
  rw [getElem!_pos d' k hk3] at c0 c1
  have hx : d'[k] = x := by simpa using hk2
  rw [hx] at c0 c1
  exact ⟨by simpa [enR] using c0, by simpa [enR] using c1⟩
end Go.Proofs.Ytfnfhabepadikaa
