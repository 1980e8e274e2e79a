/- Clean. -/
import Derived.Test.YtfnfhabepadikaaK9
import Derived.Shelf.SlSortCmp.NoneTotal
namespace Go.Proofs.Ytfnfhabepadikaa
open Go Go.RowKit Go.Shelf
set_option maxRecDepth 100000

theorem sort0_calls (p : Option Addr) (cap : Nat) (fv : Value) (w : World) : Calls Try.prog 30 #[.slice p 0 cap, fv] w fun e w' => e = .returned (.tuple #[]) ∧ w' = w :=
  AnyF.slices_SortFunc_none Try.sortR p cap fv w
/-- A list of one's own, sorted. -/
theorem sort_calls {base : Nat} {w : World} {v : Value} {L : List Rg} (h : RgOwn base w v L) (hl : L.length ≤ 100000) (hw : base ≤ w.heap.size) :
    Calls Try.prog 30 #[v, .func (.func 31) #[] #[]] w fun e w' => e = .returned (.tuple #[]) ∧ ∃ D : List Rg, D.Perm L ∧ D.Pairwise (fun a b => a.1 ≤ b.1) ∧ RgAt w' v D ∧ Below base w w' := by
  by_cases hn : L = []
  · subst hn
    obtain ⟨a, cap, rfl⟩ := h.form
    exact (sort0_calls a cap _ w).mono fun e w' ⟨he, hw'⟩ => ⟨he, [], List.Perm.refl _, List.Pairwise.nil, RgAt.nil _ _ _, by rw [hw']; exact Below.refl _ _⟩
  · obtain ⟨g, cap, rfl, -⟩ := h.lt hn
    exact sortF_calls h hn hl hw
set_option maxHeartbeats 4000000 in
theorem clean_own (L : List Rg) (w : World) (v : Value) (hv : RgAt w v L) (hl : L.length ≤ 100000) : Calls Try.prog 16 #[v] w fun e w' => (∃ v, e = .returned v ∧ RgOwn w.heap.size w' v (cleanL L)) ∧ Below w.heap.size w w' := by
  have kO := hidden (ok_calls L w v hv hl)
  by_cases hok : OkL L
  rotate_left
  · have hq : okB L = false := by
      cases h : okB L
      · rfl
      · exact absurd ((okB_iff L).1 h) hok
    rw [hq] at kO
    rw [cleanL_bad hok]
    clear hq hok hv
    go_enter Try.func16, Try.ntmps16
    go_wp2_with fail
    refine kO.out.mono ?_
    rintro e w1 ⟨rfl, hB⟩
    go_wp2
    go_ret
    exact ⟨⟨_, rfl, RgOwn.nil _ _⟩, hB⟩
  have kC := hidden (fun (wx : World) (hx : Below w.heap.size w wx) => clone_calls L wx v (hv.below hx) hl)
  have hdone := hidden (fun D (h1 : D.Perm L) h2 => clean_eq (D := D) hok h1 h2)
  rw [(okB_iff L).2 hok] at kO
  generalize cleanL L = R at hdone ⊢
  have hl32 : L.length ≤ 32 := hok.1
  clear hok
  go_enter Try.func16, Try.ntmps16
  go_wp2_with fail
  refine kO.out.mono ?_
  rintro e w1 ⟨rfl, hB1⟩
  have kC1 := hidden (kC.out w1 hB1)
  replace hB1 := hidden hB1
  clear kO kC hv
  go_wp2_with fail
  refine kC1.out.mono ?_
  rintro e w2 ⟨⟨v2, rfl, hO2⟩, hB2⟩
  have kS := hidden (sort_calls hO2 hl hB2.size)
  replace hB2 := hidden hB2
  clear hO2 kC1
  go_wp2_with fail
  refine kS.out.mono ?_
  rintro e w3 ⟨rfl, D, hp, hs, hA3, hB3⟩
  have hB3' := hidden (hB1.out.trans ((hB2.out.trans hB3).mono hB1.out.size))
  have hR := hidden (hdone.out D hp hs)
  have hDl : D.length ≤ 32 := by rw [hp.length_eq]; exact hl32
  obtain ⟨F, hF⟩ : ∃ F : Nat → List Rg, ∀ k, F k = foldJ [] (D.take k) := ⟨_, fun _ => rfl⟩
  have hF0 : F 0 = [] := by rw [hF]; rfl
  have hFR := hidden (show F D.length = R by rw [hF, List.take_length]; exact hR.out)
  have hFs := hidden (fun k a (hk : D[k]? = some a) => (show F (k + 1) = if a.1 < a.2 then joinL (F k) a else F k by rw [hF, hF, List.take_add_one, hk]; exact foldJ_snoc a _ _))
  have hFl := hidden (fun k => (show (F k).length ≤ 10000 by rw [hF]; have h1 := foldJ_len (D.take k) []; have h2 : (D.take k).length ≤ D.length := List.length_take_le' k D; simp at h1 h2; omega))
  obtain ⟨a0, cap, rfl, hcap, hc⟩ := hA3
  replace hc := hidden hc
  replace hF0 := hidden hF0
  clear hp hs kS hB3 hB1 hB2 hR hdone hF
  go_wp2_with fail
  go_loopg [4, 16] D.length (fun g so si wr => ∃ k : Nat, k ≤ D.length ∧ g = D.length - k ∧ si = .int .i64 (k : Int) ∧ Hid (RgOwn w3.heap.size wr so (F k) ∧ (F k = [] → so = .slice none 0 0) ∧ Below w3.heap.size w3 wr))
  case atStart => exact ⟨0, Nat.zero_le _, rfl, rfl, hidden ⟨by rw [hF0.out]; exact RgOwn.nil _ _, fun _ => rfl, Below.refl _ _⟩⟩
  case round =>
    obtain ⟨k, hk, hg, rfl, hI⟩ := hrel
    obtain ⟨hO, hN, hB⟩ := hI.out
    replace hg := hidden hg
    by_cases hlt : k < D.length
    · have hlt' : (k : Int) < (D.length : Int) := by omega
      obtain ⟨b, off, rfl, hbl, hx⟩ := hc.out (by rintro rfl; simp at hlt)
      obtain ⟨⟨x, y⟩, hget⟩ : ∃ t, D[k]? = some t := ⟨_, List.getElem?_eq_getElem hlt⟩
      obtain ⟨d0, d1⟩ := hx k _ hget
      have f0 := (hB.cell (p := ⟨b, off + k * 2, none⟩) hbl).trans d0
      have f1 := (hB.cell (p := ⟨b, off + k * 2 + 1, none⟩) hbl).trans d1
      have kE := hidden (fun wx => empty_calls (x, y) wx)
      have hB2 := hidden (hB.trans ((box_new wr (Obj.cells #[Value.int .i64 x, Value.int .i64 y] 25)).mono hB.size))
      have hO2 := hidden (hO.below (box_new wr (Obj.cells #[Value.int .i64 x, Value.int .i64 y] 25)))
      have hb := hidden (box_at wr x y)
      have hs := hFs.out k _ hget
      have hlk := hFl.out k
      replace hN := hidden hN
      dsimp only at f0 f1 hs
      clear d0 d1 hx hI hB hO
      go_wp2_with fail
      refine (kE.out _).mono ?_
      rintro e w4 ⟨rfl, hB4⟩
      dsimp only
      have hb4 := hb.out.below hB4
      have c0 := hb4.c0
      have c1 := hb4.c1
      have hB5 := hidden (hB2.out.trans (hB4.mono hB2.out.size))
      have hO5 := hidden (hO2.out.below hB4)
      clear hb hb4 hB2 hB4 hO2 kE f0 f1
      by_cases hxy : y ≤ x
      · rw [if_neg (by omega)] at hs
        replace hs := hidden hs
        go_wp2
        go_roundg (D.length - (k + 1))
        case measure => rw [hg.out]; omega
        case rel => exact ⟨k + 1, hlt, rfl, by go_num, hidden (by rw [hs.out]; exact ⟨hO5.out, hN.out, hB5.out⟩)⟩
      · rw [if_pos (by omega)] at hs
        replace hs := hidden hs
        have kJ := hidden (join_calls w3.heap.size (F k) (x, y) w4 _ hO5.out hN.out hB5.out.size (by have := hFl.out k; omega))
        go_wp2_with fail
        refine kJ.out.mono ?_
        rintro e w5 ⟨⟨v5, rfl, hO6⟩, hB6⟩
        have hE := hidden (show RgOwn w3.heap.size w5 v5 (F (k + 1)) ∧ (F (k + 1) = [] → v5 = .slice none 0 0) ∧ Below w3.heap.size w3 w5 from ⟨by rw [hs.out]; exact hO6, fun e => absurd e (by rw [hs.out]; exact joinL_ne _ _), hB5.out.trans hB6⟩)
        clear hO6 hB6 hO5 hB5 kJ hN c0 c1
        go_wp2
        go_roundg (D.length - (k + 1))
        case measure => rw [hg.out]; omega
        case rel => exact ⟨k + 1, hlt, rfl, by go_num, hE⟩
    · obtain rfl : k = D.length := by omega
      have hE := hidden (show RgOwn w.heap.size wr u4 R ∧ Below w.heap.size w wr from ⟨by have := hO.mono hB3'.out.size; rwa [hFR.out] at this, hB3'.out.trans (hB.mono hB3'.out.size)⟩)
      clear hO hN hB hI
      go_wp2
      go_ret
      exact ⟨⟨_, rfl, hE.out.1⟩, hE.out.2⟩
theorem clean_calls (L : List Rg) (w : World) (v : Value) (hv : RgAt w v L) (hl : L.length ≤ 100000) : Calls Try.prog 16 #[v] w fun e w' => (∃ v, e = .returned v ∧ RgAt w' v (cleanL L)) ∧ Below w.heap.size w w' :=
  (clean_own L w v hv hl).mono fun _ _ ⟨⟨v, he, hO⟩, hB⟩ => ⟨⟨v, he, hO.at⟩, hB⟩
end Go.Proofs.Ytfnfhabepadikaa
