/- fault.Num over the mended walk. -/
import Derived.Test.YtiaplgdplenedaaDoorDn
namespace Go.Proofs.YtiaplgdplenedaaDoor
open Go.RowKit Go.Extern.Stop Go.Stop Go.Extern
set_option maxRecDepth 100000

set_option maxHeartbeats 2000000 in
theorem down_raw (w0 w : World) (bs : Nat) (left : Int) (todo : Value) (b : Nat) (op nm : ByteArray) (hB : Below w0.heap.size w0 w) (hbs : w0.heap.size ≤ bs) (hS : Search bs left todo w)
    (hc : Chain w0 [(op, nm)] .nilIface (flt b)) (hl : 0 < left) (hl2 : left < 1000000000) (hg : GT w0) :
    Calls Tryd.prog 34 #[.pointer (some ⟨bs, 0, none⟩), flt b] w fun ev w' => ev = .returned (.tuple #[.int .i64 0, .bool false]) ∧ Apart [bs] w w' ∧ w'.cell? ⟨bs, 0, none⟩ = some todo := by
  have hlt : bs < w.heap.size := lt_of_cell (a := ⟨bs, 0, none⟩) hS.todo0
  have hne : w.heap.size ≠ bs := by omega
  have hcH := hidden hc
  obtain ⟨b', e', he, hb, hs, -, -, h2, hr⟩ := hc
  have he' : e' = .nilIface := hr
  subst he'
  have hbb : b = b' := by simpa using he
  subst hbb
  clear he hr
  have hS0 : Search bs left todo (rW w) := hS.apart (cs := []) ((Apart.refl _ _).alloc _) (by simp)
  have hW0 : Watch w.heap.size none (rW w) := rW_watch w
  have hA0 : Apart [bs] w (rW w) := (Apart.refl _ _).alloc _
  have hB0 : Below w0.heap.size w0 (rW w) := hB.alloc hB.size _
  replace hS0 := hidden hS0
  replace hW0 := hidden hW0
  replace hA0 := hidden hA0
  replace hB0 := hidden hB0
  replace hb := hidden hb
  replace hs := hidden hs
  replace h2 := hidden h2
  clear hS hB
  go_enter Tryd.func34, Tryd.ntmps34
  go_wp2_with fail
  unfold rW at hS0 hW0 hA0 hB0
  generalize w.alloc (.cells #[.pointer none, .int .i64 0] 58) = wr at hS0 hW0 hA0 hB0 ⊢
  have hS2 := hS0.out.left2
  have hSf := hS0.out.free2
  have hA1 : Apart [bs] w (wr.setCell ⟨bs, 2, none⟩ (.int .i64 (left - 1))) := hA0.out.setCell (by simp) _
  have hB1 : Below w0.heap.size w0 (wr.setCell ⟨bs, 2, none⟩ (.int .i64 (left - 1))) := hB0.out.setCell hbs _
  have hS1 : Search bs (left - 1) todo (wr.setCell ⟨bs, 2, none⟩ (.int .i64 (left - 1))) :=
    ⟨(World.cell?_setCell_other _ _ _ _ (by intro h; simp at h)).trans hS0.out.todo0, World.cell?_setCell_same' _ _ _ (by rw [hS2]; rfl), by simp [hSf]⟩
  have hW1 : Watch w.heap.size none (wr.setCell ⟨bs, 2, none⟩ (.int .i64 (left - 1))) := hW0.out.apart ((Apart.refl [bs] _).setCell (by simp) _) (by simp; exact hne)
  replace hS1 := hidden hS1
  replace hW1 := hidden hW1
  replace hA1 := hidden hA1
  replace hB1 := hidden hB1
  clear hS0 hA0 hB0 hW0
  refine wp_loop_rounds 1 ?_
  rw [rounds_succ]
  go_wp2_with fail
  generalize wr.setCell ⟨bs, 2, none⟩ (.int .i64 (left - 1)) = w1 at hS1 hW1 hA1 hB1 ⊢
  clear hS2 hSf
  refine (itself_fault b _).mono ?_
  rintro ev w1 ⟨rfl, rfl⟩
  have hsol : Solid w1 b := by obtain ⟨cs, t, h⟩ := hs.out; exact ⟨cs, t, (hB1.out.block b hb.out).trans h⟩
  have hcl := hidden (closed_no w.heap.size b none w1 hW1.out hsol (Or.inl rfl))
  clear hsol
  go_wp2_with fail
  refine (hcl.out).mono ?_
  rintro ev w2 ⟨rfl, hA2, mk', hmk', hW2⟩
  have hb0 : w0.heap.size ≤ w.heap.size := by omega
  have hm1 : w.heap.size < w1.heap.size := lt_of_cell (a := ⟨w.heap.size, 0, none⟩) hW1.out.mark
  have hB2 : Below w0.heap.size w0 w2 := hB1.out.trans (hA2.below (by simp; omega) (by omega))
  have hS2 := hS1.out.apart hA2 (by simp; omega)
  have hA2' : Apart [bs] w w2 := hA1.out.trans' hA2
  have hn2 := hidden (next_any b .nilIface (Or.inl rfl) w2 (Nat.lt_of_lt_of_le hb.out hB2.size) ((hB2.cell (p := ⟨b, 2, none⟩) hb.out).trans h2.out))
  have P := hidden (And.intro hB2 (And.intro hS2 hA2'))
  clear hB2 hS2 hA2' hW2 hA2 hcl hmk'
  go_wp2_with fail
  refine (hn2.out).mono ?_
  rintro ev w3 ⟨rfl, hB3⟩
  have hend := hidden (end_raw b op nm bs w3 ((hcH.out.below P.out.1).below hB3) ((hg.below P.out.1).below hB3))
  go_wp2_with fail
  refine (hend.out).mono ?_
  rintro ev w4 ⟨rfl, hB4⟩
  have hE : Apart [bs] w w4 ∧ w4.cell? ⟨bs, 0, none⟩ = some todo := by
    have h12 := (Apart.of_below (bs := []) hB3).trans (Apart.of_below hB4)
    exact ⟨P.out.2.2.trans (h12.mono (by simp)), (P.out.2.1.apart h12 (by simp)).todo0⟩
  clear hB3 hB4
  go_wp2
  go_ret2
  exact ⟨rfl, hE⟩

theorem pop_one (bs g : Nat) (e : Value) (w : World) (h0 : w.cell? ⟨bs, 0, none⟩ = some (.slice (some ⟨g, 0, none⟩) 1 1)) (hf : w.frozen? ⟨bs, 0, none⟩ = false) (hg : w.cell? ⟨g, 0, none⟩ = some e) :
    Calls Tryd.prog 35 #[.pointer (some ⟨bs, 0, none⟩)] w fun ev w' => ev = .returned e ∧ w' = w.setCell ⟨bs, 0, none⟩ (.slice (some ⟨g, 0, none⟩) 0 1) := by
  go_enter Tryd.func35, Tryd.ntmps35
  go_wp2
  go_ret
  exact ⟨rfl, rfl⟩

theorem search_at (b : Nat) (s m : Value) (t : TypeId) (w : World) (h : b = w.heap.size) : Search b 134217728 s (w.alloc (.cells #[s, m, .int .i64 134217728] t)) := by
  subst h
  exact ⟨by simp, by simp, by simp⟩
abbrev botS (w : World) (e : Value) : World := ((w.alloc (.cells #[e] 25)).alloc (.map #[] 0)).alloc (.cells #[.slice (some ⟨w.heap.size, 0, none⟩) 1 1, .map (some (w.heap.size + 1)), .int .i64 134217728] 75)
theorem botS_below (w : World) (e : Value) : Below w.heap.size w (botS w e) :=
  (((Below.refl _ _).alloc (Nat.le_refl _) _).alloc (w := w.alloc (.cells #[e] 25)) (by rw [World.size_alloc]; omega) _).alloc (by rw [World.size_alloc, World.size_alloc]; omega) _
theorem botS_search (w : World) (e : Value) : Search (w.heap.size + 1 + 1) 134217728 (.slice (some ⟨w.heap.size, 0, none⟩) 1 1) (botS w e) :=
  search_at _ _ _ _ _ (by rw [World.size_alloc, World.size_alloc])
theorem free_at (b : Nat) (o : Array Value) (t : TypeId) (w : World) (h : b = w.heap.size) : (w.alloc (.cells o t)).frozen? ⟨b, 0, none⟩ = false := by
  subst h
  simp
theorem botS_free (w : World) (e : Value) : (botS w e).frozen? ⟨w.heap.size + 1 + 1, 0, none⟩ = false := free_at _ _ _ _ (by rw [World.size_alloc, World.size_alloc])
theorem botS_first (w : World) (e : Value) : (botS w e).cell? ⟨w.heap.size, 0, none⟩ = some e := by
  rw [World.cell?_alloc_lt _ _ ⟨w.heap.size, 0, none⟩ (by rw [World.size_alloc, World.size_alloc]; show w.heap.size < _; omega), World.cell?_alloc_lt _ _ ⟨w.heap.size, 0, none⟩ (by rw [World.size_alloc]; show w.heap.size < _; omega)]
  simp
set_option maxHeartbeats 2000000 in
theorem bottom_of (u : TypeId) (v : Value) (w : World) (n : Int) (ok : Bool)
    (hD : Hid (∀ w1 bs todo, Below w.heap.size w w1 → w.heap.size ≤ bs → Search bs 134217728 todo w1 → Calls Tryd.prog 34 #[.pointer (some ⟨bs, 0, none⟩), .iface u v] w1 fun ev w' => ev = .returned (.tuple #[.int .i64 n, .bool ok]) ∧ Apart [bs] w1 w' ∧ w'.cell? ⟨bs, 0, none⟩ = some todo)) :
    Calls Tryd.prog 25 #[.iface u v] w fun ev w' => ev = .returned (.tuple #[.int .i64 n, .bool ok]) ∧ Below w.heap.size w w' := by
  have hmm := @run_makeMap Tryd.prog
  go_enter Tryd.func25, Tryd.ntmps25
  go_wp2_with fail
  refine wp_loop_rounds 2 ?_
  rw [rounds_succ]
  go_wp2_with fail
  have hw0 := botS_below w (.iface u v)
  have hS0 := botS_search w (.iface u v)
  refine (pop_one (w.heap.size + 1 + 1) w.heap.size (.iface u v) _ hS0.todo0 (botS_free w _) (botS_first w _)).mono ?_
  rintro ev w1 ⟨rfl, hw1⟩
  have hB1 : Below w.heap.size w w1 := by rw [hw1]; exact hw0.setCell (by show w.heap.size ≤ w.heap.size + 1 + 1; omega) _
  have hS1 : Search (w.heap.size + 1 + 1) 134217728 (.slice (some ⟨w.heap.size, 0, none⟩) 0 1) w1 := by
    rw [hw1]
    exact ⟨World.cell?_setCell_same' _ _ _ (by rw [hS0.todo0]; rfl), (World.cell?_setCell_other _ _ _ _ (by intro h; simp at h)).trans hS0.left2, (World.frozen?_setCell _ _ _ _).trans hS0.free2⟩
  have hs1 := hB1.size
  have hD1 := hidden (hD.out w1 _ _ hB1 (by omega) hS1)
  clear hw1 hw0 hS0 hS1
  go_wp2_with fail
  refine (hD1.out).mono ?_
  rintro ev w2 ⟨rfl, hA2, hc2⟩
  have hB2 : Below w.heap.size w w2 := hB1.trans (hA2.below (by simp; omega) hs1)
  clear hA2 hB1 hD1
  go_wp2
  rw [rounds_succ]
  go_wp2
  go_ret2
  exact ⟨rfl, hB2⟩

theorem bottom_chain (n : Int) (w : World) (l : List (ByteArray × ByteArray)) (e : Value) (hc : Chain w l (num n) e) (hl : l.length < 1000000) (hg : GT w) :
    Calls Tryd.prog 25 #[e] w fun ev w' => ev = .returned (.tuple #[.int .i64 n, .bool true]) ∧ Below w.heap.size w w' := by
  obtain ⟨u, v, rfl⟩ := hc.held (Or.inr ⟨_, _, rfl⟩)
  exact bottom_of u v w n true (hidden fun w1 bs todo h1 h2 h3 => down_chain n w w1 bs _ todo l _ h1 h2 h3 hc (by omega) (by omega) hg)
theorem bottom_raw (b : Nat) (op nm : ByteArray) (w : World) (hc : Chain w [(op, nm)] .nilIface (flt b)) (hg : GT w) :
    Calls Tryd.prog 25 #[flt b] w fun ev w' => ev = .returned (.tuple #[.int .i64 0, .bool false]) ∧ Below w.heap.size w w' :=
  bottom_of _ _ w 0 false (hidden fun w1 bs todo h1 h2 h3 => down_raw w w1 bs _ todo b op nm h1 h2 h3 hc (by omega) (by omega) hg)

/-! fault.Num -/
theorem num_nil (w : World) : Calls Tryd.prog 14 #[.nilIface] w fun ev w' => ev = .returned (.int .i64 0) ∧ w' = w := by
  go_enter Tryd.func14, Tryd.ntmps14
  go_wp2
  go_ret
  exact ⟨rfl, rfl⟩
theorem num_chain (n : Int) (w : World) (l : List (ByteArray × ByteArray)) (e : Value) (hc : Chain w l (num n) e) (hl : l.length < 1000000) (hg : w.cell? ⟨0, 0, none⟩ = some (typ 25)) :
    Calls Tryd.prog 14 #[e] w fun ev w' => ev = .returned (.int .i64 n) ∧ Below w.heap.size w w' := by
  have hbot := hidden (bottom_chain n w l e hc hl hg)
  obtain ⟨u, v, rfl⟩ := hc.held (Or.inr ⟨_, _, rfl⟩)
  clear hc hl hg
  go_enter Tryd.func14, Tryd.ntmps14
  go_wp2_with (go_at_call 25; refine (hbot.out).mono ?_; rintro ev w' ⟨rfl, hb⟩)
  go_ret
  exact ⟨rfl, hb⟩
theorem num_raw (b : Nat) (op nm : ByteArray) (w : World) (hc : Chain w [(op, nm)] .nilIface (flt b)) (hg : w.cell? ⟨0, 0, none⟩ = some (typ 25)) :
    Calls Tryd.prog 14 #[flt b] w fun ev w' => ev = .returned (.int .i64 1) ∧ Below w.heap.size w w' := by
  have hbot := hidden (bottom_raw b op nm w hc hg)
  clear hc hg
  go_enter Tryd.func14, Tryd.ntmps14
  go_wp2_with (go_at_call 25; refine (hbot.out).mono ?_; rintro ev w' ⟨rfl, hb⟩)
  go_ret
  exact ⟨rfl, hb⟩
end Go.Proofs.YtiaplgdplenedaaDoor
