/- alloc's wrong and bits. -/
import Derived.Test.YtildpgingcmfcaaDoorAm1
import Derived.Test.YtildpgingcmfcaaDoorAm2
namespace Go.Proofs.YtildpgingcmfcaaDoor
open Go.RowKit Go.Extern.Stop Go.Stop Go.Extern
set_option maxRecDepth 100000

abbrev sAlloc : ByteArray := ⟨#[97, 108, 108, 111, 99]⟩
theorem awrong_nil (nm : ByteArray) (w : World) : Calls Tryd.prog 18 #[.string nm, .nilIface] w fun e w' => e = .returned .nilIface ∧ w' = w := by
  go_enter Tryd.func18, Tryd.ntmps18
  go_wp2_with fail
  refine (wrap_nil _ _ _).mono ?_
  rintro ev w4 ⟨rfl, rfl⟩
  go_wp2
  go_ret
  exact ⟨rfl, rfl⟩
theorem awrong_some (nm : ByteArray) (w : World) (l : List (ByteArray × ByteArray)) (bot : Value) (u : TypeId) (v : Value) (hc : Chain w l bot (.iface u v)) :
    Calls Tryd.prog 18 #[.string nm, .iface u v] w fun e w' => ∃ b, e = .returned (flt b) ∧ Chain w' ((sAlloc, nm) :: l) bot (flt b) ∧ w.heap.size ≤ b ∧ Below w.heap.size w w' := by
  replace hc := hidden hc
  go_enter Tryd.func18, Tryd.ntmps18
  go_wp2_with fail
  refine (wrap_some sAlloc nm _ _ w).mono ?_
  rintro ev w4 ⟨rfl, rfl⟩
  go_wp2
  go_ret
  exact ⟨_, rfl, Chain.alloc (w := w) sAlloc nm hc.out, Nat.le_refl _, (Below.refl _ _).alloc (Nat.le_refl _) _⟩
section
variable {w0 : World} {d g n jb cb mb at_ most : Nat} {blocks : Int} {mem : Nat → Int} {writes left : Int} {M : Chg} {w w' : World}
/-- What the calls ask of a Map's blocks. -/
structure Fits (n : Nat) (blocks : Int) (ma fr k : Nat) : Prop where
  low : ma < 100000
  k1 : 1 ≤ k
  k2 : k ≤ 2048
  disk : homeA ma (k - 1) < n
  cache : (homeA ma (k - 1) : Int) < blocks
  top : fr + k ≤ 9223372036854775807
theorem Fits.home {n : Nat} {blocks : Int} {ma fr k : Nat} (h : Fits n blocks ma fr k) {i : Nat} (hi : i < k) : homeA ma i < n ∧ (homeA ma i : Int) < blocks := by
  have h1 := h.disk
  have h2 := h.cache
  unfold homeA at *
  omega
set_option maxHeartbeats 1000000 in
theorem bits_calls (h : CSt w0 d g n jb cb mb at_ most blocks mem writes left M w) (hl : left ≠ 0) {ab ma fr k : Nat} (hm : MpAt ab cb ma fr k w) (hf : Fits n blocks ma fr k) (i : Nat) (hi : i < k) :
    Calls Tryd.prog 35 #[ptr ab, .int .i64 i] w fun e w' => ∃ b, e = .returned (.tuple #[.slice (some ⟨b, 0, none⟩) 128 128, .nilIface]) ∧ Lie w' b (nowM mem M (homeA ma i)) ∧ w.heap.size ≤ b ∧ Below w.heap.size w w' := by
  have hk2 := hf.k2
  have hma := hf.low
  obtain ⟨hn1, hn2⟩ := hf.home hi
  have c0 := hm.c0
  have hab := hm.lt
  have kH := hidden (fun (wx : World) (hx : Below w.heap.size w wx) => home_calls i ma ab (by omega) (by omega) wx (hm.below hx).c1)
  have kR := hidden (fun (wx : World) (hx : Below w.heap.size w wx) => read_calls (h.more hx) hl (homeA ma i) hn1 hn2)
  have kc := hidden (fun (wx : World) (hx : Below w.heap.size w wx) => (hm.below hx).c0)
  have hBd := hidden (below_drew1 w)
  clear h hm hf hn1 hn2
  unfold homeA at kR ⊢
  go_enter Tryd.func35, Tryd.ntmps35
  go_wp2_with fail
  go_region_with (first
    | (go_at_call 38; refine (kH.out _ hBd.out).mono ?_; rintro ev w2 ⟨rfl, rfl⟩)
    | (go_at_call 50; refine (kR.out _ hBd.out).mono ?_; rintro ev w3 ⟨b, rfl, hL, hb, hB⟩))
  all_goals (go_wp2; go_ret2; exact ⟨_, rfl, hL, Nat.le_trans hBd.out.size hb, hBd.out.trans (hB.mono hBd.out.size)⟩)
end
end Go.Proofs.YtildpgingcmfcaaDoor
