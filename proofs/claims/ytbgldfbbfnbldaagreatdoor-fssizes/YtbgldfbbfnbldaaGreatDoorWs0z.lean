/- FsSizes: a Put of the one file, whether it is there or not; one that is too long. -/
import Derived.Test.YtbgldfbbfnbldaaGreatDoorGXf
import Derived.Test.YtbgldfbbfnbldaaGreatDoorGXi
namespace Go.Proofs.YtbgldfbbfnbldaaGreatDoor
open Go.RowKit Go.Extern.Stop Go.Stop Go.Extern Go.Maps Go.Sort Go.Shelf
set_option maxRecDepth 100000

theorem fmt220 : FmtN 220 10 0 113 := ⟨by omega, by omega, by omega, by omega, by omega, by omega, by omega, by omega⟩
/-- The file system of FsSizes: no file, or /a with these bytes. -/
def SzSt (fb hb : Nat) (E : TE) (lim : Nat) (w : World) : Option (List Int) → Prop
  | none => Fsz fb 0 hb E rootK (fun _ => []) (fun _ => []) 113 lim w
  | some zs => ∃ (D : Nat → List Int) (f : Nat), D 2 = zs ∧ (f : Int) + blk (zs.length : Int) = 112 ∧ Fsz fb 0 hb E aK1 D aT1 f lim w
section
variable {fb rs hb : Nat} {E : TE} {w w' : World} {K : Nat → Nat} {D : Nat → List Int} {T : Nat → List Rec} {f u lim : Nat}
theorem put_sz {o : Option (List Int)} (h : SzSt fb hb E lim w o) (htn : E.tn = 10) {bv : Value} {zs : List Int} (hbv : BytesC E.mb w bv zs) (hz : zs.length ≤ 4000) (hlim : lim ≤ 300000000) :
    Calls Tryz.prog 7 #[ptr fb, .string ⟨#[47, 97]⟩, bv] w fun e w' => e = .returned .nilIface ∧ SzSt fb hb E.rest (lim + 1000) w' (some zs) ∧ E.Turns fb w w' := by
  have hb33 := blk_range (zs.length : Int)
  obtain ⟨ba, bc, rfl, hrest⟩ := hbv
  have hbv' : BytesC E.mb w (.slice ba zs.length bc) zs := ⟨ba, bc, rfl, hrest⟩
  cases o with
  | none =>
    have hg0 : growb 0 (zs.length : Int) = blk (zs.length : Int) := by
      have e : blk 0 = 0 := by simp [blk]
      unfold growb
      omega
    obtain ⟨bn, hbn⟩ : ∃ bn : Nat, growb 0 (zs.length : Int) = (bn : Int) := ⟨(growb 0 (zs.length : Int)).toNat, by omega⟩
    have kP := put_new (show Fsz fb 0 hb E rootK (fun _ => []) (fun _ => []) 113 lim w from h) (path := [47, 97]) (l := []) (s := [97]) (by simp) (by decide) hbv' hz (p := 1) (by rfl) (by rfl) (by simp) (id := 2) (by omega) (by rw [htn]; omega) (by rfl) (fun i a b => by have e : i = 1 := (by omega); rw [e]; decide) false (gn := 1) (bn := bn) (by decide) hbn (by unfold mayB; simp; omega) hlim
    refine (fPut_ok (path := [47, 97]) (Q := fun w' => (∃ f', f' + 1 + bn = 113 ∧ Fsz fb 0 hb E.rest aK1 (upd (upd (fun _ => []) 1 (recsL [⟨[97], 2⟩])) 2 zs) aT1 f' (lim + 1000) w') ∧ E.Turns fb w w') kP).mono ?_
    rintro e w' ⟨rfl, ⟨f', hf', hz'⟩, hT⟩
    exact ⟨rfl, ⟨_, f', rfl, by omega, hz'⟩, hT⟩
  | some old =>
    obtain ⟨D, f, hD, hf, h'⟩ := h
    have hbo := blk_range (old.length : Int)
    obtain ⟨g, hg⟩ : ∃ g : Nat, growb (old.length : Int) (zs.length : Int) = (g : Int) := ⟨(growb (old.length : Int) (zs.length : Int)).toNat, by have := growb_range (old.length : Int) (zs.length : Int); omega⟩
    have hgr := growb_range (old.length : Int) (zs.length : Int)
    have kP := put_old h' (path := [47, 97]) (l := []) (s := [97]) (by simp) (by decide) hbv' hz (p := 1) (by rfl) (r := ⟨[97], 2⟩) (by rfl) (by rfl) false (g := g) (by show growb ((D 2).length : Nat) _ = _; rw [hD]; exact hg) (by unfold mayB; simp; omega) hlim
    refine (fPut_ok (path := [47, 97]) (Q := fun w' => (∃ f' : Nat, (f' : Int) + blk (zs.length : Int) = (f : Int) + blk ((D 2).length : Int) ∧ Fsz fb 0 hb E.rest aK1 (upd D 2 zs) aT1 f' (lim + 1000) w') ∧ E.Turns fb w w') kP).mono ?_
    rintro e w' ⟨rfl, ⟨f', hf', hz'⟩, hT⟩
    rw [hD] at hf'
    exact ⟨rfl, ⟨_, f', upd_same _ _ _, by omega, hz'⟩, hT⟩
theorem SzSt.below {o : Option (List Int)} (h : SzSt fb hb E lim w o) (hB : Below w.heap.size w w') : SzSt fb hb E lim w' o := by
  cases o with
  | none => exact Fsz.below h hB
  | some zs =>
    obtain ⟨D, f, h1, h2, h3⟩ := h
    exact ⟨D, f, h1, h2, h3.below hB⟩
theorem SzSt.lts {o : Option (List Int)} (h : SzSt fb hb E lim w o) : E.Ahead w.heap.size ∧ fb < w.heap.size ∧ Below E.w0.heap.size E.w0 w := by
  cases o with
  | none => exact ⟨(show Fsz fb 0 hb E rootK (fun _ => []) (fun _ => []) 113 lim w from h).s.to.lts, (show Fsz fb 0 hb E rootK (fun _ => []) (fun _ => []) 113 lim w from h).at_.lt, (show Fsz fb 0 hb E rootK (fun _ => []) (fun _ => []) 113 lim w from h).s.to.below⟩
  | some zs =>
    obtain ⟨D, f, h1, h2, h3⟩ := h
    exact ⟨h3.s.to.lts, h3.at_.lt, h3.s.to.below⟩
set_option maxHeartbeats 1000000 in
/-- More bytes than a file may have. -/
theorem put_big (h : Fsz fb rs hb E K D T f lim w) {path s : List UInt8} {l : List (List UInt8)} (hlen : path.length ≤ 2000) (hp : splitB path = some (l ++ [s])) {ba : Option Addr} {n bc : Nat} (hn : 4000 < n) (all : Bool) :
    Calls Tryz.prog 26 #[ptr fb, .string (mkB path), .slice ba n bc, .bool all] w fun e w' => ∃ ev, e = .returned ev ∧ Refused fb rs hb E K D T f lim 5 w ev w' := by
  obtain ⟨w3, hw3, hB3, g3⟩ : ∃ w3, ((w.alloc (Obj.cells #[ptr fb] 28)).alloc (Obj.cells #[.slice ba n bc] 33)).alloc (Obj.cells #[.bool all] 4) = w3 ∧ Below w.heap.size w w3 ∧ w3.cell? ⟨w.heap.size + 1, 0, none⟩ = some (.slice ba n bc) := by
    have up : ∀ (W : World) (o : Obj) (p : Addr) (v : Value), W.cell? p = some v → (W.alloc o).cell? p = some v := fun W o p v h => (((Below.refl W.heap.size W).alloc (Nat.le_refl _) o).cell (lt_of_cell h)).trans h
    generalize e1 : w.alloc (Obj.cells #[ptr fb] 28) = W1
    have s1 : W1.heap.size = w.heap.size + 1 := by rw [← e1]; simp
    have b1 : Below w.heap.size w W1 := by rw [← e1]; exact (Below.refl _ _).alloc (Nat.le_refl _) _
    generalize e2 : W1.alloc (Obj.cells #[.slice ba n bc] 33) = W2
    have a2 : W2.cell? ⟨w.heap.size + 1, 0, none⟩ = some (.slice ba n bc) := by rw [← e2, ← s1]; simp
    have s2 : W2.heap.size = w.heap.size + 2 := by rw [← e2]; simp [s1]
    have b2 : Below w.heap.size w W2 := by rw [← e2]; exact b1.alloc (by omega) _
    exact ⟨_, rfl, b2.alloc (by omega) _, up _ _ _ _ a2⟩
  have kA := hidden (apart_ok path hlen hp 13 w3)
  have hz4 : (4000 : Int) < (n : Int) := by omega
  have hb3 := hidden hB3
  have hk := hidden (fun (wx : World) (hx : Below w.heap.size w wx) => show Refused fb rs hb E K D T f lim 5 w (num 5) wx from ⟨⟨[], rfl⟩, h.rest.below hx, Apart.of_below hx⟩)
  clear hB3 h
  replace hw3 := hidden hw3
  go_enter Tryz.func26, Tryz.ntmps26
  go_upto_region 1 with fail
  rw [hw3.out]
  clear hw3
  go_wp2_with fail
  refine (kA.out).mono ?_
  rintro ev w4 ⟨up, rfl, hT, hB4⟩
  obtain ⟨ua, uc, rfl, -⟩ := hT
  have k3 := (hB4.cell (p := ⟨w.heap.size + 1, 0, none⟩) (lt_of_cell (a := ⟨w.heap.size + 1, 0, none⟩) g3)).trans g3
  obtain ⟨w6, hw6, hB6⟩ : ∃ w6, (w4.alloc (Obj.cells #[.slice ua l.length uc] 53)).alloc (Obj.cells #[.string (mkB s)] 9) = w6 ∧ Below w4.heap.size w4 w6 := ⟨_, rfl, ((Below.refl _ _).alloc (Nat.le_refl _) _).alloc (by simp) _⟩
  have m3 := (hB6.cell (p := ⟨w.heap.size + 1, 0, none⟩) (lt_of_cell (a := ⟨w.heap.size + 1, 0, none⟩) k3)).trans k3
  have l3 := lt_of_cell (a := ⟨w.heap.size + 1, 0, none⟩) m3
  have hE := hidden (hk.out w6 (hb3.out.trans ((hB4.trans (hB6.mono hB4.size)).mono hb3.out.size)))
  replace hw6 := hidden hw6
  clear hB4 hB6 kA g3 k3 hb3 hk
  generalize l.length = LL at *
  go_upto_region 2 with fail
  rw [hw6.out]
  clear hw6
  go_wp2
  go_ret
  exact ⟨_, rfl, hE.out⟩
end
end Go.Proofs.YtbgldfbbfnbldaaGreatDoor
