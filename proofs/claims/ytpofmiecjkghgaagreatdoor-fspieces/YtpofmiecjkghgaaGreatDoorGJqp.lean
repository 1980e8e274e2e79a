/- The journal's group. -/
import Derived.Test.YtpofmiecjkghgaaGreatDoorGJop
namespace Go.Proofs.YtpofmiecjkghgaaGreatDoor
open Go.RowKit Go.Extern.Stop Go.Stop Go.Extern
set_option maxRecDepth 100000
set_option maxHeartbeats 8000000
theorem Tryz.infoGroup : (Tryz.prog.info? 255).map (fun i => (i.zero, i.size, i.bytes)) = some (some (.agg #[.int .i64 0, .slice none 0 0]), 2, 32) := by kernel_rfl
theorem set_some (w : World) (p q : Addr) (u : Value) (h : (w.cell? q).isSome = true) : ((w.setCell p u).cell? q).isSome = true := by
  by_cases e : p = q
  · subst e
    rw [World.cell?_setCell_same' _ _ _ h]; rfl
  · rw [World.cell?_setCell_other _ _ _ _ e]; exact h
structure Laying (gb n b : Nat) (no : Nat -> Nat) (r : Nat) (k : Nat) (w : World) : Prop where
  c0 : ∀ j, j < n -> (w.cell? ⟨gb, j * 2, none⟩).isSome = true
  c1 : ∀ j, j < n -> (w.cell? ⟨gb, j * 2 + 1, none⟩).isSome = true
  f0 : ∀ j, j < n -> w.frozen? ⟨gb, j * 2, none⟩ = false
  f1 : ∀ j, j < n -> w.frozen? ⟨gb, j * 2 + 1, none⟩ = false
  n0 : ∀ j, j < k -> w.cell? ⟨gb, j * 2, none⟩ = some (.int .i64 (no j))
  n1 : ∀ j, j < k -> ∃ c, w.cell? ⟨gb, j * 2 + 1, none⟩ = some (.slice (some ⟨b, (r + j) * 128, none⟩) 128 c)
theorem Laying.step {gb n b : Nat} {no : Nat -> Nat} {r k : Nat} {w : World} (h : Laying gb n b no r k w) (hk : k < n) (c : Nat) :
    Laying gb n b no r (k + 1) ((w.setCell ⟨gb, k * 2, none⟩ (.int .i64 (no k))).setCell ⟨gb, k * 2 + 1, none⟩ (.slice (some ⟨b, (r + k) * 128, none⟩) 128 c)) := by
  have ne : ∀ x y : Nat, x ≠ y -> (⟨gb, x, none⟩ : Addr) ≠ ⟨gb, y, none⟩ := fun x y hxy e => hxy (congrArg Addr.off e)
  refine ⟨fun j hj => set_some _ _ _ _ (set_some _ _ _ _ (h.c0 j hj)), fun j hj => set_some _ _ _ _ (set_some _ _ _ _ (h.c1 j hj)), fun j hj => by simp [h.f0 j hj], fun j hj => by simp [h.f1 j hj], fun j hj => ?_, fun j hj => ?_⟩
  · rw [World.cell?_setCell_other _ _ _ _ (ne _ _ (by omega))]
    by_cases e : j = k
    · subst e; exact World.cell?_setCell_same' _ _ _ (h.c0 j hk)
    · rw [World.cell?_setCell_other _ _ _ _ (ne _ _ (by omega))]; exact h.n0 j (by omega)
  · by_cases e : j = k
    · subst e; exact ⟨c, World.cell?_setCell_same' _ _ _ (set_some _ _ _ _ (h.c1 j hk))⟩
    · rw [World.cell?_setCell_other _ _ _ _ (ne _ _ (by omega)), World.cell?_setCell_other _ _ _ _ (ne _ _ (by omega))]; exact h.n1 j (by omega)
theorem Laying.keep {gb n b : Nat} {no : Nat -> Nat} {r k : Nat} {w w' : World} {bs : List Nat} (h : Laying gb n b no r k w) (hn : 0 < n) (ha : Apart bs w w') (hg : gb ∉ bs) : Laying gb n b no r k w' := by
  have hlt : gb < w.heap.size := by
    obtain ⟨x, hx⟩ := Option.isSome_iff_exists.1 (h.c0 0 hn)
    exact lt_of_cell (a := ⟨gb, 0 * 2, none⟩) hx
  have hc : ∀ j, w'.cell? ⟨gb, j, none⟩ = w.cell? ⟨gb, j, none⟩ := fun j => ha.cell (p := ⟨gb, j, none⟩) hlt hg
  have hf : ∀ j, w'.frozen? ⟨gb, j, none⟩ = w.frozen? ⟨gb, j, none⟩ := fun j => ha.frozen (p := ⟨gb, j, none⟩) hlt hg
  exact ⟨fun j hj => by rw [hc]; exact h.c0 j hj, fun j hj => by rw [hc]; exact h.c1 j hj, fun j hj => by rw [hf]; exact h.f0 j hj, fun j hj => by rw [hf]; exact h.f1 j hj, fun j hj => by rw [hc]; exact h.n0 j hj, fun j hj => by rw [hc]; exact h.n1 j hj⟩
theorem bytes_keep {w w' : World} {b off m cap : Nat} {zs : List Int} {bs : List Nat} (h : BytesAt w (.slice (some ⟨b, off, none⟩) m cap) zs) (ha : Apart bs w w') (hb : b ∉ bs) : BytesAt w' (.slice (some ⟨b, off, none⟩) m cap) zs := by
  obtain ⟨a, c, hv, hr, hm, hn, hc⟩ := h
  refine ⟨a, c, hv, hr, hm, hn, fun hne => ?_⟩
  obtain ⟨b', off', rfl, hlt, hcell⟩ := hc hne
  have he := (Value.slice.inj hv).1
  simp only [Option.some.injEq, Addr.mk.injEq] at he
  obtain ⟨rfl, rfl, -⟩ := he
  exact ⟨b, off, rfl, Nat.lt_of_lt_of_le hlt ha.size, fun k hk => (ha.cell (p := ⟨b, off + k, none⟩) hlt hb).trans (hcell k hk)⟩
theorem Tryz.infoBool : (Tryz.prog.info? 4).map (fun i => (i.zero, i.size, i.bytes)) = some (some (.bool false), 1, 1) := by kernel_rfl
theorem make_bools (N : Nat) (hN : N <= 1000000) (w : World) : (Instr.makeSlice 173 (.int .i64 N) (.int .i64 N)).run Tryz.prog w = .ok (.slice (some ⟨w.heap.size, 0, none⟩) N N) (w.alloc (.cells (madeCells (Value.bool false).cells (N * 1)) 4)) := by
  obtain ⟨i0, hi, hz0, hz1, hz2⟩ := info_parts3 Tryz.infoBool
  have h := run_make (P := Tryz.prog) (w := w) 173 4 i0 (.bool false) Tryz.underlying173 hi hz0 .i64 .i64 N N (by omega) (by omega) (by rw [hz2]; omega) (by omega)
  rw [hz1] at h
  exact h
abbrev xno (xs : List (Int × List Int)) (k : Nat) : Int := (xs.getD k (0, [])).1
abbrev xdat (xs : List (Int × List Int)) (k : Nat) : List Int := (xs.getD k (0, [])).2
structure OkAt (N at_ own : Nat) (xs : List (Int × List Int)) (k : Nat) : Prop where
  lo : 0 <= xno xs k
  hi : xno xs k < N
  once : ∀ j, j < k -> xno xs j ≠ xno xs k
  len : (xdat xs k).length = 128
  out : xno xs k < at_ \/ (at_ : Int) + own <= xno xs k
structure SeenAt (sb N : Nat) (sn : Nat -> Bool) (w : World) : Prop where
  cell : ∀ i, i < N -> w.cell? ⟨sb, i, none⟩ = some (.bool (sn i))
  free : ∀ i, i < N -> w.frozen? ⟨sb, i, none⟩ = false
theorem SeenAt.set {sb N : Nat} {sn : Nat -> Bool} {w : World} (h : SeenAt sb N sn w) (X : Nat) (hX : X < N) : SeenAt sb N (fun i => if i = X then true else sn i) (w.setCell ⟨sb, X, none⟩ (.bool true)) :=
  ⟨fun j hj => by
    by_cases e : j = X
    · subst e
      simp only [if_true]
      exact World.cell?_setCell_same' _ _ _ (by rw [h.cell j hj]; rfl)
    · simp only [if_neg e]
      exact (World.cell?_setCell_other _ _ _ _ (by intro x; exact e (congrArg Addr.off x).symm)).trans (h.cell j hj), fun j hj => by simp [h.free j hj]⟩
theorem SeenAt.drewN {sb N : Nat} {sn : Nat -> Bool} {w : World} (h : SeenAt sb N sn w) (k : Nat) : SeenAt sb N sn (w.drewN k) := ⟨fun i hi => by simpa using h.cell i hi, fun i hi => by simpa using h.free i hi⟩
def Took (N at_ own : Nat) (xs : List (Int × List Int)) (e : Ending) : Prop := ∃ r : Bool, e = .returned (.bool r) /\ (r = true <-> ∀ k, k < xs.length -> OkAt N at_ own xs k)
theorem seen_step {n k X : Nat} {xs : List (Int × List Int)} {sn : Nat -> Bool} (h : ∀ i, i < n -> (sn i = true <-> ∃ j, j < k /\ xno xs j = (i : Int))) (hx : xno xs k = (X : Int)) : ∀ i, i < n -> ((if i = X then true else sn i) = true <-> ∃ j, j < k + 1 /\ xno xs j = (i : Int)) := fun i hi => by
  by_cases e : i = X
  · subst e
    rw [if_pos rfl]
    exact ⟨fun _ => ⟨k, by omega, hx⟩, fun _ => rfl⟩
  · rw [if_neg e, h i hi]
    constructor
    · rintro ⟨j, hj, hh⟩; exact ⟨j, by omega, hh⟩
    · rintro ⟨j, hj, hh⟩
      refine ⟨j, ?_, hh⟩
      rcases Nat.lt_or_ge j k with h' | h'
      · exact h'
      · have : j = k := by omega
        subst this
        rw [hx] at hh
        omega
theorem takes_calls {w0 : World} {d g n : Nat} {mem : Nat -> Int} {writes left : Int} {w : World} (h : Sys w0 d g n mem writes left w) (jb at_ most own : Nat) (hj : JAt jb d at_ most w) (hat : at_ + own <= 100000) (v : Value) (xs : List (Int × List Int)) (hv : GAt w v xs) :
    Calls Tryz.prog 206 #[ptr jb, v, .int .i64 own] w fun e w' => Took n at_ own xs e /\ Below w.heap.size w w' := by
  have hfew := h.disk.few
  have hBl := hidden (sys_blocks h)
  have hmk := make_bools n (by omega) w
  have hSn : Hid (SeenAt w.heap.size n (fun _ => false) (w.alloc (.cells (madeCells (Value.bool false).cells (n * 1)) 4))) := hidden ⟨fun i hi => by
    rw [cells_new]; simp [madeCells, Value.cells, hi, Nat.mod_one], fun i _ => by simp⟩
  generalize madeCells (Value.bool false).cells (n * 1) = cs at hmk hSn
  have hc0 := hj.c0
  replace hj := hidden hj
  have hH := hidden hv
  obtain ⟨a, cap, rfl, hx1000, hc⟩ := hv
  clear h hc
  go_enter Tryz.func206, Tryz.ntmps206
  go_wp2_with fail
  refine (hBl.out).mono ?_
  rintro ev w1 ⟨rfl, rfl⟩
  go_wp2
  clear hmk hc0 hBl
  go_loopg [18] xs.length (fun gk q wr => ∃ k : Nat, k <= xs.length /\ gk = xs.length - k /\ q = .int .i64 k /\ Hid ((∃ sn, SeenAt w1.heap.size n sn wr /\ ∀ i, i < n -> (sn i = true <-> ∃ j, j < k /\ xno xs j = (i : Int))) /\ (∀ j, j < k -> OkAt n at_ own xs j) /\ Below w1.heap.size w1 wr))
  case atStart => exact ⟨0, by omega, rfl, rfl, hidden ⟨⟨_, hSn.out, fun i _ => by simp⟩, fun j hj => by omega, (Below.refl _ _).alloc (Nat.le_refl _) _⟩⟩
  case round =>
    obtain ⟨k, hk, hgk, rfl, hI⟩ := hrel
    replace hgk := hidden hgk
    by_cases hlt : k < xs.length
    · obtain ⟨⟨sn, hsn, hsn2⟩, hok, hB⟩ := hI.out
      clear hI hSn
      have hxk : xs ≠ [] := by intro e; rw [e] at hlt; simp at hlt
      obtain ⟨a', cap', hv', -, hc'⟩ := hH.out
      obtain ⟨gb, off, ha', -, -⟩ := hc' hxk
      obtain ⟨rfl, -, -⟩ := Value.slice.inj hv'
      subst ha'
      clear hv' hc'
      obtain ⟨hc1, da, dcap, hc2, -⟩ := hH.out.cells k hlt
      have hgb := hH.out.lt (by omega)
      replace hc1 := (hB.cell (p := ⟨gb, off + k * 2, none⟩) hgb).trans hc1
      replace hc2 := (hB.cell (p := ⟨gb, off + k * 2 + 1, none⟩) hgb).trans hc2
      obtain ⟨x, hx⟩ : ∃ x, xno xs k = x := ⟨_, rfl⟩
      obtain ⟨L, hL⟩ : ∃ L, (xdat xs k).length = L := ⟨_, rfl⟩
      rw [show (xs.getD k (0, [])).1 = x from hx] at hc1
      rw [show (xs.getD k (0, [])).2.length = L from hL] at hc2
      replace hx := hidden hx
      replace hL := hidden hL
      have hj1 := (hj.out.below hB).c1
      have hjl := (hj.out.below hB).lt
      replace hsn2 := hidden hsn2
      replace hok := hidden hok
      have hs := hidden hsn
      replace hB := hidden hB
      clear hsn
      go_upto_region 5 with fail
      have hBa : Below wr.heap.size wr (wr.alloc (.cells #[.int .i64 x, .slice da L dcap] 255)) := (Below.refl _ _).alloc (Nat.le_refl _) _
      have e0 : (wr.alloc (.cells #[.int .i64 x, .slice da L dcap] 255)).cell? ⟨wr.heap.size, 0, none⟩ = some (.int .i64 x) := by simp
      have e1 : (wr.alloc (.cells #[.int .i64 x, .slice da L dcap] 255)).cell? ⟨wr.heap.size, 1, none⟩ = some (.slice da L dcap) := by simp
      generalize wr.alloc (.cells #[.int .i64 x, .slice da L dcap] 255) = w2 at hBa e0 e1 ⊢
      have hj2 := (hBa.cell (p := ⟨jb, 1, none⟩) hjl).trans hj1
      have hB2 := hidden (hB.out.trans (hBa.mono hB.out.size))
      have hs2 : Hid (SeenAt w1.heap.size n sn w2) := hidden ⟨fun i hi => (hBa.cell (p := ⟨w1.heap.size, i, none⟩) (lt_of_cell (a := ⟨w1.heap.size, i, none⟩) (hs.out.cell i hi))).trans (hs.out.cell i hi), fun i hi => (hBa.frozen (p := ⟨w1.heap.size, i, none⟩) (lt_of_cell (a := ⟨w1.heap.size, i, none⟩) (hs.out.cell i hi))).trans (hs.out.free i hi)⟩
      generalize wr.heap.size = lb at e0 e1 ⊢
      clear hBa hj1 hjl hB hs hc1 hc2 hgb
      by_cases hneg : x < 0
      · have hF : Hid (¬ ∀ k, k < xs.length -> OkAt n at_ own xs k) := hidden fun hh => by have := (hh k hlt).lo; have h2 := hx.out; omega
        clear hj2 hs2
        go_wp2
        go_ret
        exact ⟨⟨false, rfl, by simpa using hF.out⟩, hB2.out⟩
      · obtain ⟨X, rfl⟩ := Int.eq_ofNat_of_zero_le (Int.not_lt.1 hneg)
        by_cases hbig : X < n
        · have es := hs2.out.cell X hbig
          cases hsx : sn X with
          | true =>
            rw [hsx] at es
            have hF : Hid (¬ ∀ k, k < xs.length -> OkAt n at_ own xs k) := hidden fun hh => by
              obtain ⟨j, hjk, hjx⟩ := (hsn2.out X hbig).1 hsx
              exact (hh k hlt).once j hjk (by rw [hjx, hx.out])
            clear hj2 hs2
            go_wp2
            go_ret
            exact ⟨⟨false, rfl, by simpa using hF.out⟩, hB2.out⟩
          | false =>
            rw [hsx] at es
            by_cases hlen : L = 128
            · subst hlen
              have hOnce : ∀ j, j < k -> xno xs j ≠ xno xs k := fun j hjk e => by
                have := (hsn2.out X hbig).2 ⟨j, hjk, by rw [e]; exact hx.out⟩
                rw [hsx] at this; cases this
              by_cases hat1 : (at_ : Int) <= (X : Int)
              · have d1 : decide ((at_ : Int) <= (X : Int)) = true := decide_eq_true hat1
                by_cases hat2 : (X : Int) < (at_ : Int) + (own : Int)
                · have hF : Hid (¬ ∀ k, k < xs.length -> OkAt n at_ own xs k) := hidden fun hh => by have := (hh k hlt).out; have h2 := hx.out; omega
                  have d2 : decide ((X : Int) < (at_ : Int) + (own : Int)) = true := decide_eq_true hat2
                  clear hs2 hOnce
                  go_wp2_with fail
                  go_quiet (fail)
                  go_wp2
                  go_ret
                  exact ⟨⟨false, rfl, by simpa using hF.out⟩, below_drewN hB2.out nq⟩
                · have hOk : OkAt n at_ own xs k := ⟨by have h2 := hx.out; omega, by have h2 := hx.out; omega, hOnce, hL.out, by have h2 := hx.out; omega⟩
                  replace hOk := hidden hOk
                  have d2 : decide ((X : Int) < (at_ : Int) + (own : Int)) = false := decide_eq_false hat2
                  clear hOnce
                  go_wp2_with fail
                  go_quiet (fail)
                  replace hOk := hOk.out
                  have hE := hidden (And.intro (And.intro ((hs2.out.drewN nq).set X hbig) (seen_step hsn2.out hx.out)) (And.intro hOk ((below_drewN hB2.out nq).setCell (p := ⟨w1.heap.size, X, none⟩) (Nat.le_refl _) (.bool true))))
                  have es2 := (hs2.out.drewN nq).cell X hbig
                  have ef2 := (hs2.out.drewN nq).free X hbig
                  have e02 : (w2.drewN nq).cell? ⟨lb, 0, none⟩ = some (.int .i64 (X : Int)) := by simpa using e0
                  clear hs2 hB2 es e0 e1 hj2
                  generalize w2.drewN nq = w3 at hE es2 ef2 e02 ⊢
                  go_wp2
                  go_roundg (xs.length - (k + 1))
                  case measure => rw [hgk.out]; omega
                  case rel =>
                    obtain ⟨⟨h1, h2⟩, h3, h4⟩ := hE.out
                    exact ⟨k + 1, hlt, rfl, by go_num, hidden ⟨⟨_, h1, h2⟩, fun j hj => by
                      rcases Nat.lt_or_ge j k with h' | h'
                      · exact hok.out j h'
                      · have : j = k := by omega
                        subst this; exact h3, h4⟩⟩
              · have hOk : OkAt n at_ own xs k := ⟨by have h2 := hx.out; omega, by have h2 := hx.out; omega, hOnce, hL.out, by have h2 := hx.out; omega⟩
                replace hOk := hidden hOk
                have d1 : decide (at_ <= X) = false := decide_eq_false (by omega)
                clear hOnce
                go_wp2_with fail
                go_quiet (fail)
                replace hOk := hOk.out
                have hE := hidden (And.intro (And.intro ((hs2.out.drewN nq).set X hbig) (seen_step hsn2.out hx.out)) (And.intro hOk ((below_drewN hB2.out nq).setCell (p := ⟨w1.heap.size, X, none⟩) (Nat.le_refl _) (.bool true))))
                have es2 := (hs2.out.drewN nq).cell X hbig
                have ef2 := (hs2.out.drewN nq).free X hbig
                have e02 : (w2.drewN nq).cell? ⟨lb, 0, none⟩ = some (.int .i64 (X : Int)) := by simpa using e0
                clear hs2 hB2 es e0 e1 hj2
                generalize w2.drewN nq = w3 at hE es2 ef2 e02 ⊢
                go_wp2
                go_roundg (xs.length - (k + 1))
                case measure => rw [hgk.out]; omega
                case rel =>
                  obtain ⟨⟨h1, h2⟩, h3, h4⟩ := hE.out
                  exact ⟨k + 1, hlt, rfl, by go_num, hidden ⟨⟨_, h1, h2⟩, fun j hj => by
                    rcases Nat.lt_or_ge j k with h' | h'
                    · exact hok.out j h'
                    · have : j = k := by omega
                      subst this; exact h3, h4⟩⟩
            · have hF : Hid (¬ ∀ k, k < xs.length -> OkAt n at_ own xs k) := hidden fun hh => hlen (by rw [<- hL.out]; exact (hh k hlt).len)
              have hlen' : ((L : Int) != 128) = true := by simp; omega
              clear hj2 hs2
              go_wp2
              go_ret
              exact ⟨⟨false, rfl, by simpa using hF.out⟩, hB2.out⟩
        · have hF : Hid (¬ ∀ k, k < xs.length -> OkAt n at_ own xs k) := hidden fun hh => by have := (hh k hlt).hi; rw [hx.out] at this; have h2 : (X : Int) < n := this; omega
          have hbig' : (n : Int) <= (X : Int) := by omega
          clear hj2 hs2
          go_wp2
          go_ret
          exact ⟨⟨false, rfl, by simpa using hF.out⟩, hB2.out⟩
    · obtain rfl : k = xs.length := by omega
      go_wp2
      go_ret
      exact ⟨⟨true, rfl, by simpa using hI.out.2.1⟩, hI.out.2.2⟩
abbrev LeftOk (left : Int) : Prop := -1 <= left /\ left <= 9223372036854775807
structure Wrote (w0 : World) (d g n : Nat) (ws : Grp) (mem : Nat -> Int) (writes left : Int) (r : Value) (w w' : World) : Prop where
  apart : Apart [d, g] w w'
  out : (r = .nilIface /\ ∃ left', Sys w0 d g n (laid ws mem) (writes + ws.length) left' w' /\ LeftOk left' /\ (left = -1 -> left' = -1)) \/
    (∃ (k b : Nat) (i : Int), k < ws.length /\ r = flt b /\ Chain w' [(sDisk, itoaB i)] (num 50) (flt b) /\ w.heap.size <= b /\ Sys w0 d g n (laid (ws.take k) mem) (writes + k) 0 w' /\ left ≠ -1)
theorem reach_dead (n : Nat) (i : Nat) (hi : i < n) : reachV n 0 i = num 50 := by unfold reachV; rw [if_neg (by omega), if_pos rfl]
theorem burnt_ok {left : Int} (h : LeftOk left) : LeftOk (burnt left) := by unfold burnt LeftOk at *; split <;> omega
theorem write_out {w0 : World} {d g n : Nat} {mem : Nat -> Int} {writes left : Int} {w : World} (h : Sys w0 d g n mem writes left w) (i : Nat) (hi : i < n) (v : Value) (zs : List Int) (hv : BytesAt w v zs) (hz : zs.length = 128) (hl : LeftOk left) (hw : 0 <= writes /\ writes < 1000000000) :
    Calls Tryz.prog 105 #[ptr d, .int .i64 i, v] w fun e w' => ∃ r, e = .returned r /\ Wrote w0 d g n [(i, zs)] mem writes left r w w' := by
  have hfew := h.disk.few
  by_cases hl0 : left = 0
  · subst hl0
    refine (sys_write_bad h i 50 ⟨by omega, by omega⟩ v zs hv (Or.inr ⟨hz, reach_dead n i hi⟩)).mono ?_
    rintro e w' ⟨b, rfl, hc, hb, hS, hB⟩
    exact ⟨_, rfl, Apart.of_below hB, Or.inr ⟨0, b, i, by simp, rfl, hc, hb, by simpa [laid] using hS, by decide⟩⟩
  · refine (sys_write h i hi v zs hv hz hl0 ⟨hl.2, hl.1⟩ hw).mono ?_
    rintro e w' ⟨rfl, hS, hA⟩
    exact ⟨_, rfl, hA, Or.inl ⟨rfl, _, by simpa [laid] using hS, burnt_ok hl, fun e => by subst e; rfl⟩⟩
def GOff (d g : Nat) (w : World) (v : Value) (xs : List (Int × List Int)) : Prop := ∀ w', Apart [d, g] w w' -> GAt w' v xs
theorem GOff.at {d g : Nat} {w : World} {v : Value} {xs : List (Int × List Int)} (h : GOff d g w v xs) : GAt w v xs := h w (Apart.refl _ _)
theorem GOff.keep {d g : Nat} {w w' : World} {v : Value} {xs : List (Int × List Int)} (h : GOff d g w v xs) (ha : Apart [d, g] w w') : GOff d g w' v xs := fun w'' h2 => h w'' (ha.trans h2)
theorem GOff.below {d g : Nat} {w w' : World} {v : Value} {xs : List (Int × List Int)} (h : GOff d g w v xs) (hb : Below w.heap.size w w') : GOff d g w' v xs := h.keep (Apart.of_below hb)
theorem take_snoc (l : Grp) (k : Nat) (hk : k < l.length) : l.take (k + 1) = l.take k ++ [(nob l k, dat l k)] := by
  have e : l.getD k (0, []) = l[k] := by simp [List.getD, hk]
  show _ = _ ++ [((l.getD k (0, [])).1, (l.getD k (0, [])).2)]
  rw [e]
  exact List.take_succ_eq_append_getElem hk
structure Mid (w0 : World) (d g n : Nat) (ws : Grp) (k : Nat) (mem : Nat -> Int) (writes left : Int) (w wr : World) : Prop where
  apart : Apart [d, g] w wr
  out : ∃ left', Sys w0 d g n (laid (ws.take k) mem) (writes + k) left' wr /\ LeftOk left' /\ (left = -1 -> left' = -1)
theorem Mid.fail {w0 : World} {d g n : Nat} {ws : Grp} {k : Nat} {mem : Nat -> Int} {writes left left' : Int} {w wr w' : World} {r : Value} {i : Nat} {zs : List Int} (hk : k < ws.length) (ha : Apart [d, g] w wr) (hl : left = -1 -> left' = -1)
    (h : Wrote w0 d g n [(i, zs)] (laid (ws.take k) mem) (writes + k) left' r wr w') (hr : r ≠ .nilIface) : Wrote w0 d g n ws mem writes left r w w' := by
  refine ⟨ha.trans h.apart, ?_⟩
  rcases h.out with ⟨h1, _⟩ | ⟨k2, b, i2, h1, h2, h3, h4, h5, h6⟩
  · exact absurd h1 hr
  · have : k2 = 0 := by simpa using h1
    subst this
    refine Or.inr ⟨k, b, i2, hk, h2, h3, Nat.le_trans ha.size h4, ?_, fun e => h6 (hl e)⟩
    simpa [laid] using h5
theorem Mid.next {w0 : World} {d g n : Nat} {ws : Grp} {k : Nat} {mem : Nat -> Int} {writes left left' : Int} {w wr w' : World} {i : Nat} {zs : List Int} (ha : Apart [d, g] w wr) (hl : left = -1 -> left' = -1) (ht : ws.take (k + 1) = ws.take k ++ [(i, zs)])
    (h : Wrote w0 d g n [(i, zs)] (laid (ws.take k) mem) (writes + k) left' .nilIface wr w') : Mid w0 d g n ws (k + 1) mem writes left w w' := by
  refine ⟨ha.trans h.apart, ?_⟩
  rcases h.out with ⟨_, l2, h2, h3, h4⟩ | ⟨_, _, _, _, h2, _⟩
  · refine ⟨l2, ?_, h3, fun e => h4 (hl e)⟩
    rw [ht, laid_append]
    have e : writes + ((k + 1 : Nat) : Int) = writes + k + ([(i, zs)] : Grp).length := by simp; omega
    rw [e]
    exact h2
  · cases h2
theorem Mid.last {w0 : World} {d g n : Nat} {ws : Grp} {k : Nat} {mem : Nat -> Int} {writes left left' : Int} {w wr w' : World} {r : Value} {i : Nat} {zs : List Int} (ha : Apart [d, g] w wr) (hl : left = -1 -> left' = -1) (ht : ws = ws.take k ++ [(i, zs)]) (hk : k < ws.length)
    (h : Wrote w0 d g n [(i, zs)] (laid (ws.take k) mem) (writes + k) left' r wr w') : Wrote w0 d g n ws mem writes left r w w' := by
  rcases h.out with ⟨rfl, l2, h2, h3, h4⟩ | ⟨_, _, _, _, h2, _⟩
  · refine ⟨ha.trans h.apart, Or.inl ⟨rfl, l2, ?_, h3, fun e => h4 (hl e)⟩⟩
    have e1 : laid ws mem = laid [(i, zs)] (laid (ws.take k) mem) := by rw [<- laid_append, <- ht]
    have e2 : ws.length = k + 1 := by rw [ht]; simp; omega
    rw [e1, e2]
    have e : writes + ((k + 1 : Nat) : Int) = writes + k + ([(i, zs)] : Grp).length := by simp; omega
    rw [e]
    exact h2
  · exact Mid.fail hk ha hl h (by rw [h2]; intro e; cases e)
end Go.Proofs.YtpofmiecjkghgaaGreatDoor
