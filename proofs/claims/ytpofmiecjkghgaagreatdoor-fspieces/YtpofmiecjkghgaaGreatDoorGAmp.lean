/- A bit of a byte: told, and turned. -/
import Derived.WalkKit
import Derived.Test.YtpofmiecjkghgaaGreatDoorGCap
import Derived.Test.YtpofmiecjkghgaaGreatDoorGAsp
import Derived.Test.YtpofmiecjkghgaaGreatDoorApp
import Derived.Deep.LoopGhost
import Derived.Deep.RegionWith
import Derived.Deep.QuietTactic
import Derived.BigQuiet
namespace Go.Proofs.YtpofmiecjkghgaaGreatDoor
open Go.RowKit
def tb (x : Int) (k : Nat) : Bool := (BitVec.ofInt 8 x).getLsbD k
theorem u8_wrap {z : Nat} (h : z < 256) : IntKind.u8.wrap (z : Int) = z := by
  have h4 : (z : Int) % (2 ^ 8 : Int) = z := by omega
  simp only [IntKind.wrap, IntKind.bits, IntKind.signed, h4]
  simp
theorem two8 {k : Nat} (hk : k < 8) : BitVec.ofInt 8 (2 ^ k : Int) = BitVec.twoPow 8 k := by
  have : k = 0 \/ k = 1 \/ k = 2 \/ k = 3 \/ k = 4 \/ k = 5 \/ k = 6 \/ k = 7 := by omega
  rcases this with rfl | rfl | rfl | rfl | rfl | rfl | rfl | rfl <;> rfl
theorem two8_nat {k : Nat} (hk : k < 8) : (((BitVec.twoPow 8 k).toNat : Nat) : Int) = 2 ^ k := by
  have : k = 0 \/ k = 1 \/ k = 2 \/ k = 3 \/ k = 4 \/ k = 5 \/ k = 6 \/ k = 7 := by omega
  rcases this with rfl | rfl | rfl | rfl | rfl | rfl | rfl | rfl <;> rfl
theorem two8_mod {k : Nat} (hk : k < 8) : (2 : Int) ^ k % 256 = 2 ^ k := by
  have : k = 0 \/ k = 1 \/ k = 2 \/ k = 3 \/ k = 4 \/ k = 5 \/ k = 6 \/ k = 7 := by omega
  rcases this with rfl | rfl | rfl | rfl | rfl | rfl | rfl | rfl <;> rfl
theorem two8_ne {k : Nat} (hk : k < 8) : ((2 : Int) ^ k != 0) = true := by
  have : k = 0 \/ k = 1 \/ k = 2 \/ k = 3 \/ k = 4 \/ k = 5 \/ k = 6 \/ k = 7 := by omega
  rcases this with rfl | rfl | rfl | rfl | rfl | rfl | rfl | rfl <;> rfl
theorem and_bit (x : Int) {k : Nat} (hk : k < 8) : bits .and .u8 x (2 ^ k) = if tb x k then 2 ^ k else 0 := by
  show IntKind.u8.wrap (((BitVec.ofInt 8 x &&& BitVec.ofInt 8 (2 ^ k : Int)).toNat : Nat) : Int) = _
  rw [two8 hk, BitVec.and_twoPow]
  unfold tb
  by_cases h : (BitVec.ofInt 8 x).getLsbD k = true
  · rw [if_pos h, if_pos h, u8_wrap (BitVec.isLt _), two8_nat hk]
  · rw [if_neg h, if_neg h]; rfl
theorem xor_bit_range (x y : Int) : 0 <= bits .xor .u8 x y /\ bits .xor .u8 x y <= 255 := by
  have h : bits .xor .u8 x y = IntKind.u8.wrap (((BitVec.ofInt 8 x ^^^ BitVec.ofInt 8 y).toNat : Nat) : Int) := rfl
  rw [h, u8_wrap (BitVec.isLt _)]
  have := (BitVec.ofInt 8 x ^^^ BitVec.ofInt 8 y).isLt
  omega
theorem xor_bit (x : Int) {k : Nat} (hk : k < 8) (j : Nat) : tb (bits .xor .u8 x (2 ^ k)) j = (tb x j ^^ decide (j = k)) := by
  have h : bits .xor .u8 x (2 ^ k) = IntKind.u8.wrap (((BitVec.ofInt 8 x ^^^ BitVec.ofInt 8 (2 ^ k : Int)).toNat : Nat) : Int) := rfl
  rw [h, u8_wrap (BitVec.isLt _), two8 hk]
  unfold tb
  rw [show BitVec.ofInt 8 (((BitVec.ofInt 8 x ^^^ BitVec.twoPow 8 k).toNat : Nat) : Int) = BitVec.ofInt 8 x ^^^ BitVec.twoPow 8 k by rw [BitVec.ofInt_natCast, BitVec.ofNat_toNat, BitVec.setWidth_eq]]
  rw [BitVec.getLsbD_xor, BitVec.getLsbD_twoPow, decide_eq_true hk, Bool.true_and]
  congr 1
  simp [eq_comm]
theorem tb_zero (k : Nat) : tb 0 k = false := by unfold tb; simp
end Go.Proofs.YtpofmiecjkghgaaGreatDoor
namespace Go.Proofs.YtpofmiecjkghgaaGreatDoor
open Go.RowKit Go.Extern.Stop Go.Stop Go.Extern
set_option maxRecDepth 100000
set_option maxHeartbeats 2000000
def spotA (i : Nat) : Nat := i % 1024 / 8
def homeA (ma i : Nat) : Nat := ma + i / 1024
def byteA (mem : Nat -> Int) (M : Chg) (ma i : Nat) : Int := (nowM mem M (homeA ma i)).getD (spotA i) 0
def bitM (mem : Nat -> Int) (M : Chg) (ma i : Nat) : Bool := tb (byteA mem M ma i) (i % 8)
def turnL (mem : Nat -> Int) (M : Chg) (ma i : Nat) : List Int := layL (nowM mem M (homeA ma i)) (spotA i) [bits .xor .u8 (byteA mem M ma i) (2 ^ (i % 8))]
def turnM (mem : Nat -> Int) (M : Chg) (ma i : Nat) : Chg := putM (homeA ma i : Nat) (turnL mem M ma i) M
theorem spotA_lt (i : Nat) : spotA i < 128 := by unfold spotA; omega
theorem turnL_row {mem : Nat -> Int} {M : Chg} {ma i : Nat} (hr : Row (nowM mem M (homeA ma i))) : Row (turnL mem M ma i) :=
  layL_row hr (fun z hz => by obtain rfl := List.mem_singleton.1 hz; exact xor_bit_range _ _) (by have := spotA_lt i; simp; omega)
theorem now_turn {mem : Nat -> Int} {M : Chg} {ma i : Nat} (ht : Tidy M) (hr : ∀ no, Row (nowM mem M no)) (no : Nat) : nowM mem (turnM mem M ma i) no = if no = homeA ma i then turnL mem M ma i else nowM mem M no := by
  unfold nowM turnM
  by_cases h : no = homeA ma i
  · subst h
    rw [if_pos rfl]
    exact getM_put_same ht (turnL_row (hr _)) _
  · rw [if_neg h]
    exact getM_put_other ht (turnL_row (hr _)) (by omega) _
theorem bit_turn_other {mem : Nat -> Int} {M : Chg} {ma i : Nat} (ht : Tidy M) (hr : ∀ no, Row (nowM mem M no)) (mb j : Nat) (h : homeA mb j ≠ homeA ma i) : bitM mem (turnM mem M ma i) mb j = bitM mem M mb j := by
  unfold bitM byteA
  rw [now_turn ht hr, if_neg h]
theorem bit_turn {mem : Nat -> Int} {M : Chg} {ma i : Nat} (ht : Tidy M) (hr : ∀ no, Row (nowM mem M no)) (j : Nat) : bitM mem (turnM mem M ma i) ma j = (bitM mem M ma j ^^ decide (j = i)) := by
  by_cases hh : j / 1024 = i / 1024
  · have he : homeA ma j = homeA ma i := by unfold homeA; omega
    unfold bitM byteA
    rw [now_turn ht hr, if_pos he, he]
    unfold turnL
    rw [layL_get (hr _) (by have := spotA_lt i; simp; omega)]
    by_cases hs : spotA j = spotA i
    · rw [if_pos (by rw [hs]; simp), hs, Nat.sub_self]
      show tb (bits .xor .u8 (byteA mem M ma i) (2 ^ (i % 8))) (j % 8) = _
      rw [xor_bit _ (by omega)]
      have e : decide (j % 8 = i % 8) = decide (j = i) := by
        unfold spotA at hs
        apply Bool.eq_iff_iff.2
        simp only [decide_eq_true_eq]
        omega
      rw [e]
      rfl
    · rw [if_neg (by simp; omega), decide_eq_false (by intro e; subst e; exact hs rfl), Bool.xor_false]
  · rw [bit_turn_other ht hr _ _ (by unfold homeA; omega), decide_eq_false (by intro e; subst e; exact hh rfl), Bool.xor_false]
section
variable {w0 : World} {d g n jb cb mb at_ most : Nat} {blocks : Int} {mem : Nat -> Int} {writes left : Int} {M : Chg} {w w' : World}
theorem CSt.rows (h : CSt w0 d g n jb cb mb at_ most blocks mem writes left M w) (no : Nat) : Row (nowM mem M no) := by
  unfold nowM
  cases hh : hasM no M with
  | true => exact h.map.tidy.rows _ (getM_mem hh)
  | false =>
    rw [getM_none hh]
    refine ⟨blockL_len mem no, fun z hz => ?_⟩
    obtain ⟨j, -, rfl⟩ := List.mem_map.1 (show z ∈ (List.range 128).map (fun j => mem (no * 128 + j)) from hz)
    exact h.sys.disk.range _
end
theorem Tidy.few {M : Chg} (ht : Tidy M) (lo hi : Nat) (hl : lo <= hi) (h : ∀ p ∈ M, (lo : Int) <= p.1 /\ p.1 < (hi : Int)) : M.length <= hi - lo := by
  have key : ∀ (M : Chg), M.Pairwise (fun p q => p.1 < q.1) -> ∀ lo : Nat, lo <= hi -> (∀ p ∈ M, (lo : Int) <= p.1 /\ p.1 < (hi : Int)) -> M.length <= hi - lo := by
    intro M
    induction M with
    | nil => intro _ lo _ _; simp
    | cons y r ih =>
      intro hp lo hlo hk
      obtain ⟨h1, h2⟩ := List.pairwise_cons.1 hp
      have hy := hk y (by simp)
      have := ih h2 (lo + 1) (by omega) (fun p hp => by have := h1 p hp; have := hk p (by simp [hp]); omega)
      simp
      omega
  exact key M ht.up lo hl h
structure MpAt (ab cb ma fr k : Nat) (w : World) : Prop where
  c0 : w.cell? ⟨ab, 0, none⟩ = some (ptr cb)
  c1 : w.cell? ⟨ab, 1, none⟩ = some (.int .i64 ma)
  c2 : w.cell? ⟨ab, 2, none⟩ = some (.int .i64 fr)
  c3 : w.cell? ⟨ab, 3, none⟩ = some (.int .i64 k)
theorem MpAt.lt {ab cb ma fr k : Nat} {w : World} (h : MpAt ab cb ma fr k w) : ab < w.heap.size := lt_of_cell (a := ⟨ab, 0, none⟩) h.c0
theorem MpAt.keep {ab cb ma fr k : Nat} {w w' : World} {bs : List Nat} (h : MpAt ab cb ma fr k w) (ha : Apart bs w w') (hn : ab ∉ bs) : MpAt ab cb ma fr k w' :=
  ⟨(ha.cell (p := ⟨ab, 0, none⟩) h.lt hn).trans h.c0, (ha.cell (p := ⟨ab, 1, none⟩) h.lt hn).trans h.c1, (ha.cell (p := ⟨ab, 2, none⟩) h.lt hn).trans h.c2, (ha.cell (p := ⟨ab, 3, none⟩) h.lt hn).trans h.c3⟩
theorem MpAt.below {ab cb ma fr k : Nat} {w w' : World} (h : MpAt ab cb ma fr k w) (hb : Below w.heap.size w w') : MpAt ab cb ma fr k w' := h.keep (Apart.of_below (bs := []) hb) (by simp)
theorem spot_calls (i : Nat) (hi : i < 1000000) (w : World) :
    Calls Tryz.prog 210 #[.int .i64 i] w fun e w' => e = .returned (.tuple #[.int .i64 (i % 1024 / 8 : Nat), .int .u8 (2 ^ (i % 8))]) /\ Below w.heap.size w w' := by
  go_enter Tryz.func210, Tryz.ntmps210
  go_wp2_with fail
  go_quiet (fail)
  go_wp2
  go_ret2
  refine ⟨?_, below_drewN (Below.refl _ _) nq⟩
  have e := two8_mod (k := i % 8) (by omega)
  simp [e]
theorem home_calls (i ma ab : Nat) (hi : i < 1000000) (hm : ma < 1000000) (w : World) (hc : w.cell? ⟨ab, 1, none⟩ = some (.int .i64 ma)) :
    Calls Tryz.prog 209 #[.pointer (some ⟨ab, 0, none⟩), .int .i64 i] w fun e w' => e = .returned (.int .i64 (ma + i / 1024 : Nat)) /\ w' = w := by
  go_enter Tryz.func209, Tryz.ntmps209
  go_wp2
  go_ret
  exact ⟨by simp, rfl⟩
theorem set_calls (i b : Nat) (hi : i < 1000000) (x : Int) (w : World) (hc : w.cell? ⟨b, (i % 1024 / 8), none⟩ = some (.int .u8 x)) :
    Calls Tryz.prog 164 #[.slice (some ⟨b, 0, none⟩) 128 128, .int .i64 i] w fun e w' => e = .returned (.bool (tb x (i % 8))) /\ Below w.heap.size w w' := by
  have hS := hidden (spot_calls i hi w)
  have hl : b < w.heap.size := lt_of_cell (a := ⟨b, (i % 1024 / 8), none⟩) hc
  have hlt : i % 1024 / 8 < 128 := by omega
  have hA := and_bit x (k := i % 8) (by omega)
  have hp : ((2 : Int) ^ (i % 8) != 0) = true := two8_ne (k := i % 8) (by omega)
  obtain ⟨T, hT⟩ : ∃ T, tb x (i % 8) = T := ⟨_, rfl⟩
  rw [hT] at hA ⊢
  generalize i % 1024 / 8 = sp at hS hc hlt hl
  generalize (2 : Int) ^ (i % 8) = bt at hS hA hp
  have hV : (bits .and .u8 x bt != 0) = T := by
    rw [hA]
    cases T
    · rfl
    · exact hp
  generalize hVv : bits .and .u8 x bt = V at hV
  replace hV := hidden hV
  clear hA hp hT
  go_enter Tryz.func164, Tryz.ntmps164
  go_wp2_with fail
  refine (hS.out).mono ?_
  rintro ev w1 ⟨rfl, hB⟩
  have hc1 := (hB.cell (p := ⟨b, sp, none⟩) hl).trans hc
  replace hB := hidden hB
  clear hS
  go_wp2
  go_ret
  exact ⟨congrArg (fun b => Ending.returned (.bool b)) hV.out, hB.out⟩
def RowB (w : World) (b : Nat) (zs : List Int) : Prop := ∀ i, i < 128 -> w.cell? ⟨b, i, none⟩ = some (.int .u8 (zs.getD i 0))
theorem RowB.lt {w : World} {b : Nat} {zs : List Int} (h : RowB w b zs) : b < w.heap.size := lt_of_cell (a := ⟨b, 0, none⟩) (h 0 (by decide))
theorem RowB.below {w w' : World} {b : Nat} {zs : List Int} (h : RowB w b zs) (hb : Below w.heap.size w w') : RowB w' b zs := fun i hi => (hb.cell (p := ⟨b, i, none⟩) h.lt).trans (h i hi)
structure Sees (f : FuncId) (caps : Array Value) (ab k : Nat) (row : Nat -> List Int) (I E : Nat -> World -> Prop) : Prop where
  few : k <= 2048
  ent : ∀ (args : Array Value) (w : World), (callFunc f args).run Tryz.prog w = .ok (.enter f args) w
  more : ∀ j w w', I j w -> Below w.heap.size w w' -> I j w'
  cell : ∀ w, I 0 w -> w.cell? ⟨ab, 3, none⟩ = some (.int .i64 k)
  bits : ∀ j w, j < k -> I j w -> Calls Tryz.prog 163 #[.pointer (some ⟨ab, 0, none⟩), .int .i64 j] w fun e w' => ∃ b, e = .returned (.tuple #[.slice (some ⟨b, 0, none⟩) 128 128, .nilIface]) /\ RowB w' b (row (j / 1024)) /\ Below w.heap.size w w'
  call : ∀ j w b zs, j < k -> I j w -> RowB w b zs -> Calls Tryz.prog f (#[.int .i64 j, .bool (tb ((row (j / 1024)).getD (j % 1024 / 8) 0) (j % 8))] ++ caps) w fun e w' => (e = .returned (.bool true) /\ I (j + 1) w' /\ RowB w' b zs) \/ (e = .returned (.bool false) /\ E j w')
theorem walk_calls {f : FuncId} {caps : Array Value} {ab k : Nat} {row : Nat -> List Int} {I E : Nat -> World -> Prop} (hs : Sees f caps ab k row I E) (w : World) (h0 : I 0 w) :
    Calls Tryz.prog 109 #[.pointer (some ⟨ab, 0, none⟩), .func (.func f) #[] caps] w fun e w' => e = .returned .nilIface /\ (I k w' \/ ∃ j, j < k /\ E j w') := by
  have c3 := hs.cell w h0
  have hk := hs.few
  have hent := hs.ent
  replace hs := hidden hs
  go_enter Tryz.func109, Tryz.ntmps109
  go_wp2_with fail
  go_loopg [5, 12] (k + 1) (fun gk bv q wr => ∃ j : Nat, j <= k /\ gk = k + 1 - j /\ q = .int .i64 j /\ Hid (I j wr) /\ (j % 1024 ≠ 0 -> ∃ b, bv = .slice (some ⟨b, 0, none⟩) 128 128 /\ RowB wr b (row (j / 1024))))
  case atStart => exact ⟨0, by omega, rfl, rfl, hidden h0, fun h => absurd rfl h⟩
  case round =>
    obtain ⟨j, hj, hgk, rfl, hI, hrow⟩ := hrel
    replace hgk := hidden hgk
    clear h0 c3
    by_cases hlt : j < k
    · by_cases hm : j % 1024 = 0
      · have hm' : (j : Int) % 1024 = 0 := by omega
        replace hm := hidden hm
        have hB := hidden (hs.out.bits j _ hlt hI.out)
        clear hrow
        go_wp2_with fail
        refine (hB.out).mono ?_
        rintro ev w2 ⟨b, rfl, hR, hB2⟩
        have hI2 := hidden (hs.out.more _ _ _ hI.out hB2)
        have hR2 := hidden hR
        have hSet := hidden (set_calls j b (by omega) _ w2 (hR (j % 1024 / 8) (by omega)))
        clear hB hR hB2 hI
        go_wp2_with fail
        refine (hSet.out).mono ?_
        rintro ev w3 ⟨rfl, hB3⟩
        have hC := hidden (hs.out.call j w3 b (row (j / 1024)) hlt (hs.out.more _ _ _ hI2.out hB3) (hR2.out.below hB3))
        clear hSet hB3
        generalize tb ((row (j / 1024)).getD (j % 1024 / 8) 0) (j % 8) = T at hC ⊢
        go_wp2_with fail
        refine (hC.out).mono ?_
        rintro ev w4 (⟨rfl, hI4, hR4⟩ | ⟨rfl, hE4⟩)
        · replace hI4 := hidden hI4
          replace hR4 := hidden hR4
          clear hC hI2 hR2
          go_wp2
          go_roundg (k + 1 - (j + 1))
          case measure => rw [hgk.out]; omega
          case rel => exact ⟨j + 1, hlt, rfl, by go_num, hI4, fun hne => ⟨b, rfl, by rw [show (j + 1) / 1024 = j / 1024 by omega]; exact hR4.out⟩⟩
        · replace hE4 := hidden hE4
          clear hC hI2 hR2
          go_wp2
          go_ret
          exact ⟨rfl, Or.inr ⟨j, hlt, hE4.out⟩⟩
      · have hm' : ¬ (j : Int) % 1024 = 0 := by omega
        obtain ⟨b, rfl, hR⟩ := hrow hm
        have hI2 := hidden hI.out
        have hR2 := hidden hR
        have hSet := hidden (set_calls j b (by omega) _ _ (hR (j % 1024 / 8) (by omega)))
        clear hR hI hrow
        go_wp2_with fail
        refine (hSet.out).mono ?_
        rintro ev w3 ⟨rfl, hB3⟩
        have hC := hidden (hs.out.call j w3 b (row (j / 1024)) hlt (hs.out.more _ _ _ hI2.out hB3) (hR2.out.below hB3))
        clear hSet hB3
        generalize tb ((row (j / 1024)).getD (j % 1024 / 8) 0) (j % 8) = T at hC ⊢
        go_wp2_with fail
        refine (hC.out).mono ?_
        rintro ev w4 (⟨rfl, hI4, hR4⟩ | ⟨rfl, hE4⟩)
        · replace hI4 := hidden hI4
          replace hR4 := hidden hR4
          clear hC hI2 hR2
          go_wp2
          go_roundg (k + 1 - (j + 1))
          case measure => rw [hgk.out]; omega
          case rel => exact ⟨j + 1, hlt, rfl, by go_num, hI4, fun hne => ⟨b, rfl, by rw [show (j + 1) / 1024 = j / 1024 by omega]; exact hR4.out⟩⟩
        · replace hE4 := hidden hE4
          clear hC hI2 hR2
          go_wp2
          go_ret
          exact ⟨rfl, Or.inr ⟨j, hlt, hE4.out⟩⟩
    · obtain rfl : j = k := by omega
      go_wp2
      go_ret
      exact ⟨rfl, Or.inl hI.out⟩
theorem awrong_nil (nm : ByteArray) (w : World) : Calls Tryz.prog 111 #[.string nm, .nilIface] w fun e w' => e = .returned .nilIface /\ w' = w := by
  go_enter Tryz.func111, Tryz.ntmps111
  go_wp2_with fail
  refine (wrap_nil _ _ _).mono ?_
  rintro ev w4 ⟨rfl, rfl⟩
  go_wp2
  go_ret
  exact ⟨rfl, rfl⟩
section
variable {w0 : World} {d g n jb cb mb at_ most : Nat} {blocks : Int} {mem : Nat -> Int} {writes left : Int} {M : Chg} {w w' : World}
structure Fits (n : Nat) (blocks : Int) (ma fr k : Nat) : Prop where
  low : ma < 100000
  k1 : 1 <= k
  k2 : k <= 2048
  disk : homeA ma (k - 1) < n
  cache : (homeA ma (k - 1) : Int) < blocks
  top : fr + k <= 9223372036854775807
theorem Fits.home {n : Nat} {blocks : Int} {ma fr k : Nat} (h : Fits n blocks ma fr k) {i : Nat} (hi : i < k) : homeA ma i < n /\ (homeA ma i : Int) < blocks := by
  have h1 := h.disk
  have h2 := h.cache
  unfold homeA at *
  omega
theorem bits_calls (h : CSt w0 d g n jb cb mb at_ most blocks mem writes left M w) (hl : left ≠ 0) {ab ma fr k : Nat} (hm : MpAt ab cb ma fr k w) (hf : Fits n blocks ma fr k) (i : Nat) (hi : i < k) :
    Calls Tryz.prog 163 #[ptr ab, .int .i64 i] w fun e w' => ∃ b, e = .returned (.tuple #[.slice (some ⟨b, 0, none⟩) 128 128, .nilIface]) /\ Lie w' b (nowM mem M (homeA ma i)) /\ w.heap.size <= b /\ Below w.heap.size w w' := by
  have hk2 := hf.k2
  have hma := hf.low
  obtain ⟨hn1, hn2⟩ := hf.home hi
  have c0 := hm.c0
  have hab := hm.lt
  have kH := hidden (fun (wx : World) (hx : Below w.heap.size w wx) => home_calls i ma ab (by omega) (by omega) wx (hm.below hx).c1)
  have kR := hidden (fun (wx : World) (hx : Below w.heap.size w wx) => read_calls (h.more hx) hl (homeA ma i) hn1 hn2)
  have kc := hidden (fun (wx : World) (hx : Below w.heap.size w wx) => (hm.below hx).c0)
  have hBd := hidden (below_drew1 w)
  clear h hm hf hn1 hn2
  unfold homeA at kR ⊢
  go_enter Tryz.func163, Tryz.ntmps163
  go_wp2_with fail
  go_region_with (first
    | (go_at_call 209; refine (kH.out _ hBd.out).mono ?_; rintro ev w2 ⟨rfl, rfl⟩)
    | (go_at_call 187; refine (kR.out _ hBd.out).mono ?_; rintro ev w3 ⟨b, rfl, hL, hb, hB⟩))
  all_goals (go_wp2; go_ret2; exact ⟨_, rfl, hL, Nat.le_trans hBd.out.size hb, hBd.out.trans (hB.mono hBd.out.size)⟩)
end
end Go.Proofs.YtpofmiecjkghgaaGreatDoor
