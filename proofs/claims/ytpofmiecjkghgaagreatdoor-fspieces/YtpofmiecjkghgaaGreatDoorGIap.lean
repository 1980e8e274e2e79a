/- Lists of numbers of one's own. -/
import Derived.Test.YtpofmiecjkghgaaGreatDoorGJop
import Derived.Lib.SlKeysI
import Derived.Deep.RegionHeld
import Derived.Laws.AppendOwnNone
import Derived.Test.YtpofmiecjkghgaaGreatDoorGAsp
import Derived.WalkKit
import Derived.WalkSpells
import Derived.ProofKit
import Derived.OpenShut
import Derived.RowKitTokens
import Derived.Deep.LoopGhost
import Derived.Deep.RegionWith
import Derived.Deep.Matrix
import Derived.Test.YtpofmiecjkghgaaGreatDoorGCap
import Derived.Deep.QuietTactic
import Derived.BigQuiet
import Derived.Laws.ResultCell
namespace Go.Proofs.YtpofmiecjkghgaaGreatDoor
open Go.RowKit Go.Extern.Stop Go.Stop Go.Extern Go.Maps Go.Sort Go.Shelf
set_option maxRecDepth 100000
set_option maxHeartbeats 2000000
structure Kept (base : Nat) (w : World) (v : Value) (ks : List Int) : Prop where
  row : w.ownsRow base 3 1 v ks.length (ks.map encZ)
theorem Kept.nil (base : Nat) (w : World) : Kept base w (.slice none 0 0) [] := ⟨World.ownsRow_nil w base _ _⟩
theorem Kept.keep {base : Nat} {w w' : World} {v : Value} {ks : List Int} {bs : List Nat} (h : Kept base w v ks) (ha : Apart bs w w') (hb : ∀ k ∈ bs, k < base) : Kept base w' v ks := by
  refine ⟨h.row.1, ?_⟩
  rcases h.row.2 with h0 | ⟨g, cap, cur, hv, h1, hh, rest⟩
  · exact Or.inl h0
  · have hlt : g < w.heap.size := by
      rcases Nat.lt_or_ge g w.heap.size with h | h
      · exact h
      · rw [Array.getElem?_eq_none h] at hh; cases hh
    exact Or.inr ⟨g, cap, cur, hv, h1, (ha.block g hlt (fun hm => absurd (hb g hm) (by omega))).trans hh, rest⟩
theorem Kept.below {base : Nat} {w w' : World} {v : Value} {ks : List Int} (h : Kept base w v ks) (hb : Below w.heap.size w w') : Kept base w' v ks := h.keep (Apart.of_below (bs := []) hb) (by simp)
theorem Kept.form {base : Nat} {w : World} {v : Value} {ks : List Int} (h : Kept base w v ks) : ∃ a cap, v = .slice a ks.length cap /\ (ks ≠ [] -> ∃ b, a = some ⟨b, 0, none⟩ /\ base <= b /\ b < w.heap.size /\ ∀ k, k < ks.length -> w.cell? ⟨b, k, none⟩ = some (.int .i64 (ks.getD k 0))) := by
  rcases h.row.2 with ⟨rfl, h0⟩ | ⟨g', cap', cur, rfl, h1, hh, h2, h3, h4, h5⟩
  · exact ⟨none, 0, by rw [h0], fun e => absurd (List.length_eq_zero_iff.1 h0) e⟩
  · refine ⟨_, cap', rfl, fun _ => ⟨g', rfl, h1, ?_, fun k hk => ?_⟩⟩
    · rcases Nat.lt_or_ge g' w.heap.size with h | h
      · exact h
      · rw [Array.getElem?_eq_none h] at hh; cases hh
    · have hc := h.row.cellAt k (by omega)
      rw [hc]
      simp [List.getD, hk, encZ]
theorem Tryz.infoInt : (Tryz.prog.info? 3).map (fun i => (i.zero, i.size, i.bytes)) = some (some (.int .i64 0), 1, 8) := by kernel_rfl
theorem Kept.mono {base base' : Nat} {w : World} {v : Value} {ks : List Int} (h : Kept base w v ks) (hb : base' <= base) : Kept base' w v ks := ⟨⟨h.row.1, by
  rcases h.row.2 with h2 | ⟨g', cap', cur, hv, h1, rest⟩
  · exact .inl h2
  · exact .inr ⟨g', cap', cur, hv, Nat.le_trans hb h1, rest⟩⟩⟩
theorem kept_append {base : Nat} {w : World} {v : Value} {ks : List Int} (h : Kept base w v ks) (a : Addr) (m c : Nat) (ys : List Int) (hm : ys.length = m) (hc : ∀ j, j < m -> w.cell? (a.add j) = some (.int .i64 (ys.getD j 0))) (hn : ks.length + m <= 1000) (hbase : base <= w.heap.size) (ty : TypeId) :
    ∃ v' w', (Builtin.append_ #[58, 58] ty #[v, .slice (some a) m c]).run Tryz.prog w = .ok v' w' /\ Kept base w' v' (ks ++ ys) /\ Below base w w' /\ ∀ b, b < w.heap.size -> some b ≠ v.ownBlock -> w'.heap[b]? = w.heap[b]? := by
  obtain ⟨i0, hi, hz0, hz1, hz2⟩ := info_parts3 Tryz.infoInt
  obtain ⟨v', w', hrun, hown, hgrow, -⟩ := run_append_own (P := Tryz.prog) w base 58 ty 3 i0 (.int .i64 0) 1 8 Tryz.underlying58 hi hz0 hz1 hz2 (by simp [Value.cells]) (by decide)
    v ks.length _ h.row a m c (ys.map encZ) (by simp [hm]) (fun j u hu => by
      have hj : j < m := by
        rcases Nat.lt_or_ge j m with h | h
        · exact h
        · rw [List.getElem?_eq_none (by simp [hm]; omega)] at hu; cases hu
      rw [hc j hj, <- hu]
      simp [List.getD, hm, hj, encZ]) (by intro u hu; obtain ⟨z, _, rfl⟩ := List.mem_map.1 hu; rfl) (by unfold maxLen; omega) (by omega) hbase
  refine ⟨v', w', hrun, ⟨?_⟩, (Below.refl base w).grown hgrow hbase (fun k hk => (h.row.lt k hk).1), hgrow.block⟩
  rw [List.length_append, List.map_append, hm]
  exact hown
theorem any_append {P : Program} {ops : Array Oper} {o : Oper} {a : Act} {w : World} {K : Act -> World -> Prop} {Q : Exit -> Act -> World -> Prop} {s x : Operand} {t : TypeId} (hg : Region.wanted o (yielded ops a.tmps) = true)
    (ho : o.op = .call { callee := .builtin .append, args := #[s, x], argTypes := #[t, t] }) (v xv v' : Value) (w' : World) (hs : a.eval s = v) (hx : a.eval x = xv)
    (hr : (Builtin.append_ #[t, t] o.type #[v, xv]).run P w = .ok v' w') (h : K (a.put o.dst v') w') : if Region.wanted o (yielded ops a.tmps) = true then Oper.wp P o a w K Q else K (a.put o.dst undef) w := by
  rw [if_pos hg]
  unfold Oper.wp execOp
  simp only [ho, resolve, invoke, builtin, Sem.run_bind, Sem.run_pure, Result.andThen_ok, List.map_toArray, List.map_cons, List.map_nil, hs, hx, hr]
  exact h
end Go.Proofs.YtpofmiecjkghgaaGreatDoor
namespace Go.Proofs.YtpofmiecjkghgaaGreatDoor
open Go.RowKit
set_option maxRecDepth 100000
set_option maxHeartbeats 2000000
theorem begun_calls (n : Int) (h0 : 0 <= n) (h1 : n <= 1000000) (w : World) :
    Calls Tryz.prog 198 #[.int .i64 n, .int .i64 128] w fun e w' => e = .returned (.int .i64 ((n + 127) / 128)) /\ w' = w := by
  have e1 : (n + 127).tdiv 128 = (n + 127) / 128 := Int.tdiv_eq_ediv_of_nonneg (by omega)
  have hr : 0 <= (n + 127) / 128 /\ (n + 127) / 128 <= 1000000 := by omega
  have e2 : n + 128 - 1 = n + 127 := by omega
  generalize (n + 127) / 128 = q at e1 hr ⊢
  go_enter Tryz.func198, Tryz.ntmps198
  go_wp2
  go_ret
  exact ⟨rfl, rfl⟩
theorem begun2_calls (n : Int) (h0 : 0 <= n) (h1 : n <= 1000000) (w : World) :
    Calls Tryz.prog 198 #[.int .i64 n, .int .i64 1024] w fun e w' => e = .returned (.int .i64 ((n + 1023) / 1024)) /\ w' = w := by
  have e1 : (n + 1023).tdiv 1024 = (n + 1023) / 1024 := Int.tdiv_eq_ediv_of_nonneg (by omega)
  have hr : 0 <= (n + 1023) / 1024 /\ (n + 1023) / 1024 <= 1000000 := by omega
  have e2 : n + 1024 - 1 = n + 1023 := by omega
  generalize (n + 1023) / 1024 = q at e1 hr ⊢
  go_enter Tryz.func198, Tryz.ntmps198
  go_wp2
  go_ret
  exact ⟨rfl, rfl⟩
def blk (s : Int) : Int := if s <= 0 then 0 else if s <= 1024 then (s + 127) / 128 else if s <= 4000 then (s + 127) / 128 + 1 else 33
theorem blk_range (s : Int) : 0 <= blk s /\ blk s <= 33 := by unfold blk; split <;> (try split) <;> (try split) <;> omega
theorem blocks_calls (s : Int) (w : World) :
    Calls Tryz.prog 168 #[.int .i64 s] w fun e w' => e = .returned (.int .i64 (blk s)) /\ w' = w := by
  by_cases h1 : s > 4000
  · have hE : blk s = 33 := by unfold blk; rw [if_neg (by omega), if_neg (by omega), if_neg (by omega)]
    rw [hE]
    clear hE
    go_enter Tryz.func168, Tryz.ntmps168
    go_wp2_with fail
    refine (begun_calls 4000 (by omega) (by omega) _).mono ?_
    rintro ev w1 ⟨rfl, rfl⟩
    go_wp2
    go_ret
    exact ⟨rfl, rfl⟩
  · by_cases h2 : s > 1024
    · have hE : blk s = (s + 127) / 128 + 1 := by unfold blk; rw [if_neg (by omega), if_neg (by omega), if_pos (by omega)]
      have hr : 0 <= (s + 127) / 128 /\ (s + 127) / 128 <= 33 := by omega
      have hb := hidden (fun w => begun_calls s (by omega) (by omega) w)
      rw [hE]
      clear hE
      generalize (s + 127) / 128 = q at hr hb ⊢
      have e1 : Hid (1 + q = q + 1) := hidden (by omega)
      go_enter Tryz.func168, Tryz.ntmps168
      go_wp2_with fail
      refine (hb.out _).mono ?_
      rintro ev w1 ⟨rfl, rfl⟩
      go_wp2
      go_ret
      exact ⟨by rw [e1.out]; rfl, rfl⟩
    · by_cases h3 : s > 0
      · have hE : blk s = (s + 127) / 128 := by unfold blk; rw [if_neg (by omega), if_pos (by omega)]
        have hr : 0 <= (s + 127) / 128 /\ (s + 127) / 128 <= 33 := by omega
        have hb := hidden (fun w => begun_calls s (by omega) (by omega) w)
        rw [hE]
        clear hE
        generalize (s + 127) / 128 = q at hr hb ⊢
        go_enter Tryz.func168, Tryz.ntmps168
        go_wp2_with fail
        refine (hb.out _).mono ?_
        rintro ev w1 ⟨rfl, rfl⟩
        go_wp2
        go_ret
        exact ⟨by simp, rfl⟩
      · have hE : blk s = 0 := by unfold blk; rw [if_pos (by omega)]
        rw [hE]
        clear hE
        go_enter Tryz.func168, Tryz.ntmps168
        go_wp2
        go_ret
        exact ⟨rfl, rfl⟩
def growb (a b : Int) : Int := max 0 (blk b - blk a)
theorem growb_range (a b : Int) : 0 <= growb a b /\ growb a b <= 33 := by have := blk_range a; have := blk_range b; unfold growb; omega
theorem grow_calls (a b : Int) (w : World) :
    Calls Tryz.prog 120 #[.int .i64 a, .int .i64 b] w fun e w' => e = .returned (.int .i64 (growb a b)) /\ w' = w := by
  unfold growb
  have ha := blk_range a
  have hb := blk_range b
  have ca := hidden (blocks_calls a)
  have cb := hidden (blocks_calls b)
  generalize blk a = x at ha ca ⊢
  generalize blk b = y at hb cb ⊢
  by_cases h1 : y <= x
  · have h2 : max 0 (y - x) = 0 := by omega
    have h3 : max 0 (y - x) = 0 := by omega
    rw [h2]
    go_enter Tryz.func120, Tryz.ntmps120
    go_wp2_with fail
    refine (cb.out _).mono ?_
    rintro ev w1 ⟨rfl, rfl⟩
    go_wp2_with fail
    refine (ca.out _).mono ?_
    rintro ev w1 ⟨rfl, rfl⟩
    go_wp2
    all_goals (go_ret; exact ⟨rfl, rfl⟩)
  · have h2 : max 0 (y - x) = y - x := by omega
    have h3 : max 0 (y - x) = y - x := by omega
    rw [h2]
    go_enter Tryz.func120, Tryz.ntmps120
    go_wp2_with fail
    refine (cb.out _).mono ?_
    rintro ev w1 ⟨rfl, rfl⟩
    go_wp2_with fail
    refine (ca.out _).mono ?_
    rintro ev w1 ⟨rfl, rfl⟩
    go_wp2
    all_goals (go_ret; exact ⟨rfl, rfl⟩)
end Go.Proofs.YtpofmiecjkghgaaGreatDoor
namespace Go.Proofs.YtpofmiecjkghgaaGreatDoor
open Go.RowKit Go.Extern.Stop Go.Stop Go.Extern Go.Maps Go.Sort Go.Shelf
set_option maxRecDepth 100000
set_option maxHeartbeats 2000000
def numL (z : Int) : List Int := [z / 16777216 % 256, z / 65536 % 256, z / 256 % 256, z % 256]
def numsL (ks : List Int) : List Int := ks.flatMap numL
def zeros (n : Nat) : List Int := List.replicate n 0
theorem numL_len (z : Int) : (numL z).length = 4 := rfl
theorem numL_range (z : Int) : ∀ x ∈ numL z, 0 <= x /\ x <= 255 := by
  intro x hx
  simp [numL] at hx
  omega
theorem numsL_len : ∀ ks : List Int, (numsL ks).length = 4 * ks.length
  | [] => rfl
  | k :: r => by
    have := numsL_len r
    unfold numsL at *
    simp [List.flatMap_cons, this, numL_len]
    omega
theorem numsL_range (ks : List Int) : ∀ x ∈ numsL ks, 0 <= x /\ x <= 255 := by
  intro x hx
  obtain ⟨k, _, h⟩ := List.mem_flatMap.1 hx
  exact numL_range k x h
theorem numsL_append (a b : List Int) : numsL (a ++ b) = numsL a ++ numsL b := by simp [numsL]
theorem numsL_cons (k : Int) (r : List Int) : numsL (k :: r) = numL k ++ numsL r := by simp [numsL]
theorem zeros_len (n : Nat) : (zeros n).length = n := by simp [zeros]
theorem zeros_range (n : Nat) : ∀ x ∈ zeros n, 0 <= x /\ x <= 255 := by
  intro x hx
  have := List.eq_of_mem_replicate hx
  omega
def recL (kind size : Nat) (ks : List Int) : List Int := [(kind : Int), (size / 256 : Nat), (size % 256 : Nat)] ++ (numsL (ks.take 9) ++ zeros (125 - 4 * (ks.take 9).length))
def restL (ks : List Int) : List Int := numsL (ks.drop 9) ++ zeros (128 - 4 * (ks.drop 9).length)
theorem recL_row {kind size : Nat} (hk : kind <= 255) (hs : size < 65536) (ks : List Int) : Row (recL kind size ks) := by
  constructor
  · have : (ks.take 9).length <= 9 := by simp; omega
    unfold recL
    simp only [List.length_append, numsL_len, zeros_len, List.length_cons, List.length_nil]
    omega
  · intro z hz
    unfold recL at hz
    rcases List.mem_append.1 hz with h | h
    · simp at h
      omega
    · rcases List.mem_append.1 h with h | h
      · exact numsL_range _ z h
      · exact zeros_range _ z h
theorem restL_row {ks : List Int} (h : ks.length <= 41) : Row (restL ks) := by
  constructor
  · unfold restL
    simp only [List.length_append, numsL_len, zeros_len, List.length_drop]
    omega
  · intro z hz
    rcases List.mem_append.1 hz with h | h
    · exact numsL_range _ z h
    · exact zeros_range _ z h
theorem layL_nil (zs : List Int) (off : Nat) : layL zs off [] = zs := by simp [layL]
theorem layL_set (zs ys : List Int) (off : Nat) (x : Int) (h : off + ys.length < zs.length) : (layL zs off ys).set (off + ys.length) x = layL zs off (ys ++ [x]) := by
  apply List.ext_getElem?
  intro i
  unfold layL
  rw [List.getElem?_set]
  have hl : (zs.take off ++ ys ++ zs.drop (off + ys.length)).length = zs.length := by simp; omega
  by_cases hi : off + ys.length = i
  · subst hi
    rw [if_pos rfl, if_pos (by rw [hl]; exact h)]
    rw [List.getElem?_append_left (by simp; omega), List.getElem?_append_right (by simp; omega)]
    simp
    rw [show off + ys.length - min off zs.length = ys.length by omega]
    simp
  · rw [if_neg hi]
    rcases Nat.lt_or_ge i (off + ys.length) with hlt | hge
    · rw [<- List.append_assoc, List.getElem?_append_left (l₁ := zs.take off ++ ys) (by simp; omega), List.getElem?_append_left (l₁ := zs.take off ++ ys ++ [x]) (by simp; omega), List.getElem?_append_left (l₁ := zs.take off ++ ys) (by simp; omega)]
    · rw [List.getElem?_append_right (by simp; omega), List.getElem?_append_right (by simp; omega)]
      simp only [List.getElem?_drop, List.length_append, List.length_take, List.length_cons, List.length_nil]
      congr 1
      omega
def IntsAt (w : World) (v : Value) (ks : List Int) : Prop :=
  ∃ a cap, v = .slice a ks.length cap /\ ks.length <= cap /\ cap <= maxLen /\ (a = none -> cap = 0) /\ (ks ≠ [] -> ∃ b off, a = some ⟨b, off, none⟩ /\ b < w.heap.size /\ ∀ k, k < ks.length -> w.cell? ⟨b, off + k, none⟩ = some (.int .i64 (ks.getD k 0)))
theorem IntsAt.keep {w w' : World} {v : Value} {ks : List Int} (h : IntsAt w v ks) (hb : ∀ p : Addr, p.block < w.heap.size -> (∃ z, w.cell? p = some (.int .i64 z)) -> w'.cell? p = w.cell? p) (hs : w.heap.size <= w'.heap.size) : IntsAt w' v ks := by
  obtain ⟨a, cap, hv, h1, h2, h0, hc⟩ := h
  refine ⟨a, cap, hv, h1, h2, h0, fun hne => ?_⟩
  obtain ⟨b, off, ha, hlt, hk⟩ := hc hne
  exact ⟨b, off, ha, by omega, fun k hlk => (hb ⟨b, off + k, none⟩ hlt ⟨_, hk k hlk⟩).trans (hk k hlk)⟩
theorem IntsAt.below {w w' : World} {v : Value} {ks : List Int} (h : IntsAt w v ks) (hb : Below w.heap.size w w') : IntsAt w' v ks := h.keep (fun _ hp _ => hb.cell hp) hb.size
theorem Kept.ints {base : Nat} {w : World} {v : Value} {ks : List Int} (h : Kept base w v ks) : IntsAt w v ks := by
  obtain ⟨a, cap, hv, hc⟩ := h.form
  rcases h.row.2 with ⟨hv', h0⟩ | ⟨g', cap', cur, hv', h1, hh, h2, h3, h4⟩
  · rw [hv] at hv'
    obtain ⟨rfl, -, rfl⟩ := Value.slice.inj hv'
    refine ⟨none, 0, hv, by omega, by decide, fun _ => rfl, fun hne => ?_⟩
    obtain ⟨b, hb, -⟩ := hc hne
    cases hb
  · rw [hv] at hv'
    obtain ⟨rfl, -, rfl⟩ := Value.slice.inj hv'
    refine ⟨_, _, hv, h2, h3, fun e => (by cases e), fun hne => ?_⟩
    obtain ⟨b, hb, -, hlt, hk⟩ := hc hne
    exact ⟨b, 0, hb, hlt, fun k hlk => by rw [Nat.zero_add]; exact hk k hlk⟩
theorem or_low (x z : Int) (hx : 0 <= x /\ x < 8388608) (hz : 0 <= z /\ z <= 255) : bits .or .i64 (x * 256) z = x * 256 + z := by
  obtain ⟨X, rfl⟩ := Int.eq_ofNat_of_zero_le hx.1
  obtain ⟨Z, rfl⟩ := Int.eq_ofNat_of_zero_le hz.1
  have h2 : bits .or .i64 ((X : Int) * 256) (Z : Int) = IntKind.i64.wrap (((BitVec.ofInt 64 ((X : Int) * 256) ||| BitVec.ofInt 64 (Z : Int)).toNat : Nat) : Int) := rfl
  have e1 : (BitVec.ofInt 64 ((X : Int) * 256)).toNat = X * 256 := by rw [BitVec.toNat_ofInt]; omega
  have e2 : (BitVec.ofInt 64 (Z : Int)).toNat = Z := by rw [BitVec.toNat_ofInt]; omega
  have h3 : (BitVec.ofInt 64 ((X : Int) * 256) ||| BitVec.ofInt 64 (Z : Int)).toNat = X * 256 + Z := by
    rw [BitVec.toNat_or, e1, e2, show X * 256 = X <<< 8 by rw [Nat.shiftLeft_eq], <- Nat.shiftLeft_add_eq_or_of_lt (by omega)]
  rw [h2, h3]
  simp only [IntKind.wrap, IntKind.bits, IntKind.signed]
  simp
  omega
theorem iput_calls {W w : World} {base b cap : Nat} {zs : List Int} (h : OwnB base w b 128 cap zs) (off : Nat) {v : Value} {ks : List Int} (hv : IntsAt W v ks) (hW : Below W.heap.size W w) (hb : W.heap.size <= b) (hoff : off + 4 * ks.length <= 128) (hks : ∀ z ∈ ks, 0 <= z /\ z < 2147483648) (n cap' : Nat) (hn : n = 128 - off) :
    Calls Tryz.prog 217 #[.slice (some ⟨b, off, none⟩) n cap', v] w fun e w' => e = .returned (.tuple #[]) /\ OwnB base w' b 128 cap (layL zs off (numsL ks)) /\ Apart [b] w w' := by
  obtain ⟨a, lc, rfl, -, -, -, hc⟩ := hv
  have hcell := hidden (fun (wr : World) (ha : Apart [b] w wr) (k : Nat) (hk : k < ks.length) => show ∃ lb lo, a = some ⟨lb, lo, none⟩ /\ wr.cell? ⟨lb, lo + k, none⟩ = some (.int .i64 (ks.getD k 0)) from by
    obtain ⟨lb, lo, h1, h2, h3⟩ := hc (by intro e; rw [e] at hk; simp at hk)
    refine ⟨lb, lo, h1, ?_⟩
    rw [ha.cell (p := ⟨lb, lo + k, none⟩) (Nat.lt_of_lt_of_le h2 hW.size) (by simp; omega), hW.cell (p := ⟨lb, lo + k, none⟩) h2, h3 k hk])
  have hlen := h.len
  replace h := hidden h
  replace hks := hidden hks
  have hone : Hid (∀ j, j < ks.length -> numsL (ks.take (j + 1)) = numsL (ks.take j) ++ numL (ks.getD j 0)) := hidden (fun j hj => by
    rw [List.take_add_one, numsL_append, List.getElem?_eq_getElem hj]
    simp [numsL, List.getD, hj])
  have hnl := hidden (fun j (hj : j <= ks.length) => show (numsL (ks.take j)).length = 4 * j by rw [numsL_len, List.length_take]; omega)
  have hfull : Hid (ks.take ks.length = ks) := hidden (List.take_length)
  clear hc hW hb
  generalize hL : ks.length = L at *
  replace hL := hidden hL
  go_enter Tryz.func217, Tryz.ntmps217
  go_wp2_with fail
  go_loopg [9] (L + 1) (fun gk q wr => ∃ j : Nat, j <= L /\ gk = L + 1 - j /\ q = .int .i64 j /\ Hid (OwnB base wr b 128 cap (layL zs off (numsL (ks.take j))) /\ Apart [b] w wr))
  case atStart => exact ⟨0, by omega, rfl, rfl, hidden ⟨by simpa [numsL, layL_nil] using h.out, Apart.refl _ _⟩⟩
  case round =>
    obtain ⟨j, hj, hgk, rfl, hI⟩ := hrel
    replace hgk := hidden hgk
    by_cases hlt : j < L
    · obtain ⟨lb, lo, rfl, hcj⟩ := hcell.out _ hI.out.2 j hlt
      have hx := hks.out (ks.getD j 0) (by rw [List.getD_eq_getElem?_getD, List.getElem?_eq_getElem (by rw [hL.out]; exact hlt)]; exact List.getElem_mem _)
      have hon := hidden (hone.out j hlt)
      have hnj := hidden (hnl.out j (by omega))
      generalize ks.getD j 0 = x at hcj hx hon
      generalize numsL (ks.take j) = pre at hI hon hnj
      clear hone hnl hcell hks
      go_wp2_with fail
      go_loopg [14] 5 (fun gk q wr => ∃ k : Nat, k <= 4 /\ gk = 5 - k /\ q = .int .i64 k /\ Hid (OwnB base wr b 128 cap (layL zs off (pre ++ (numL x).take k)) /\ Apart [b] w wr))
      case atStart => exact ⟨0, by omega, rfl, rfl, hidden ⟨by simpa using hI.out.1, hI.out.2⟩⟩
      case round =>
        obtain ⟨k, hk, hgk2, rfl, hI2⟩ := hrel
        replace hgk2 := hidden hgk2
        by_cases hlt2 : k < 4
        · have hcl := hI2.out.1.cell (off + (j * 4 + k)) (by omega)
          have hfz := hI2.out.1.row.frozenAt (off + (j * 4 + k))
          have hJ : ((j : Int) * 4 + (k : Int)).toNat = j * 4 + k := by omega
          have hJ0 : ((j : Int) * 4).toNat = j * 4 := by omega
          have hE := hidden (fun (y : Int) (hy : (numL x).take (k + 1) = (numL x).take k ++ [y]) (hr : 0 <= y /\ y <= 255) => show OwnB base _ b 128 cap (layL zs off (pre ++ (numL x).take (k + 1))) /\ Apart [b] w _ from
            And.intro (by
              have := hI2.out.1.stored (off + (j * 4 + k)) y hr
              have hpl : (pre ++ (numL x).take k).length = j * 4 + k := by rw [List.length_append, hnj.out, List.length_take, numL_len]; omega
              rw [show off + (j * 4 + k) = off + (pre ++ (numL x).take k).length by rw [hpl], layL_set _ _ _ _ (by rw [hpl, hlen]; omega), List.append_assoc, <- hy, hpl] at this
              exact this) (hI2.out.2.setCell (p := ⟨b, off + (j * 4 + k), none⟩) (by simp) (.int .u8 y)))
          clear hI hI2
          obtain rfl | rfl | rfl | rfl : k = 0 \/ k = 1 \/ k = 2 \/ k = 3 := by omega
          · simp only [Nat.add_zero] at hcl hfz
            have hy := hidden (show 0 <= x / 16777216 /\ x / 16777216 <= 255 by omega)
            go_wp2
            go_roundg (5 - (0 + 1))
            case measure => rw [hgk2.out]; omega
            case rel => exact ⟨1, by omega, rfl, by go_num, hidden (hE.out _ (by simp [numL]; omega) hy.out)⟩
          · go_wp2
            go_roundg (5 - (1 + 1))
            case measure => rw [hgk2.out]; omega
            case rel => exact ⟨2, by omega, rfl, by go_num, hidden (hE.out _ rfl (by omega))⟩
          · go_wp2
            go_roundg (5 - (2 + 1))
            case measure => rw [hgk2.out]; omega
            case rel => exact ⟨3, by omega, rfl, by go_num, hidden (hE.out _ rfl (by omega))⟩
          · go_wp2
            go_roundg (5 - (3 + 1))
            case measure => rw [hgk2.out]; omega
            case rel => exact ⟨4, by omega, rfl, by go_num, hidden (hE.out _ rfl (by omega))⟩
        · obtain rfl : k = 4 := by omega
          have hE := hidden hI2.out
          go_wp2
          go_roundg (L + 1 - (j + 1))
          case measure => rw [hgk.out]; omega
          case rel => exact ⟨j + 1, by omega, rfl, by go_num, hidden ⟨by rw [hon.out]; exact hE.out.1, hE.out.2⟩⟩
    · obtain rfl : j = L := by omega
      go_wp2
      go_end0
      rw [hfull.out] at hI
      exact ⟨rfl, hI.out⟩
theorem nought1_calls (w : World) : Calls Tryz.prog 269 #[.int .u8 0] w fun e w' => e = .returned (.bool false) /\ w' = w := by
  go_enter Tryz.func269, Tryz.ntmps269
  go_wp2
  go_ret
  exact ⟨rfl, rfl⟩
theorem idxf_calls (n : Nat) (hn : n <= 1000000) (w : World) (a : Option Addr) (cap : Nat) (hc : ∀ k, k < n -> ∃ b off, a = some ⟨b, off, none⟩ /\ w.cell? ⟨b, off + k, none⟩ = some (.int .u8 0)) :
    Calls Tryz.prog 309 #[.slice a n cap, .func (.func 269) #[] #[]] w fun e w' => e = .returned (.int .i64 (-1)) /\ w' = w := by
  have hent := enters_of Tryz.func269 (by kernel_rfl) rfl
  have hN := hidden (nought1_calls w)
  replace hc := hidden hc
  go_enter Tryz.func309, Tryz.ntmps309
  go_wp2_with fail
  go_loopg [8] (n + 1) (fun gk q wr => ∃ j : Nat, j <= n /\ gk = n + 1 - j /\ q = .int .i64 j /\ wr = w)
  case atStart => exact ⟨0, by omega, rfl, rfl, rfl⟩
  case round =>
    obtain ⟨j, hj, hgk, rfl, rfl⟩ := hrel
    replace hgk := hidden hgk
    by_cases hlt : j < n
    · obtain ⟨b, off, rfl, hcl⟩ := hc.out j hlt
      go_wp2_with fail
      refine (hN.out).mono ?_
      rintro ev w1 ⟨rfl, rfl⟩
      go_wp2
      go_roundg (n + 1 - (j + 1))
      case measure => rw [hgk.out]; omega
      case rel => exact ⟨j + 1, by omega, rfl, by go_num, rfl⟩
    · obtain rfl : j = n := by omega
      go_wp2
      go_ret
      exact ⟨rfl, rfl⟩
theorem noughts_calls (n : Nat) (hn : n <= 1000000) (w : World) (a : Option Addr) (cap : Nat) (hc : ∀ k, k < n -> ∃ b off, a = some ⟨b, off, none⟩ /\ w.cell? ⟨b, off + k, none⟩ = some (.int .u8 0)) :
    Calls Tryz.prog 221 #[.slice a n cap] w fun e w' => e = .returned (.bool true) /\ w' = w := by
  have hI := hidden (idxf_calls n hn w a cap hc)
  clear hc
  go_enter Tryz.func221, Tryz.ntmps221
  go_wp2_with fail
  refine Calls.mono (R := fun e w' => e = .returned (.bool false) /\ w' = w) ?_ ?_
  · go_enter Tryz.func268, Tryz.ntmps268
    go_wp2_with fail
    refine (hI.out).mono ?_
    rintro ev w1 ⟨rfl, rfl⟩
    go_wp2
    go_ret
    exact ⟨rfl, rfl⟩
  rintro ev w1 ⟨rfl, rfl⟩
  go_wp2
  go_ret
  exact ⟨rfl, rfl⟩
theorem numbers_calls {w : World} (rb off n cap : Nat) (ks : List Int) (hcell : ∀ k, k < 4 * ks.length -> w.cell? ⟨rb, off + k, none⟩ = some (.int .u8 ((numsL ks).getD k 0))) (hks : ∀ z ∈ ks, 0 <= z /\ z < 2147483648) (hn : 4 * ks.length <= n) (hc4 : 4 * ks.length < cap) (hcm : cap <= 1000) (hlt : rb < w.heap.size) (m : Int) (hm1 : m = ks.length) :
    Calls Tryz.prog 220 #[.slice (some ⟨rb, off, none⟩) n cap, .int .i64 m] w fun e w' => ∃ v, e = .returned (.tuple #[v, .slice (some ⟨rb, off + 4 * ks.length, none⟩) (n - 4 * ks.length) (cap - 4 * ks.length)]) /\ Kept w.heap.size w' v ks /\ Below w.heap.size w w' := by
  subst hm1
  have hone : Hid (∀ j, j < ks.length -> ks.take (j + 1) = ks.take j ++ [ks.getD j 0]) := hidden (fun j hj => by
    rw [List.take_add_one, List.getElem?_eq_getElem hj]
    simp [List.getD, hj])
  have hbyte : Hid (∀ j, j < ks.length -> ∀ i, i < 4 -> (numsL ks).getD (4 * j + i) 0 = (numL (ks.getD j 0)).getD i 0) := hidden (fun j hj i hi => by
    have e : ks = ks.take j ++ (ks.getD j 0 :: ks.drop (j + 1)) := by
      rw [List.getD_eq_getElem?_getD, List.getElem?_eq_getElem hj]
      simp
    have hl : (numsL (ks.take j)).length = 4 * j := by rw [numsL_len, List.length_take]; omega
    conv => lhs; rw [e]
    rw [numsL_append, numsL_cons, List.getD_eq_getElem?_getD, List.getElem?_append_right (by rw [hl]; omega), hl, List.getElem?_append_left (by rw [numL_len]; omega), <- List.getD_eq_getElem?_getD]
    congr 1
    omega)
  have hmem : Hid (∀ j, j < ks.length -> 0 <= ks.getD j 0 /\ ks.getD j 0 < 2147483648) := hidden (fun j hj => hks _ (by rw [List.getD_eq_getElem?_getD, List.getElem?_eq_getElem hj]; exact List.getElem_mem _))
  replace hcell := hidden hcell
  have hfull : Hid (ks.take ks.length = ks) := hidden (List.take_length)
  have htl : Hid (∀ j, j <= ks.length -> (ks.take j).length = j) := hidden (fun j hj => by rw [List.length_take]; omega)
  clear hks
  generalize hL : ks.length = L at *
  replace hL := hidden hL
  go_enter Tryz.func220, Tryz.ntmps220
  go_wp2_with fail
  go_loopg [0, 4, 10] (L + 1) (fun gk bv lv q wr => ∃ j : Nat, j <= L /\ gk = L + 1 - j /\ q = .int .i64 j /\ bv = .slice (some ⟨rb, off + 4 * j, none⟩) (n - 4 * j) (cap - 4 * j) /\ Hid (Kept w.heap.size wr lv (ks.take j) /\ Below w.heap.size w wr))
  case atStart => exact ⟨0, by omega, rfl, rfl, rfl, hidden ⟨Kept.nil _ _, Below.refl _ _⟩⟩
  case round =>
    obtain ⟨j, hj, hgk, rfl, rfl, hI⟩ := hrel
    replace hgk := hidden hgk
    by_cases hlt' : j < L
    · have hx := hmem.out j hlt'
      have hon := hidden (hone.out j hlt')
      have htj := hidden (htl.out j (by omega))
      have hb4 := hidden (fun (wr : World) (hB : Below w.heap.size w wr) i (hi : i < 4) => show wr.cell? ⟨rb, off + 4 * j + i, none⟩ = some (.int .u8 ((numL (ks.getD j 0)).getD i 0)) from (hB.cell (p := ⟨rb, off + 4 * j + i, none⟩) hlt).trans (((congrArg (fun q => w.cell? ⟨rb, q, none⟩) (Nat.add_assoc off (4 * j) i)).trans (hcell.out (4 * j + i) (by omega))).trans (by rw [hbyte.out j hlt' i hi])))
      generalize ks.getD j 0 = x at hx hon hb4
      generalize ks.take j = pre at hI hon htj
      obtain ⟨av, cv, rfl, -⟩ := hI.out.1.form
      rw [htj.out] at hI ⊢
      clear hone hbyte hmem hcell htl
      go_wp2_with fail
      go_loopg [6, 8, 15] 5 (fun gk nv _ q wr => ∃ k : Nat, k <= 4 /\ gk = 5 - k /\ q = .int .i64 k /\ nv = .int .i64 (x / 256 ^ (4 - k)) /\ Hid (Kept w.heap.size wr (.slice av j cv) pre /\ Below w.heap.size w wr))
      case atStart => exact ⟨0, by omega, rfl, rfl, by congr 1; omega, hI⟩
      case round =>
        obtain ⟨k, hk, hgk2, rfl, rfl, hI2⟩ := hrel
        replace hgk2 := hidden hgk2
        clear hI
        by_cases hlt2 : k < 4
        · have hc := hb4.out _ hI2.out.2 k hlt2
          clear hb4
          obtain rfl | rfl | rfl | rfl : k = 0 \/ k = 1 \/ k = 2 \/ k = 3 := by omega
          · have o : bits .or .i64 0 (x / 16777216 % 256) = x / 16777216 % 256 := by simpa using or_low 0 (x / 16777216 % 256) (by omega) (by omega)
            have e0 : x / 256 ^ (4 - 0) = 0 := by omega
            simp only [numL, List.getD_cons_zero, Nat.add_zero] at hc
            rw [e0]
            go_wp2
            go_roundg (5 - (0 + 1))
            case measure => rw [hgk2.out]; omega
            case rel => exact ⟨1, by omega, rfl, by go_num, by congr 1; omega, hI2⟩
          · have o := or_low (x / 16777216) (x / 65536 % 256) (by omega) (by omega)
            have e0 : x / 256 ^ (4 - 1) = x / 16777216 := rfl
            have e1 : x / 256 ^ (4 - 2) = x / 16777216 * 256 + x / 65536 % 256 := by omega
            have e2 : 0 <= x / 16777216 /\ x / 16777216 < 8388608 := by omega
            simp only [numL, List.getD_cons_zero, List.getD_cons_succ] at hc
            rw [e0]
            replace e1 := hidden e1
            go_wp2
            go_roundg (5 - (1 + 1))
            case measure => rw [hgk2.out]; omega
            case rel => exact ⟨2, by omega, rfl, by go_num, by rw [e1.out], hI2⟩
          · have o := or_low (x / 65536) (x / 256 % 256) (by omega) (by omega)
            have e0 : x / 256 ^ (4 - 2) = x / 65536 := rfl
            have e1 : x / 256 ^ (4 - 3) = x / 65536 * 256 + x / 256 % 256 := by omega
            have e2 : 0 <= x / 65536 /\ x / 65536 < 8388608 := by omega
            simp only [numL, List.getD_cons_zero, List.getD_cons_succ] at hc
            rw [e0]
            replace e1 := hidden e1
            go_wp2
            go_roundg (5 - (2 + 1))
            case measure => rw [hgk2.out]; omega
            case rel => exact ⟨3, by omega, rfl, by go_num, by rw [e1.out], hI2⟩
          · have o := or_low (x / 256) (x % 256) (by omega) (by omega)
            have e0 : x / 256 ^ (4 - 3) = x / 256 := rfl
            have e1 : x / 256 ^ (4 - 4) = x / 256 * 256 + x % 256 := by omega
            have e2 : 0 <= x / 256 /\ x / 256 < 8388608 := by omega
            simp only [numL, List.getD_cons_zero, List.getD_cons_succ] at hc
            rw [e0]
            replace e1 := hidden e1
            go_wp2
            go_roundg (5 - (3 + 1))
            case measure => rw [hgk2.out]; omega
            case rel => exact ⟨4, by omega, rfl, by go_num, by rw [e1.out], hI2⟩
        · obtain rfl : k = 4 := by omega
          have e4 : x / 256 ^ (4 - 4) = x := by simp
          rw [e4]
          obtain ⟨hK, hB⟩ := hI2.out
          have hBA : Below wr.heap.size wr (wr.alloc (.cells #[.int .i64 x] 3)) := (Below.refl _ _).alloc (Nat.le_refl _) _
          have hs := hB.size
          obtain ⟨v4, w4, hrun, hk4, hB4, -⟩ := kept_append (hK.below hBA) ⟨wr.heap.size, 0, none⟩ 1 1 [x] rfl (fun i hi => by
            obtain rfl : i = 0 := by omega
            simp [Addr.add]) (by rw [htj.out]; omega) (Nat.le_trans hs hBA.size) 58
          have hE := hidden (And.intro hk4 ((hB.trans (hBA.mono hs)).trans hB4))
          replace hrun := hidden hrun
          clear hk4 hB4 hBA hK hB hI2 hb4
          go_wp2_with (at_builtin; refine wpList_append_eq _ _ 58 rfl _ _ v4 w4 rfl rfl hrun.out rfl ?_)
          go_roundg (L + 1 - (j + 1))
          case measure => rw [hgk.out]; omega
          case rel => exact ⟨j + 1, by omega, rfl, by go_num, by simp only [Value.slice.injEq, Option.some.injEq, Addr.mk.injEq]; exact ⟨⟨trivial, by omega, trivial⟩, by omega, by omega⟩, hidden ⟨by rw [hon.out]; exact hE.out.1, hE.out.2⟩⟩
    · obtain rfl : j = L := by omega
      rw [hfull.out] at hI
      obtain ⟨av, cv, rfl, -⟩ := hI.out.1.form
      generalize ks.length = K at hI hL
      go_wp2
      go_ret2
      exact ⟨_, rfl, hI.out⟩
abbrev nodeV (kind size : Int) (v : Value) : Value := .agg #[.int .i64 kind, .int .i64 size, v]
theorem zeros_drop (n k : Nat) : (zeros n).drop k = zeros (n - k) := by simp [zeros]
theorem lay_rec (kind a b : Int) (ks : List Int) : layL ([kind, a, b] ++ zeros 125) 3 (numsL ks) = [kind, a, b] ++ (numsL ks ++ zeros (125 - 4 * ks.length)) := by
  unfold layL
  rw [numsL_len]
  have e2 : ([kind, a, b] ++ zeros 125).drop (3 + 4 * ks.length) = zeros (125 - 4 * ks.length) := by
    rw [show 3 + 4 * ks.length = ([kind, a, b] : List Int).length + 4 * ks.length from rfl, List.drop_length_add_append, zeros_drop]
  rw [e2, show (3 : Nat) = ([kind, a, b] : List Int).length from rfl, List.take_left, List.append_assoc]
theorem lay_rest (ks : List Int) : layL (zeros 128) 0 (numsL ks) = numsL ks ++ zeros (128 - 4 * ks.length) := by
  unfold layL
  rw [numsL_len, zeros_drop]
  simp
theorem IntsAt.take {w : World} {a : Option Addr} {L cap : Nat} {ks : List Int} (h : IntsAt w (.slice a L cap) ks) (m : Nat) (hm : m <= ks.length) : IntsAt w (.slice a m cap) (ks.take m) := by
  obtain ⟨a', cap', hv, h1, h2, h0, hc⟩ := h
  obtain ⟨rfl, rfl, rfl⟩ := Value.slice.inj hv
  have hl : (ks.take m).length = m := by rw [List.length_take]; omega
  refine ⟨a, cap, by rw [hl], by omega, h2, h0, fun hne => ?_⟩
  obtain ⟨b, off, ha, hlt, hk⟩ := hc (by intro e; rw [e] at hne; simp at hne)
  refine ⟨b, off, ha, hlt, fun k hkk => ?_⟩
  rw [hl] at hkk
  rw [hk k (by omega)]
  simp [List.getD, hkk]
theorem ownB_lit (w : World) (base : Nat) (hb : base <= w.heap.size) (N : Nat) (hN : N <= 1000000) (cs : Array Value) (zs : List Int) (hcs : cs.toList = zs.map (Value.int .u8)) (hl : zs.length = N) (hz : ∀ z ∈ zs, 0 <= z /\ z <= 255) : OwnB base (w.alloc (.cells cs 5)) w.heap.size N N zs := by
  have hs : cs.size = N := by rw [<- Array.length_toList, hcs, List.length_map, hl]
  have h := World.ownsRow_lit (base := base) (e := 5) (size := 1) w cs N hb (by unfold maxLen; omega) (by simp [hs])
  refine ⟨?_, hl, hz⟩
  rw [<- hcs]
  exact h
theorem iwritten_calls {w : World} (kind size : Nat) (hk : kind <= 255) (hs : size < 65536) {v : Value} {ks : List Int} (hv : IntsAt w v ks) (hks : ∀ z ∈ ks, 0 <= z /\ z < 2147483648) :
    Calls Tryz.prog 172 #[nodeV kind size v] w fun e w' => ∃ b, e = .returned (.slice (some ⟨b, 0, none⟩) 128 128) /\ OwnB w.heap.size w' b 128 128 (recL kind size ks) /\ Below w.heap.size w w' := by
  have hv0 := hidden hv
  obtain ⟨a, cap, rfl, h1, h2, h0, -⟩ := hv
  have hmk := fun w : World => make_block w
  have hrec : Hid (∀ ks' : List Int, ks' = ks.take 9 -> [(kind : Int), (size : Int) / 256, (size : Int) % 256] ++ (numsL ks' ++ zeros (125 - 4 * ks'.length)) = recL kind size ks) := hidden (fun ks' e => by subst e; unfold recL; rw [show ((size / 256 : Nat) : Int) = (size : Int) / 256 by omega, show ((size % 256 : Nat) : Int) = (size : Int) % 256 by omega])
  generalize recL kind size ks = R at hrec ⊢
  have hK : 0 <= (kind : Int) /\ (kind : Int) <= 255 := by omega
  have hS : 0 <= (size : Int) /\ (size : Int) < 65536 := by omega
  generalize (kind : Int) = K at hK hrec ⊢
  generalize (size : Int) = S at hS hrec ⊢
  clear hk hs
  obtain ⟨hK0, hK1⟩ := hK
  obtain ⟨hS0, hS1⟩ := hS
  replace hks := hidden hks
  replace h0 := hidden h0
  have hBa : Below w.heap.size w (w.alloc (.cells #[.int .i64 K, .int .i64 S, .slice a ks.length cap] 151)) := (Below.refl _ _).alloc (Nat.le_refl _) _
  have ca0 : (w.alloc (.cells #[.int .i64 K, .int .i64 S, .slice a ks.length cap] 151)).cell? ⟨w.heap.size, 0, none⟩ = some (.int .i64 K) := by simp
  have ca1 : (w.alloc (.cells #[.int .i64 K, .int .i64 S, .slice a ks.length cap] 151)).cell? ⟨w.heap.size, 1, none⟩ = some (.int .i64 S) := by simp
  have ca2 : (w.alloc (.cells #[.int .i64 K, .int .i64 S, .slice a ks.length cap] 151)).cell? ⟨w.heap.size, 2, none⟩ = some (.slice a ks.length cap) := by simp
  have hsz : (w.alloc (.cells #[.int .i64 K, .int .i64 S, .slice a ks.length cap] 151)).heap.size = w.heap.size + 1 := by simp
  go_enter Tryz.func172, Tryz.ntmps172
  go_upto_region 2 with fail
  generalize w.alloc (.cells #[.int .i64 K, .int .i64 S, .slice a ks.length cap] 151) = wa at *
  have hO1 := hidden ((ownB_lit wa w.heap.size (by omega) 128 (by omega) ((((Array.replicate 128 (Value.int IntKind.u8 0)).setIfInBounds 0 (Value.int IntKind.u8 K)).setIfInBounds 1 (Value.int IntKind.u8 (S / 256))).setIfInBounds 2 (Value.int IntKind.u8 (S % 256))) ([K, S / 256, S % 256] ++ zeros 125) (by rfl) rfl (by
    intro z hz
    rcases List.mem_append.1 hz with h | h
    · simp at h; omega
    · exact zeros_range _ z h)).below (below_drew1 _))
  have hA1 := hidden ((((Apart.refl [wa.heap.size] wa).alloc (.cells ((((Array.replicate 128 (Value.int IntKind.u8 0)).setIfInBounds 0 (Value.int IntKind.u8 K)).setIfInBounds 1 (Value.int IntKind.u8 (S / 256))).setIfInBounds 2 (Value.int IntKind.u8 (S % 256))) 5)).drew))
  go_cut [3] (fun c wx => c = .slice (some ⟨w.heap.size + 1, 0, none⟩) 128 128 /\ OwnB w.heap.size wx wa.heap.size 128 128 ([K, S / 256, S % 256] ++ zeros 125) /\ Apart [wa.heap.size] wa wx)
  case first =>
    go_region
    go_wp2
    go_meet
    case rel =>
      exact ⟨rfl, hO1.out, hA1.out⟩
  case rest =>
    rename World => wx
    obtain ⟨rfl, hO, hA⟩ := hcut
    have hw2 := hA.cell (p := ⟨w.heap.size, 2, none⟩) (by show w.heap.size < _; omega) (by simp; omega)
    rw [ca2] at hw2
    have hsx := hA.size
    have hW := hidden ((hBa.trans (hA.below (B := w.heap.size) (by simp; omega) (by omega))))
    rw [hsz] at hO hA hsx
    replace hO := hidden hO
    clear hO1 hA1 ca0 ca1 ca2 hBa hA
    have hput := hidden (fun (m n c : Nat) (hm : m = min ks.length 9) (hn : n = 125) (wy : World) (hy : Below wx.heap.size wx wy) => iput_calls (hO.out.below hy) 3 ((hv0.out.take m (by omega))) (hW.out.trans (hy.mono hW.out.size)) (by omega) (by rw [List.length_take]; omega) (fun z hz => hks.out z (List.mem_of_mem_take hz)) n c (by omega))
    have hfin := hidden (fun (m : Nat) (hm : m = min ks.length 9) (zs : List Int) (hz : zs = layL ([K, S / 256, S % 256] ++ zeros 125) 3 (numsL (ks.take m))) => show zs = R from by
      rw [hz, lay_rec]
      refine hrec.out _ ?_
      rw [hm]
      rcases Nat.le_total ks.length 9 with h | h
      · rw [Nat.min_eq_left h, List.take_length, List.take_of_length_le h]
      · rw [Nat.min_eq_right h])
    have hBd := hidden (below_drew1 wx)
    clear hrec hks hv0 hO
    generalize ks.length = L at *
    have hdone := hidden (fun (m : Nat) (hm : m = min L 9) (w' : World) (h1 : OwnB w.heap.size w' (w.heap.size + 1) 128 128 (layL ([K, S / 256, S % 256] ++ zeros 125) 3 (numsL (List.take m ks)))) (h2 : Apart [w.heap.size + 1] wx.drew w') => show OwnB w.heap.size w' (w.heap.size + 1) 128 128 R /\ Below w.heap.size w w' from
      ⟨by rw [<- hfin.out m hm _ rfl]; exact h1, (hW.out.trans (hBd.out.mono hW.out.size)).trans (h2.below (by simp) (by have := hBd.out.size; have := hW.out.size; omega))⟩)
    clear hfin hW
    go_upto_region 3 with fail
    go_region_with (go_at_call 217; refine (hput.out (min (L : Int) 9).toNat 125 125 (by omega) rfl _ hBd.out).mono ?_; rintro ev w4 ⟨rfl, h41, h42⟩; have hE := hidden (hdone.out _ (by omega) _ h41 h42); clear h41 h42)
    all_goals (go_wp2; go_ret; exact ⟨_, rfl, hE.out⟩)
theorem irest_calls {w : World} (kind size : Int) {v : Value} {ks : List Int} (hv : IntsAt w v ks) (hl : 9 < ks.length) (hl2 : ks.length <= 41) (hks : ∀ z ∈ ks, 0 <= z /\ z < 2147483648) :
    Calls Tryz.prog 270 #[nodeV kind size v] w fun e w' => ∃ b, e = .returned (.slice (some ⟨b, 0, none⟩) 128 128) /\ OwnB w.heap.size w' b 128 128 (restL ks) /\ Below w.heap.size w w' := by
  have hdr : ∀ a cap, v = .slice a ks.length cap -> ∀ a', (∃ b off, a = some ⟨b, off, none⟩ /\ a' = some ⟨b, off + 9, none⟩) -> IntsAt w (.slice a' (ks.length - 9) (cap - 9)) (ks.drop 9) := by
    rintro a cap rfl a' ⟨b, off, rfl, rfl⟩
    obtain ⟨a2, cap2, hv2, h1, h2, h0, hc⟩ := hv
    obtain ⟨rfl, -, rfl⟩ := Value.slice.inj hv2
    obtain ⟨b', off', ha, hlt, hk⟩ := hc (by intro e; rw [e] at hl; simp at hl)
    simp only [Option.some.injEq, Addr.mk.injEq] at ha
    obtain ⟨rfl, rfl, -⟩ := ha
    refine ⟨_, _, by rw [List.length_drop], by rw [List.length_drop]; omega, by omega, fun e => (by cases e), fun _ => ⟨b, off + 9, rfl, hlt, fun k hk' => ?_⟩⟩
    rw [List.length_drop] at hk'
    rw [Nat.add_assoc, hk (9 + k) (by omega)]
    simp [List.getD]
  obtain ⟨a, cap, rfl, h1, h2, h0, hc⟩ := hv
  obtain ⟨b, off, rfl, hlt, -⟩ := hc (by intro e; rw [e] at hl; simp at hl)
  replace hdr := hidden (hdr _ cap rfl _ ⟨b, off, rfl, rfl⟩)
  have hmk := fun w : World => make_block w
  have hR : Hid (layL (zeros 128) 0 (numsL (ks.drop 9)) = restL ks) := hidden (lay_rest _)
  have hO := hidden (fun wz : World => ownB_zero wz wz.heap.size (Nat.le_refl _) 128 (by omega))
  replace hks := hidden hks
  clear hc h0
  have hput := hidden (fun (wx wy : World) (hB : Below w.heap.size w wx) (hy : wy = wx.alloc (.cells (Array.replicate 128 (.int .u8 0)) 5)) (k : Nat) (hk : k = wx.heap.size) => show Calls Tryz.prog 217 #[.slice (some ⟨k, 0, none⟩) 128 128, .slice (some ⟨b, off + 9, none⟩) (ks.length - 9) (cap - 9)] wy fun e w' => e = .returned (.tuple #[]) /\ OwnB w.heap.size w' k 128 128 (restL ks) /\ Below w.heap.size w w' from by
    subst hy
    subst hk
    have hB2 := hB.trans (((Below.refl wx.heap.size wx).alloc (Nat.le_refl _) (.cells (Array.replicate 128 (.int .u8 0)) 5)).mono hB.size)
    refine (iput_calls ((hO.out wx).mono hB.size) 0 hdr.out hB2 hB.size (by rw [List.length_drop]; omega) (fun z hz => hks.out z (List.mem_of_mem_drop hz)) 128 128 rfl).mono ?_
    rintro e w' ⟨rfl, hO', hA'⟩
    refine ⟨rfl, ?_, hB2.trans (hA'.below (by simpa using hB.size) (by simp; exact Nat.le_trans hB.size (Nat.le_succ _)))⟩
    rw [<- hR.out]
    exact hO')
  generalize restL ks = R at *
  generalize ks.length = L at *
  clear hR hO hks hdr
  have hBa := hidden (fun (o : Obj) => (Below.refl w.heap.size w).alloc (Nat.le_refl _) o)
  go_enter Tryz.func270, Tryz.ntmps270
  go_wp2_with fail
  refine (hput.out _ _ (hBa.out _) rfl _ (by simp)).mono ?_
  rintro ev w4 ⟨rfl, h41, h42⟩
  have hE := hidden (And.intro h41 h42)
  clear h41 h42 hput
  go_wp2
  go_ret
  exact ⟨_, rfl, hE.out⟩
structure NdAt (w : World) (b : Nat) (k s : Int) (v : Value) : Prop where
  c0 : w.cell? ⟨b, 0, none⟩ = some (.int .i64 k)
  c1 : w.cell? ⟨b, 1, none⟩ = some (.int .i64 s)
  c2 : w.cell? ⟨b, 2, none⟩ = some v
theorem load_node {w : World} {b : Nat} {k s : Int} {v : Value} (h : NdAt w b k s v) : (loadVar 151 ⟨b, 0, none⟩).run Tryz.prog w = .ok (nodeV k s v) w := by
  have c0 := h.c0
  have c1 := h.c1
  have c2 := h.c2
  clear h
  go_simp
theorem nd_stored {w : World} {b : Nat} {k s k' s' : Int} {v v' : Value} (h : NdAt w b k s v) : NdAt (((w.setCell ⟨b, 0, none⟩ (.int .i64 k')).setCell ⟨b, 1, none⟩ (.int .i64 s')).setCell ⟨b, 2, none⟩ v') b k' s' v' := by
  have h0 := h.c0
  have h1 := h.c1
  have h2 := h.c2
  have e1 : (w.setCell ⟨b, 0, none⟩ (.int .i64 k')).cell? ⟨b, 1, none⟩ = some (.int .i64 s) := (World.cell?_setCell_other _ _ _ _ (by simp)).trans h1
  have e2 : ((w.setCell ⟨b, 0, none⟩ (.int .i64 k')).setCell ⟨b, 1, none⟩ (.int .i64 s')).cell? ⟨b, 2, none⟩ = some v := (World.cell?_setCell_other _ _ _ _ (by simp)).trans ((World.cell?_setCell_other _ _ _ _ (by simp)).trans h2)
  exact ⟨(World.cell?_setCell_other _ _ _ _ (by simp)).trans ((World.cell?_setCell_other _ _ _ _ (by simp)).trans (World.cell?_setCell_same' _ _ _ (by rw [h0]; rfl))),
    (World.cell?_setCell_other _ _ _ _ (by simp)).trans (World.cell?_setCell_same' _ _ _ (by rw [e1]; rfl)), World.cell?_setCell_same' _ _ _ (by rw [e2]; rfl)⟩
theorem nd_apart (w : World) (b : Nat) (x y z : Value) : Apart [b] w (((w.setCell ⟨b, 0, none⟩ x).setCell ⟨b, 1, none⟩ y).setCell ⟨b, 2, none⟩ z) := (((Apart.refl [b] w).setCell (p := ⟨b, 0, none⟩) (by simp) x).setCell (p := ⟨b, 1, none⟩) (by simp) y).setCell (p := ⟨b, 2, none⟩) (by simp) z
theorem NdAt.keep {w w' : World} {b : Nat} {k s : Int} {v : Value} {bs : List Nat} (h : NdAt w b k s v) (ha : Apart bs w w') (hn : b ∉ bs) : NdAt w' b k s v :=
  ⟨(ha.cell (p := ⟨b, 0, none⟩) (lt_of_cell (a := ⟨b, 0, none⟩) h.c0) hn).trans h.c0, (ha.cell (p := ⟨b, 1, none⟩) (lt_of_cell (a := ⟨b, 0, none⟩) h.c0) hn).trans h.c1, (ha.cell (p := ⟨b, 2, none⟩) (lt_of_cell (a := ⟨b, 0, none⟩) h.c0) hn).trans h.c2⟩
theorem NdAt.below {w w' : World} {b : Nat} {k s : Int} {v : Value} (h : NdAt w b k s v) (hb : Below w.heap.size w w') : NdAt w' b k s v := h.keep (Apart.of_below (bs := []) hb) (by simp)
theorem ret_node {fn : Func} {p u : Tmp} (h : fn.results = #[.cell p 151, .tmp u]) {tmps : Array Value} {w : World} {b : Nat} {k s : Int} {v : Value} (hp : tmps.getD p undef = ptr b) (hn : NdAt w b k s v) :
    (results fn tmps).run Tryz.prog w = .ok (.tuple #[nodeV k s v, tmps.getD u undef]) w := by
  rw [results_cell_tmp h, hp]
  simp [asAddr, Result.andThen, load_node hn]
theorem recL_get0 (kind size : Nat) (ks : List Int) : (recL kind size ks).getD 0 0 = kind /\ (recL kind size ks).getD 1 0 = (size : Int) / 256 /\ (recL kind size ks).getD 2 0 = (size : Int) % 256 := by
  refine ⟨rfl, ?_, ?_⟩
  · show ((size / 256 : Nat) : Int) = _
    omega
  · show ((size % 256 : Nat) : Int) = _
    omega
theorem recL_nums (kind size : Nat) (ks : List Int) (k : Nat) (hk : k < 4 * (ks.take 9).length) : (recL kind size ks).getD (3 + k) 0 = (numsL (ks.take 9)).getD k 0 := by
  unfold recL
  rw [List.getD_eq_getElem?_getD, List.getElem?_append_right (by simp), List.getElem?_append_left (by rw [numsL_len]; simp; exact (by simpa using hk)), <- List.getD_eq_getElem?_getD]
  congr 1
  simp
theorem recL_zero (kind size : Nat) (ks : List Int) (k : Nat) (hk : 4 * (ks.take 9).length <= k) : (recL kind size ks).getD (3 + k) 0 = 0 := by
  unfold recL
  rw [List.getD_eq_getElem?_getD, List.getElem?_append_right (by simp), List.getElem?_append_right (by rw [numsL_len]; simp; exact (by simpa using hk))]
  unfold zeros
  rw [List.getElem?_replicate]
  split <;> rfl
theorem parse_calls {w : World} {rb kind size : Nat} {ks : List Int} (hL : Lie w rb (recL kind size ks)) (hk : kind = 1 \/ kind = 2) (hs : size <= 4000) (hl : (ks.length : Int) = blk size) (hks : ∀ z ∈ ks, 0 <= z /\ z < 2147483648) :
    Calls Tryz.prog 211 #[.slice (some ⟨rb, 0, none⟩) 128 128] w fun e w' => ∃ v, e = .returned (.tuple #[nodeV kind size v, .bool true]) /\ Kept w.heap.size w' v (ks.take 9) /\ Below w.heap.size w w' := by
  have hlt := hL.lt
  obtain ⟨g0, g1, g2⟩ := recL_get0 kind size ks
  have c0 := hL.cell 0 (by decide)
  have c1 := hL.cell 1 (by decide)
  have c2 := hL.cell 2 (by decide)
  rw [g0] at c0
  rw [g1] at c1
  rw [g2] at c2
  clear g0 g1 g2
  have hor := or_low ((size : Int) / 256) ((size : Int) % 256) (by omega) (by omega)
  have hsum : (size : Int) / 256 * 256 + (size : Int) % 256 = size := by omega
  rw [hsum] at hor
  have hs0 : 0 <= (size : Int) /\ (size : Int) <= 4000 := by omega
  have hlen : (((ks.take 9).length : Nat) : Int) = min (blk size) 9 := by rw [List.length_take]; omega
  have hm9 : (ks.take 9).length <= 9 := by simp; omega
  have hNum := hidden (fun (wx : World) (hx : Below w.heap.size w wx) (m : Int) (hm : m = ((ks.take 9).length : Nat)) => numbers_calls (w := wx) rb 3 125 125 (ks.take 9) (fun k hk => by
    rw [hx.cell (p := ⟨rb, 3 + k, none⟩) hlt, hL.cell (3 + k) (by omega), recL_nums kind size ks k hk]) (fun z hz => hks z (List.mem_of_mem_take hz)) (by omega) (by omega) (by omega) (Nat.lt_of_lt_of_le hlt hx.size) m hm)
  have hNo := hidden (fun (wx : World) (hx : Below w.heap.size w wx) (m : Nat) (hm : m = (ks.take 9).length) (o n c : Nat) (ho : o = 3 + 4 * m) (hn : n = 125 - 4 * m) => noughts_calls n (by omega) wx (some ⟨rb, o, none⟩) c (fun k hk => ⟨rb, o, rfl, by
    subst hm ho hn
    rw [Nat.add_assoc, hx.cell (p := ⟨rb, 3 + (4 * (ks.take 9).length + k), none⟩) hlt, hL.cell _ (by omega), recL_zero kind size ks _ (by omega)]⟩))
  have hBlk := hidden (fun (wx : World) => blocks_calls (size : Int) wx)
  generalize hml : (ks.take 9).length = m at *
  generalize ks.take 9 = l at *
  replace hml := hidden hml
  have hs0 : 0 <= (size : Int) /\ (size : Int) <= 4000 := by omega
  have hbr := blk_range (size : Int)
  generalize blk (size : Int) = B at *
  replace hsum := hidden hsum
  replace hlen := hidden hlen
  clear hL hl hks
  generalize (size : Int) = S at *
  obtain ⟨hS0, hS1⟩ := hs0
  obtain ⟨K, hK, hK12⟩ : ∃ K : Int, (kind : Int) = K /\ (K = 1 \/ K = 2) := ⟨_, rfl, by omega⟩
  rw [hK] at c0 ⊢
  clear hK hk hs
  rcases hK12 with rfl | rfl
  · obtain ⟨wq, hwq, hn0, hf0, hr0, hf1, hBq, hsz⟩ : ∃ wq, ((w.alloc (Obj.cells #[Value.int IntKind.i64 0, Value.int IntKind.i64 0, Value.slice none 0 0] 151)).alloc (Obj.cells #[Value.int IntKind.i64 1, Value.int IntKind.i64 S, Value.slice none 0 0] 151)).drew.drew = wq /\ NdAt wq (w.heap.size + 1) 1 S (.slice none 0 0) /\ (∀ j, wq.frozen? ⟨w.heap.size + 1, j, none⟩ = false) /\ NdAt wq w.heap.size 0 0 (.slice none 0 0) /\ (∀ j, wq.frozen? ⟨w.heap.size, j, none⟩ = false) /\ Below w.heap.size w wq /\ wq.heap.size = w.heap.size + 2 :=
      ⟨_, rfl, ⟨by simp, by simp, by simp⟩, by simp, ⟨by simp, by simp, by simp⟩, by simp, (((Below.refl w.heap.size w).alloc (Nat.le_refl _) _).alloc (by simp) _).trans (below_drewN (Below.refl _ _) 2), by simp⟩
    have hBd := hidden (hBq.trans ((below_drew1 wq).mono hBq.size))
    have hBd2 := hidden (below_drew1 wq)
    have kN := hidden (fun (wx : World) (hx : Below wq.heap.size wq wx) => show (NdAt wx (w.heap.size + 1) 1 S (.slice none 0 0) /\ wx.frozen? ⟨w.heap.size + 1, 2, none⟩ = false) /\ NdAt wx w.heap.size 0 0 (.slice none 0 0) /\ (∀ j, wx.frozen? ⟨w.heap.size, j, none⟩ = false) from
      ⟨⟨⟨(hx.cell (p := ⟨w.heap.size + 1, 0, none⟩) (by simp; omega)).trans hn0.c0, (hx.cell (p := ⟨w.heap.size + 1, 1, none⟩) (by simp; omega)).trans hn0.c1, (hx.cell (p := ⟨w.heap.size + 1, 2, none⟩) (by simp; omega)).trans hn0.c2⟩, (hx.frozen (p := ⟨w.heap.size + 1, 2, none⟩) (by simp; omega)).trans (hf0 2)⟩,
        ⟨(hx.cell (p := ⟨w.heap.size, 0, none⟩) (by simp; omega)).trans hr0.c0, (hx.cell (p := ⟨w.heap.size, 1, none⟩) (by simp; omega)).trans hr0.c1, (hx.cell (p := ⟨w.heap.size, 2, none⟩) (by simp; omega)).trans hr0.c2⟩, fun j => (hx.frozen (p := ⟨w.heap.size, j, none⟩) (by simp; omega)).trans (hf1 j)⟩)
    have n1 := hn0.c1
    go_enter Tryz.func211, Tryz.ntmps211
    go_upto_region 1 with fail
    go_region
    go_upto_region 6 with fail
    go_region
    go_upto_region 9 with fail
    clear hwq hn0 hf0 hr0 hf1
    go_region_with (first
      | (go_at_call 168; refine (hBlk.out _).mono ?_; rintro ev w2 ⟨rfl, rfl⟩)
      | (go_at_call 220; refine (hNum.out _ hBd.out _ hlen.out.symm).mono ?_; rintro ev w3 ⟨v, rfl, hKp, hB3⟩; have hB3' := hBd2.out.trans (hB3.mono hBd2.out.size); obtain ⟨⟨hn3, hf3⟩, hr3, hfr3⟩ := kN.out _ hB3'; have c30 := hn3.c2; obtain ⟨av, cv, rfl, -⟩ := hKp.form; have hE := hidden (And.intro (hKp.mono (base' := wq.heap.size) hBd2.out.size) (And.intro hn3 (And.intro hr3 (And.intro hfr3 (hBd.out.trans (hB3.mono (Nat.le_trans hBq.size hBd2.out.size))))))); clear hn3 hr3 hfr3 hKp hB3 hB3'))
    obtain ⟨w5, hw5, hK5, hN5, hR5, hF5, hB5⟩ : ∃ w5, w3.setCell ⟨w.heap.size + 1, 2, none⟩ (.slice av l.length cv) = w5 /\ Kept wq.heap.size w5 (.slice av l.length cv) l /\ NdAt w5 (w.heap.size + 1) 1 S (.slice av l.length cv) /\ NdAt w5 w.heap.size 0 0 (.slice none 0 0) /\ (∀ j, w5.frozen? ⟨w.heap.size, j, none⟩ = false) /\ Below w.heap.size w w5 := by
      obtain ⟨e1, e2, e3, e4, e5⟩ := hE.out
      have hA : Apart [w.heap.size + 1] w3 (w3.setCell ⟨w.heap.size + 1, 2, none⟩ (.slice av l.length cv)) := (Apart.refl _ w3).setCell (p := ⟨w.heap.size + 1, 2, none⟩) (by simp) _
      have hl3 : w.heap.size + 1 < w3.heap.size := lt_of_cell (a := ⟨w.heap.size + 1, 0, none⟩) e2.c0
      refine ⟨_, rfl, e1.keep hA (by simp; omega), ⟨?_, ?_, ?_⟩, ⟨?_, ?_, ?_⟩, fun j => ?_, e5.setCell (by simp) _⟩
      · exact (World.cell?_setCell_other _ _ _ _ (by simp)).trans e2.c0
      · exact (World.cell?_setCell_other _ _ _ _ (by simp)).trans e2.c1
      · exact World.cell?_setCell_same' _ _ _ (by rw [e2.c2]; rfl)
      · exact (hA.cell (p := ⟨w.heap.size, 0, none⟩) (by simp; omega) (by simp)).trans e3.c0
      · exact (hA.cell (p := ⟨w.heap.size, 1, none⟩) (by simp; omega) (by simp)).trans e3.c1
      · exact (hA.cell (p := ⟨w.heap.size, 2, none⟩) (by simp; omega) (by simp)).trans e3.c2
      · exact (hA.frozen (p := ⟨w.heap.size, j, none⟩) (by simp; omega) (by simp)).trans (e4 j)
    rw [hw5]
    clear hw5 hE c30 hf3
    have n0 := hN5.c0
    have n1' := hN5.c1
    have n2 := hN5.c2
    have r0 := hR5.c0
    have r1 := hR5.c1
    have r2 := hR5.c2
    have f0 := hF5 0
    have f1 := hF5 1
    have f2 := hF5 2
    have hBd5 := hidden (hB5.trans ((below_drew1 w5).mono hB5.size))
    have hEnd := hidden (And.intro hK5 (And.intro hB5 (lt_of_cell (a := ⟨w.heap.size, 0, none⟩) r0)))
    clear hN5 hR5 hF5 hB5 hK5 hBd hBd2 kN hBq n1
    generalize l.length = LL at *
    go_upto_region 10 with fail
    go_region_with (go_at_call 221; refine (hNo.out _ hBd5.out m rfl _ _ _ rfl rfl).mono ?_; rintro ev w6 ⟨rfl, rfl⟩)
    all_goals
      go_wp2
      (try simp only [Exit.inBlock, Exit.then])
      refine bodyPost_ret (ret_node rfl rfl ((nd_stored ⟨r0, r1, r2⟩).below (below_drew1 _))) rfl ?_
      obtain ⟨e1, e2, e3⟩ := hEnd.out
      exact ⟨_, rfl, ((e1.keep (nd_apart _ w.heap.size _ _ _) (by simp; omega)).below (below_drew1 _)).mono (by omega), e2.trans ((nd_apart _ w.heap.size _ _ _).drew.below (by simp) (by omega))⟩
  · obtain ⟨wq, hwq, hn0, hf0, hr0, hf1, hBq, hsz⟩ : ∃ wq, ((w.alloc (Obj.cells #[Value.int IntKind.i64 0, Value.int IntKind.i64 0, Value.slice none 0 0] 151)).alloc (Obj.cells #[Value.int IntKind.i64 2, Value.int IntKind.i64 S, Value.slice none 0 0] 151)).drew.drew = wq /\ NdAt wq (w.heap.size + 1) 2 S (.slice none 0 0) /\ (∀ j, wq.frozen? ⟨w.heap.size + 1, j, none⟩ = false) /\ NdAt wq w.heap.size 0 0 (.slice none 0 0) /\ (∀ j, wq.frozen? ⟨w.heap.size, j, none⟩ = false) /\ Below w.heap.size w wq /\ wq.heap.size = w.heap.size + 2 :=
      ⟨_, rfl, ⟨by simp, by simp, by simp⟩, by simp, ⟨by simp, by simp, by simp⟩, by simp, (((Below.refl w.heap.size w).alloc (Nat.le_refl _) _).alloc (by simp) _).trans (below_drewN (Below.refl _ _) 2), by simp⟩
    have hBd := hidden (hBq.trans ((below_drew1 wq).mono hBq.size))
    have hBd2 := hidden (below_drew1 wq)
    have kN := hidden (fun (wx : World) (hx : Below wq.heap.size wq wx) => show (NdAt wx (w.heap.size + 1) 2 S (.slice none 0 0) /\ wx.frozen? ⟨w.heap.size + 1, 2, none⟩ = false) /\ NdAt wx w.heap.size 0 0 (.slice none 0 0) /\ (∀ j, wx.frozen? ⟨w.heap.size, j, none⟩ = false) from
      ⟨⟨⟨(hx.cell (p := ⟨w.heap.size + 1, 0, none⟩) (by simp; omega)).trans hn0.c0, (hx.cell (p := ⟨w.heap.size + 1, 1, none⟩) (by simp; omega)).trans hn0.c1, (hx.cell (p := ⟨w.heap.size + 1, 2, none⟩) (by simp; omega)).trans hn0.c2⟩, (hx.frozen (p := ⟨w.heap.size + 1, 2, none⟩) (by simp; omega)).trans (hf0 2)⟩,
        ⟨(hx.cell (p := ⟨w.heap.size, 0, none⟩) (by simp; omega)).trans hr0.c0, (hx.cell (p := ⟨w.heap.size, 1, none⟩) (by simp; omega)).trans hr0.c1, (hx.cell (p := ⟨w.heap.size, 2, none⟩) (by simp; omega)).trans hr0.c2⟩, fun j => (hx.frozen (p := ⟨w.heap.size, j, none⟩) (by simp; omega)).trans (hf1 j)⟩)
    have n1 := hn0.c1
    go_enter Tryz.func211, Tryz.ntmps211
    go_upto_region 1 with fail
    go_region
    go_upto_region 6 with fail
    go_region
    go_upto_region 9 with fail
    clear hwq hn0 hf0 hr0 hf1
    go_region_with (first
      | (go_at_call 168; refine (hBlk.out _).mono ?_; rintro ev w2 ⟨rfl, rfl⟩)
      | (go_at_call 220; refine (hNum.out _ hBd.out _ hlen.out.symm).mono ?_; rintro ev w3 ⟨v, rfl, hKp, hB3⟩; have hB3' := hBd2.out.trans (hB3.mono hBd2.out.size); obtain ⟨⟨hn3, hf3⟩, hr3, hfr3⟩ := kN.out _ hB3'; have c30 := hn3.c2; obtain ⟨av, cv, rfl, -⟩ := hKp.form; have hE := hidden (And.intro (hKp.mono (base' := wq.heap.size) hBd2.out.size) (And.intro hn3 (And.intro hr3 (And.intro hfr3 (hBd.out.trans (hB3.mono (Nat.le_trans hBq.size hBd2.out.size))))))); clear hn3 hr3 hfr3 hKp hB3 hB3'))
    obtain ⟨w5, hw5, hK5, hN5, hR5, hF5, hB5⟩ : ∃ w5, w3.setCell ⟨w.heap.size + 1, 2, none⟩ (.slice av l.length cv) = w5 /\ Kept wq.heap.size w5 (.slice av l.length cv) l /\ NdAt w5 (w.heap.size + 1) 2 S (.slice av l.length cv) /\ NdAt w5 w.heap.size 0 0 (.slice none 0 0) /\ (∀ j, w5.frozen? ⟨w.heap.size, j, none⟩ = false) /\ Below w.heap.size w w5 := by
      obtain ⟨e1, e2, e3, e4, e5⟩ := hE.out
      have hA : Apart [w.heap.size + 1] w3 (w3.setCell ⟨w.heap.size + 1, 2, none⟩ (.slice av l.length cv)) := (Apart.refl _ w3).setCell (p := ⟨w.heap.size + 1, 2, none⟩) (by simp) _
      have hl3 : w.heap.size + 1 < w3.heap.size := lt_of_cell (a := ⟨w.heap.size + 1, 0, none⟩) e2.c0
      refine ⟨_, rfl, e1.keep hA (by simp; omega), ⟨?_, ?_, ?_⟩, ⟨?_, ?_, ?_⟩, fun j => ?_, e5.setCell (by simp) _⟩
      · exact (World.cell?_setCell_other _ _ _ _ (by simp)).trans e2.c0
      · exact (World.cell?_setCell_other _ _ _ _ (by simp)).trans e2.c1
      · exact World.cell?_setCell_same' _ _ _ (by rw [e2.c2]; rfl)
      · exact (hA.cell (p := ⟨w.heap.size, 0, none⟩) (by simp; omega) (by simp)).trans e3.c0
      · exact (hA.cell (p := ⟨w.heap.size, 1, none⟩) (by simp; omega) (by simp)).trans e3.c1
      · exact (hA.cell (p := ⟨w.heap.size, 2, none⟩) (by simp; omega) (by simp)).trans e3.c2
      · exact (hA.frozen (p := ⟨w.heap.size, j, none⟩) (by simp; omega) (by simp)).trans (e4 j)
    rw [hw5]
    clear hw5 hE c30 hf3
    have n0 := hN5.c0
    have n1' := hN5.c1
    have n2 := hN5.c2
    have r0 := hR5.c0
    have r1 := hR5.c1
    have r2 := hR5.c2
    have f0 := hF5 0
    have f1 := hF5 1
    have f2 := hF5 2
    have hBd5 := hidden (hB5.trans ((below_drew1 w5).mono hB5.size))
    have hEnd := hidden (And.intro hK5 (And.intro hB5 (lt_of_cell (a := ⟨w.heap.size, 0, none⟩) r0)))
    clear hN5 hR5 hF5 hB5 hK5 hBd hBd2 kN hBq n1
    generalize l.length = LL at *
    go_upto_region 10 with fail
    go_region_with (go_at_call 221; refine (hNo.out _ hBd5.out m rfl _ _ _ rfl rfl).mono ?_; rintro ev w6 ⟨rfl, rfl⟩)
    all_goals
      go_wp2
      (try simp only [Exit.inBlock, Exit.then])
      refine bodyPost_ret (ret_node rfl rfl ((nd_stored ⟨r0, r1, r2⟩).below (below_drew1 _))) rfl ?_
      obtain ⟨e1, e2, e3⟩ := hEnd.out
      exact ⟨_, rfl, ((e1.keep (nd_apart _ w.heap.size _ _ _) (by simp; omega)).below (below_drew1 _)).mono (by omega), e2.trans ((nd_apart _ w.heap.size _ _ _).drew.below (by simp) (by omega))⟩
theorem parse_free {w : World} {rb : Nat} (hL : Lie w rb (zeros 128)) :
    Calls Tryz.prog 211 #[.slice (some ⟨rb, 0, none⟩) 128 128] w fun e w' => e = .returned (.tuple #[nodeV 0 0 (.slice none 0 0), .bool true]) /\ Below w.heap.size w w' := by
  have hlt := hL.lt
  have hz : ∀ k, (zeros 128).getD k 0 = 0 := fun k => by
    unfold zeros
    rw [List.getD_eq_getElem?_getD, List.getElem?_replicate]
    split <;> rfl
  have c0 := hL.cell 0 (by decide)
  rw [hz] at c0
  have hNo := hidden (fun (wx : World) (hx : Below w.heap.size w wx) => noughts_calls 127 (by omega) wx (some ⟨rb, 1, none⟩) 127 (fun k hk => ⟨rb, 1, rfl, by
    rw [hx.cell (p := ⟨rb, 1 + k, none⟩) hlt, hL.cell _ (by omega), hz]⟩))
  obtain ⟨wq, hwq, hn0, hr0, hf1, hBq, hsz⟩ : ∃ wq, ((w.alloc (Obj.cells #[Value.int IntKind.i64 0, Value.int IntKind.i64 0, Value.slice none 0 0] 151)).alloc (Obj.cells #[Value.int IntKind.i64 0, Value.int IntKind.i64 0, Value.slice none 0 0] 151)).drew = wq /\ NdAt wq (w.heap.size + 1) 0 0 (.slice none 0 0) /\ NdAt wq w.heap.size 0 0 (.slice none 0 0) /\ (∀ j, wq.frozen? ⟨w.heap.size, j, none⟩ = false) /\ Below w.heap.size w wq /\ wq.heap.size = w.heap.size + 2 :=
    ⟨_, rfl, ⟨by simp, by simp, by simp⟩, ⟨by simp, by simp, by simp⟩, by simp, (((Below.refl w.heap.size w).alloc (Nat.le_refl _) _).alloc (by simp) _).trans (below_drewN (Below.refl _ _) 1), by simp⟩
  have n0 := hn0.c0
  have n1 := hn0.c1
  have n2 := hn0.c2
  have r0 := hr0.c0
  have r1 := hr0.c1
  have r2 := hr0.c2
  have f0 := hf1 0
  have f1 := hf1 1
  have f2 := hf1 2
  have hBd := hidden (hBq.trans ((below_drew1 wq).mono hBq.size))
  have hEnd := hidden hBq
  have hsz' := hidden hsz
  replace hwq := hidden hwq
  clear hn0 hr0 hf1 hL hz hsz
  go_enter Tryz.func211, Tryz.ntmps211
  go_upto_region 1 with fail
  go_region
  rw [hwq.out]
  go_upto_region 10 with fail
  clear hwq hBq
  go_region_with (go_at_call 221; refine (hNo.out _ hBd.out).mono ?_; rintro ev w6 ⟨rfl, rfl⟩)
  all_goals
    go_wp2
    (try simp only [Exit.inBlock, Exit.then])
    refine bodyPost_ret (ret_node rfl rfl ((nd_stored ⟨r0, r1, r2⟩).below (below_drew1 _))) rfl ?_
    exact ⟨rfl, hEnd.out.trans ((nd_apart _ w.heap.size _ _ _).drew.below (by simp) (by rw [hsz'.out]; omega))⟩
end Go.Proofs.YtpofmiecjkghgaaGreatDoor
