/- The journal's small helpers: rows, room, Need, put, get, part. -/
import Derived.Test.YtpofmiecjkghgaaGreatDoorGJnp
import Derived.Laws.OwnMore
import Derived.Laws.AppendOwn
namespace Go.Proofs.YtpofmiecjkghgaaGreatDoor
open Go.RowKit Go.Extern.Stop Go.Stop Go.Extern
set_option maxRecDepth 100000
set_option maxHeartbeats 4000000
theorem rows_calls (n : Nat) (hn : n <= 1000000) (w : World) :
    Calls Tryz.prog 202 #[.int .i64 n] w fun e w' => e = .returned (.int .i64 (rowsN n : Nat)) /\ w' = w := by
  have h1 : (n : Int).tdiv 16 = ((n / 16 : Nat) : Int) := by rw [Int.tdiv_eq_ediv_of_nonneg (by omega)]; omega
  have h2 : (n : Int).tmod 16 = ((n % 16 : Nat) : Int) := by rw [Int.tmod_eq_emod_of_nonneg (by omega)]; omega
  have h3 : ((n / 16 : Nat) : Int) + min ((n % 16 : Nat) : Int) 1 = ((rowsN n : Nat) : Int) := by unfold rowsN; omega
  have h4 : n / 16 <= 1000000 := by omega
  have h5 : n % 16 < 16 := by omega
  generalize n / 16 = a at h1 h3 h4
  generalize n % 16 = b at h2 h3 h5
  generalize rowsN n = c at h3 ⊢
  replace h3 := hidden h3
  go_enter Tryz.func202, Tryz.ntmps202
  go_wp2
  go_ret
  refine ⟨?_, rfl⟩
  rw [<- h3.out]
  rfl
theorem rowsN_le (n : Nat) : rowsN n <= n := by unfold rowsN; omega
def needN (most : Nat) : Nat := most + rowsN most + 2
theorem need_calls (n : Nat) (h1 : 1 <= n) (hn : n <= 100000) (w : World) :
    Calls Tryz.prog 154 #[.int .i64 n] w fun e w' => e = .returned (.int .i64 (needN n : Nat)) /\ w' = w := by
  have hr := rowsN_le n
  have hR := hidden (rows_calls n (by omega) w)
  have hE : Hid ((n : Int) + ((rowsN n : Int) + 2) = ((needN n : Nat) : Int)) := hidden (by unfold needN; omega)
  generalize needN n = r at hE ⊢
  have hr' : (rowsN n : Int) <= 100000 /\ 0 <= (rowsN n : Int) := by omega
  have hmx : max (n : Int) 1 = n := by omega
  have hn' : (n : Int) <= 100000 /\ 1 <= (n : Int) := by omega
  generalize (rowsN n : Int) = c at hr' hR hE
  generalize (n : Int) = N at hn' hmx hR hE ⊢
  clear hr
  have hs : ¬ (9223372036854775807 - (c + 2) < N) := by omega
  go_enter Tryz.func154, Tryz.ntmps154
  go_wp2_with fail
  refine (hR.out).mono ?_
  rintro ev w1 ⟨rfl, rfl⟩
  go_wp2
  go_ret
  exact ⟨congrArg (fun x => Ending.returned (Value.int .i64 x)) hE.out, rfl⟩
structure OwnB (base : Nat) (w : World) (b n cap : Nat) (zs : List Int) : Prop where
  row : w.ownsRow base 5 1 (.slice (some ⟨b, 0, none⟩) n cap) n (zs.map (Value.int .u8))
  len : zs.length = n
  range : ∀ z ∈ zs, 0 <= z /\ z <= 255
theorem OwnB.cell {base : Nat} {w : World} {b n cap : Nat} {zs : List Int} (h : OwnB base w b n cap zs) (k : Nat) (hk : k < n) : w.cell? ⟨b, k, none⟩ = some (.int .u8 (zs.getD k 0)) := by
  rw [h.row.cellAt k (by omega), getD_map (by rw [h.len]; exact hk)]
theorem OwnB.lt {base : Nat} {w : World} {b n cap : Nat} {zs : List Int} (h : OwnB base w b n cap zs) : base <= b /\ b < w.heap.size := h.row.lt b rfl
theorem OwnB.caps {base : Nat} {w : World} {b n cap : Nat} {zs : List Int} (h : OwnB base w b n cap zs) : n <= cap /\ cap <= maxLen := by
  rcases h.row.2 with ⟨h', _⟩ | ⟨g', cap', cur, h', _, _, h1, h2, _⟩
  · simp at h'
  · simp only [Value.slice.injEq] at h'
    obtain ⟨_, _, rfl⟩ := h'
    exact ⟨h1, h2⟩
theorem OwnB.bytes {base : Nat} {w : World} {b n cap : Nat} {zs : List Int} (h : OwnB base w b n cap zs) : BytesAt w (.slice (some ⟨b, 0, none⟩) n cap) zs :=
  ⟨_, cap, by rw [h.len], h.range, by rw [h.len]; exact Nat.le_trans h.caps.1 h.caps.2, fun e => (by cases e), fun _ => ⟨b, 0, rfl, h.lt.2, fun k hk => by rw [Nat.zero_add]; exact h.cell k (by rw [<- h.len]; exact hk)⟩⟩
theorem OwnB.keep {base : Nat} {w w' : World} {b n cap : Nat} {zs : List Int} {bs : List Nat} (h : OwnB base w b n cap zs) (ha : Apart bs w w') (hn : b ∉ bs) : OwnB base w' b n cap zs := by
  refine ⟨?_, h.len, h.range⟩
  obtain ⟨h1, h2⟩ := h.row
  refine ⟨h1, ?_⟩
  rcases h2 with h2 | ⟨g', cap', cur, hv, hb, hh, rest⟩
  · exact .inl h2
  · have e : g' = b := by simp only [Value.slice.injEq, Option.some.injEq, Addr.mk.injEq] at hv; exact hv.1.1.symm
    subst e
    exact .inr ⟨g', cap', cur, hv, hb, (ha.block g' h.lt.2 hn).trans hh, rest⟩
theorem OwnB.below {base : Nat} {w w' : World} {b n cap : Nat} {zs : List Int} (h : OwnB base w b n cap zs) (hb : Below w.heap.size w w') : OwnB base w' b n cap zs := h.keep (Apart.of_below (bs := []) hb) (by simp)
theorem OwnB.mono {base base' : Nat} {w : World} {b n cap : Nat} {zs : List Int} (h : OwnB base w b n cap zs) (hb : base' <= base) : OwnB base' w b n cap zs := by
  refine ⟨⟨h.row.1, ?_⟩, h.len, h.range⟩
  rcases h.row.2 with h2 | ⟨g', cap', cur, hv, h1, rest⟩
  · exact .inl h2
  · exact .inr ⟨g', cap', cur, hv, Nat.le_trans hb h1, rest⟩
theorem map_set (zs : List Int) (j : Nat) (x : Int) : (zs.map (Value.int .u8)).set j (.int .u8 x) = (zs.set j x).map (Value.int .u8) := by rw [List.map_set]
theorem OwnB.stored {base : Nat} {w : World} {b n cap : Nat} {zs : List Int} (h : OwnB base w b n cap zs) (j : Nat) (x : Int) (hx : 0 <= x /\ x <= 255) : OwnB base (w.setCell ⟨b, j, none⟩ (.int .u8 x)) b n cap (zs.set j x) :=
  ⟨by rw [<- map_set]; exact (h.row.stored j (.int .u8 x)).1, by rw [List.length_set]; exact h.len, fun z hz => by
    rcases List.mem_or_eq_of_mem_set hz with h' | rfl
    · exact h.range z h'
    · exact hx⟩
theorem pow8 (k : Nat) : (2 : Int) ^ (8 * (k : Int)).toNat = 256 ^ k := by rw [show (8 * (k : Int)).toNat = 8 * k by omega, Int.pow_mul]; rfl
theorem byteK_range (n : Int) (k : Nat) : 0 <= byteK n k /\ byteK n k <= 255 := by unfold byteK; omega
theorem put_calls (base b m cap : Nat) (zs : List Int) (i : Nat) (n : Int) (w : World) (h : OwnB base w b m cap zs) (hi : 8 * i + 8 <= m) (hm : m <= 1000000) (h0 : 0 <= n) (h1 : n < 18446744073709551616) :
    Calls Tryz.prog 322 #[.slice (some ⟨b, 0, none⟩) m cap, .int .i64 i, .int .u64 n] w fun e w' => e = .returned (.tuple #[]) /\ OwnB base w' b m cap (putL zs i n) /\ Apart [b] w w' := by
  have hH := hidden h
  clear h
  go_enter Tryz.func322, Tryz.ntmps322
  go_wp2
  go_loopg [7] 8 (fun gk q wr => ∃ k : Nat, k <= 8 /\ gk = 8 - k /\ q = .int .i64 k /\ Hid (OwnB base wr b m cap (putK zs i n k) /\ Apart [b] w wr))
  case atStart => exact ⟨0, by omega, rfl, rfl, hidden ⟨hH.out, Apart.refl _ _⟩⟩
  case round =>
    obtain ⟨k, hk, hgk, rfl, hI⟩ := hrel
    replace hgk := hidden hgk
    by_cases hlt : k < 8
    · have hcell := hI.out.1.cell (8 * i + k) (by omega)
      have hfz := hI.out.1.row.frozenAt (8 * i + k)
      have hJ : ((i : Int) * 8 + (k : Int)).toNat = 8 * i + k := by omega
      have hp := pow8 k
      have hE := hidden (And.intro (hI.out.1.stored (8 * i + k) (byteK n k) (byteK_range n k)) (hI.out.2.setCell (p := ⟨b, 8 * i + k, none⟩) (by simp) (.int .u8 (byteK n k))))
      have hb : n / 256 ^ k % 256 = byteK n k := rfl
      have hq0 : 0 <= n / 256 ^ k := Int.ediv_nonneg h0 (Int.pow_nonneg (by omega))
      have hq1 : n / 256 ^ k < 18446744073709551616 := Int.lt_of_le_of_lt (Int.ediv_le_self _ h0) h1
      go_wp2
      go_roundg (8 - (k + 1))
      case measure => rw [hgk.out]; omega
      case rel =>
        refine ⟨k + 1, by omega, rfl, by go_num, ?_⟩
        exact hE
    · obtain rfl : k = 8 := by omega
      go_wp2
      go_end0
      exact ⟨rfl, hI.out⟩
theorem or_nat (X Z k : Nat) (hX : X < 256 ^ k) (hZ : Z <= 255) (hk : k < 8) : bits .or .u64 (X : Int) ((Z * 256 ^ k : Nat) : Int) = ((X + Z * 256 ^ k : Nat) : Int) := by
  have h2 : bits .or .u64 (X : Int) ((Z * 256 ^ k : Nat) : Int) = IntKind.u64.wrap (((BitVec.ofInt 64 (X : Int) ||| BitVec.ofInt 64 ((Z * 256 ^ k : Nat) : Int)).toNat : Nat) : Int) := rfl
  have hp : (256 : Nat) ^ k = 2 ^ (8 * k) := by rw [Nat.pow_mul]
  have hb : X + Z * 256 ^ k < 256 ^ (k + 1) := by
    rw [Nat.pow_succ]
    have : Z * 256 ^ k <= 255 * 256 ^ k := Nat.mul_le_mul_right _ hZ
    omega
  have hb2 : 256 ^ (k + 1) <= 256 ^ 8 := Nat.pow_le_pow_right (by omega) (by omega)
  have h256 : (256 : Nat) ^ 8 = 18446744073709551616 := by decide
  have e1 : (BitVec.ofInt 64 (X : Int)).toNat = X := by rw [BitVec.toNat_ofInt]; omega
  have e2 : (BitVec.ofInt 64 ((Z * 256 ^ k : Nat) : Int)).toNat = Z * 256 ^ k := by rw [BitVec.toNat_ofInt]; omega
  have h3 : (BitVec.ofInt 64 (X : Int) ||| BitVec.ofInt 64 ((Z * 256 ^ k : Nat) : Int)).toNat = X + Z * 256 ^ k := by
    rw [BitVec.toNat_or, e1, e2, Nat.or_comm, hp, <- Nat.shiftLeft_eq, <- Nat.shiftLeft_add_eq_or_of_lt (by rw [<- hp]; exact hX), Nat.add_comm]
  rw [h2, h3]
  generalize X + Z * 256 ^ k = q at hb
  simp only [IntKind.wrap, IntKind.bits, IntKind.signed]
  simp
  omega
theorem or_add (x z : Int) (k : Nat) (hx : 0 <= x /\ x < 256 ^ k) (hz : 0 <= z /\ z <= 255) (hk : k < 8) : bits .or .u64 x (z * 256 ^ k) = x + z * 256 ^ k := by
  obtain ⟨X, rfl⟩ := Int.eq_ofNat_of_zero_le hx.1
  obtain ⟨Z, rfl⟩ := Int.eq_ofNat_of_zero_le hz.1
  have hX : X < 256 ^ k := by have := hx.2; rw [show ((256 : Int) ^ k) = ((256 ^ k : Nat) : Int) by simp] at this; omega
  have := or_nat X Z k hX (by omega) hk
  push_cast at this
  exact this
theorem wrap_shl (z : Int) (k : Nat) (hz : 0 <= z /\ z <= 255) (hk : k < 8) : IntKind.u64.wrap (z * 256 ^ k) = z * 256 ^ k := by
  have hp : (256 : Int) ^ k <= 256 ^ 7 := by
    have := Nat.pow_le_pow_right (n := 256) (by omega) (show k <= 7 by omega)
    have e : ∀ j : Nat, ((256 : Int) ^ j) = ((256 ^ j : Nat) : Int) := fun j => by simp
    rw [e, e]; omega
  have h0 : (0 : Int) <= 256 ^ k := Int.pow_nonneg (by omega)
  have h7 : (256 : Int) ^ 7 = 72057594037927936 := by decide
  have h1 : 0 <= z * 256 ^ k := Int.mul_nonneg hz.1 h0
  have h2 : z * 256 ^ k <= 255 * 256 ^ k := Int.mul_le_mul_of_nonneg_right hz.2 h0
  generalize (256 : Int) ^ k = p at *
  generalize z * p = q at *
  simp only [IntKind.wrap, IntKind.bits, IntKind.signed]
  simp
  omega
theorem get_calls (zs : List Int) (v : Value) (i : Nat) (w : World) (h : BytesAt w v zs) (hi : 8 * i + 8 <= zs.length) (hm : zs.length <= 1000000) :
    Calls Tryz.prog 291 #[v, .int .i64 i] w fun e w' => e = .returned (.int .u64 (getL zs i)) /\ w' = w := by
  obtain ⟨a, cap, rfl, hr, -, -, hc⟩ := h
  obtain ⟨b, off, rfl, hb, hcell⟩ := hc (by intro e; rw [e] at hi; simp at hi)
  have hR := hidden (bytes_getD hr)
  have hc' := hidden hcell
  clear hc hr hcell
  generalize hL : zs.length = m at *
  replace hL := hidden hL
  go_enter Tryz.func291, Tryz.ntmps291
  go_wp2
  go_loop [5, 7] (fun t q => ∃ k : Nat, k <= 8 /\ q = .int .i64 k /\ t = .int .u64 (getK zs i k)) (fun _ q => 8 - (intOf q).toNat)
  case atStart => exact ⟨0, by omega, rfl, rfl⟩
  case round =>
    obtain ⟨k, hk, rfl, rfl⟩ := hrel
    by_cases hlt : k < 8
    · have hz := hR.out (8 * i + k)
      have hx := getK_range zs i hR.out k
      have hst : Hid (getK zs i (k + 1) = getK zs i k + zs.getD (8 * i + k) 0 * 256 ^ k) := hidden rfl
      have hcl := hc'.out (8 * i + k) (by omega)
      have hJ : ((i : Int) * 8 + (k : Int)).toNat = 8 * i + k := by omega
      have hp := pow8 k
      have hor := or_add _ _ k hx hz hlt
      have hwr := wrap_shl _ k hz hlt
      generalize zs.getD (8 * i + k) 0 = z at hz hst hcl hor hwr
      generalize getK zs i k = acc at hst hx hor ⊢
      replace hx := hidden hx
      go_wp2
      go_round
      case rel =>
        refine ⟨k + 1, by omega, by go_num, ?_⟩
        rw [hst.out]
      case measure => simp [intOf]; omega
    · obtain rfl : k = 8 := by omega
      go_wp2
      go_ret
      exact ⟨rfl, rfl⟩
theorem part_calls (b off m cap i : Nat) (hi : i * 128 + 128 <= m) (hm : m <= 1000000) (hc : m <= cap) (w : World) :
    Calls Tryz.prog 304 #[.slice (some ⟨b, off, none⟩) m cap, .int .i64 i] w fun e w' => (∃ cap', e = .returned (.slice (some ⟨b, off + i * 128, none⟩) 128 cap')) /\ w' = w := by
  go_enter Tryz.func304, Tryz.ntmps304
  go_wp2
  go_ret
  exact ⟨⟨_, rfl⟩, rfl⟩
theorem bytes_part {w : World} {b off cap cap' : Nat} {zs : List Int} (h : BytesAt w (.slice (some ⟨b, off, none⟩) zs.length cap) zs) (i : Nat) (hi : i * 128 + 128 <= zs.length) : BytesAt w (.slice (some ⟨b, off + i * 128, none⟩) 128 cap') (chunk zs i) := by
  obtain ⟨a, c, hv, hr, hm, -, hc⟩ := h
  obtain ⟨b', off', ha, hlt, hcell⟩ := hc (by intro e; rw [e] at hi; simp at hi)
  have he := (Value.slice.inj hv).1
  subst ha
  simp only [Option.some.injEq, Addr.mk.injEq] at he
  obtain ⟨rfl, rfl, -⟩ := he
  refine ⟨_, cap', by rw [chunk_len zs i hi], chunk_range zs i hr, by rw [chunk_len zs i hi]; decide, fun e => (by cases e), fun _ => ⟨b, _, rfl, hlt, fun k hk => ?_⟩⟩
  rw [chunk_len zs i hi] at hk
  rw [Nat.add_assoc, hcell (i * 128 + k) (by omega)]
  simp [chunk, List.getD, hk]
theorem make_bytes (N : Nat) (hN : N <= 1000000) (w : World) : (Instr.makeSlice 38 (.int .i64 N) (.int .i64 N)).run Tryz.prog w = .ok (.slice (some ⟨w.heap.size, 0, none⟩) N N) (w.alloc (.cells (Array.replicate N (.int .u8 0)) 5)) := by
  obtain ⟨i0, hi, hz0, hz1, hz2⟩ := info_parts3 Tryz.infoByte
  have h := run_make (P := Tryz.prog) (w := w) 38 5 i0 (.int .u8 0) Tryz.underlying38 hi hz0 .i64 .i64 N N (by omega) (by omega) (by rw [hz2]; omega) (by omega)
  rw [hz1, made_bytes] at h
  exact h
theorem ownB_zero (w : World) (base : Nat) (hb : base <= w.heap.size) (N : Nat) (hN : N <= 1000000) : OwnB base (w.alloc (.cells (Array.replicate N (.int .u8 0)) 5)) w.heap.size N N (List.replicate N 0) := by
  have h := World.ownsRow_lit (base := base) (e := 5) (size := 1) w (Array.replicate N (.int .u8 0)) N hb (by unfold maxLen; omega) (by simp)
  refine ⟨?_, by simp, fun z hz => by obtain ⟨_, rfl⟩ := List.mem_replicate.1 hz; omega⟩
  simpa using h
theorem digest_calls (b off m cap : Nat) (hs body : List Int) (vb : Value) (w : World) (h : BytesAt w (.slice (some ⟨b, off, none⟩) m cap) hs) (hl : hs.length = m) (h8 : 8 <= m) (hmc : m <= cap) (hcm : m <= 1000000) (hB : BytesAt w vb body) :
    Calls Tryz.prog 295 #[.slice (some ⟨b, off, none⟩) m cap, vb] w fun e w' => e = .returned (.int .u64 (digestL hs body)) /\ Below w.heap.size w w' := by
  have h1 : BytesAt w (.slice (some ⟨b, off, none⟩) 8 cap) (hs.take 8) := by
    obtain ⟨a, c, hv, hr, hm, -, hc⟩ := h
    obtain ⟨b', off', ha, hlt, hcell⟩ := hc (by intro e; rw [e] at hl; simp at hl; omega)
    have he := (Value.slice.inj hv).1
    subst ha
    simp only [Option.some.injEq, Addr.mk.injEq] at he
    obtain ⟨rfl, rfl, -⟩ := he
    have h8' : (hs.take 8).length = 8 := by simp; omega
    refine ⟨_, cap, by rw [h8'], fun z hz => hr z (List.mem_of_mem_take hz), by rw [h8']; decide, fun e => (by cases e), fun _ => ⟨b, off, rfl, hlt, fun k hk => ?_⟩⟩
    rw [h8'] at hk
    rw [hcell k (by omega)]
    simp [List.getD, hk]
  have hP : ∀ cs : Array Value, ∀ t, cs = #[.slice (some ⟨b, off, none⟩) 8 cap, vb] -> PartsAt (w.alloc (.cells cs t)) (.slice (some ⟨w.heap.size, 0, none⟩) 2 2) [hs.take 8, body] := by
    rintro cs t rfl
    have hb := (Below.refl w.heap.size w).alloc (Nat.le_refl _) (.cells #[.slice (some ⟨b, off, none⟩) 8 cap, vb] t)
    refine ⟨_, 2, rfl, by simp [maxLen], fun _ => ⟨w.heap.size, 0, rfl, by simp, fun k hk => ?_⟩⟩
    match k, hk with
    | 0, _ => exact ⟨_, by simp, h1.below hb⟩
    | 1, _ => exact ⟨_, by simp, hB.below hb⟩
  obtain ⟨a2, c2, rfl, -⟩ := hB
  clear h h1
  replace hP := hidden hP
  go_enter Tryz.func295, Tryz.ntmps295
  go_wp2_with fail
  refine (parts_calls _ _ _ (hP.out _ _ rfl)).mono ?_
  rintro ev w1 ⟨rfl, rfl⟩
  go_wp2
  go_ret
  exact ⟨rfl, (Below.refl _ _).alloc (Nat.le_refl _) _⟩
theorem head_calls (n : Nat) (hn : n <= 1000000) (body : List Int) (vb : Value) (w : World) (hB : BytesAt w vb body) :
    Calls Tryz.prog 305 #[.int .i64 n, vb] w fun e w' => ∃ b, e = .returned (.slice (some ⟨b, 0, none⟩) 128 128) /\ OwnB w.heap.size w' b 128 128 (headL n body) /\ Below w.heap.size w w' := by
  have hmk := make_block w
  have hO := hidden (ownB_zero w w.heap.size (Nat.le_refl _) 128 (by omega))
  have hB0 : Hid (Below w.heap.size w (w.alloc (.cells (Array.replicate 128 (.int .u8 0)) 5))) := hidden ((Below.refl _ _).alloc (Nat.le_refl _) _)
  obtain ⟨a2, c2, rfl, hrest⟩ := hB
  have hB1 : Hid (BytesAt w (.slice a2 body.length c2) body) := hidden ⟨a2, c2, rfl, hrest⟩
  clear hrest
  go_enter Tryz.func305, Tryz.ntmps305
  go_wp2_with fail
  refine (put_calls w.heap.size w.heap.size 128 128 _ 0 (n : Int) _ hO.out (by omega) (by omega) (by omega) (by omega)).mono ?_
  rintro ev w2 ⟨rfl, hO2, hA2⟩
  have hB2 : Below w.heap.size w w2 := hB0.out.trans (hA2.below (by simp) hB0.out.size)
  replace hO2 := hidden hO2
  replace hB2 := hidden hB2
  clear hA2 hO hmk
  go_wp2_with fail
  refine (digest_calls w.heap.size 0 128 128 _ body _ w2 hO2.out.bytes (by rw [putK_len]; simp) (by omega) (by omega) (by omega) (hB1.out.below hB2.out)).mono ?_
  rintro ev w3 ⟨rfl, hB3⟩
  have hO3 := hidden (hO2.out.below hB3)
  have hB3' : Hid (Below w.heap.size w w3) := hidden (hB2.out.trans (hB3.mono hB2.out.size))
  have hD := fnv_range fnv0 (by decide) ((putL zeroB 0 (n : Int)).take 8 ++ body)
  clear hB3
  go_wp2_with fail
  refine (put_calls w.heap.size w.heap.size 128 128 _ 1 _ _ hO3.out (by omega) (by omega) hD.1 hD.2).mono ?_
  rintro ev w4 ⟨rfl, hO4, hA4⟩
  have hB4 : Below w.heap.size w w4 := hB3'.out.trans (hA4.below (by simp) hB3'.out.size)
  have hE := hidden (And.intro hO4 hB4)
  clear hO4 hB4 hA4
  go_wp2
  go_ret
  exact ⟨_, rfl, hE.out⟩
theorem wpList_append_eq {P : Program} {ops : Array Oper} {rest : List Oper} {o : Oper} {a : Act} {w : World} {Q : Exit -> Act -> World -> Prop} (s x : Operand) (t : TypeId)
    (ho : o.op = .call { callee := .builtin .append, args := #[s, x], argTypes := #[t, t] }) (v xv v' : Value) (w' : World) (hs : a.eval s = v) (hx : a.eval x = xv)
    (hr : (Builtin.append_ #[t, t] o.type #[v, xv]).run P w = .ok v' w') (hg : Region.wanted o (yielded ops a.tmps) = true) (h : wpList P ops Q rest (a.put o.dst v') w') : wpList P ops Q (o :: rest) a w :=
  wpList_step fun K hK => by
    rw [if_pos hg]
    unfold Oper.wp execOp
    simp only [ho, resolve, invoke, builtin, Sem.run_bind, Sem.run_pure, Result.andThen_ok, List.map_toArray, List.map_cons, List.map_nil, hs, hx, hr]
    exact hK _ _ h
structure OwnV (base : Nat) (w : World) (v : Value) (zs : List Int) : Prop where
  row : w.ownsRow base 5 1 v zs.length (zs.map (Value.int .u8))
  range : ∀ z ∈ zs, 0 <= z /\ z <= 255
theorem OwnB.toV {base : Nat} {w : World} {b n cap : Nat} {zs : List Int} (h : OwnB base w b n cap zs) : OwnV base w (.slice (some ⟨b, 0, none⟩) n cap) zs := ⟨by have := h.row; rw [<- h.len] at this ⊢; exact this, h.range⟩
theorem OwnV.form {base : Nat} {w : World} {v : Value} {zs : List Int} (h : OwnV base w v zs) (hz : zs ≠ []) : ∃ b cap, v = .slice (some ⟨b, 0, none⟩) zs.length cap /\ OwnB base w b zs.length cap zs := by
  rcases h.row.2 with ⟨_, h0⟩ | ⟨g', cap', cur, rfl, hrest⟩
  · exact absurd (List.length_eq_zero_iff.1 h0) hz
  · exact ⟨g', cap', rfl, h.row, rfl, h.range⟩
theorem OwnV.nil (base : Nat) (w : World) : OwnV base w (.slice none 0 0) [] := ⟨World.ownsRow_nil w base _ _, fun z hz => by cases hz⟩
theorem OwnV.below {base : Nat} {w w' : World} {v : Value} {zs : List Int} (h : OwnV base w v zs) (hb : Below w.heap.size w w') : OwnV base w' v zs := by
  by_cases hz : zs = []
  · subst hz
    rcases h.row.2 with ⟨rfl, _⟩ | ⟨g', cap', cur, rfl, h1, h2, rest⟩
    · exact OwnV.nil _ _
    · exact ⟨⟨h.row.1, .inr ⟨g', cap', cur, rfl, h1, (hb.block g' (by rcases Nat.lt_or_ge g' w.heap.size with h | h; exact h; rw [Array.getElem?_eq_none h] at h2; cases h2)).trans h2, rest⟩⟩, h.range⟩
  · obtain ⟨b, cap, rfl, hB⟩ := h.form hz
    exact (hB.below hb).toV
theorem ownV_append {base : Nat} {w : World} {v : Value} {zs : List Int} (h : OwnV base w v zs) (x : Value) (ys : List Int) (hx : BytesAt w x ys) (hy : ys ≠ []) (hn : zs.length + ys.length <= 1000000) (hbase : base <= w.heap.size) (ty : TypeId) :
    ∃ v' w', (Builtin.append_ #[38, 38] ty #[v, x]).run Tryz.prog w = .ok v' w' /\ OwnV base w' v' (zs ++ ys) /\ Below base w w' := by
  obtain ⟨a, cap, rfl, hr, hm, -, hc⟩ := hx
  obtain ⟨b, off, rfl, hlt, hcell⟩ := hc hy
  obtain ⟨i0, hi, hz0, hz1, hz2⟩ := info_parts3 Tryz.infoByte
  obtain ⟨v', w', hrun, hown, hgrow, -⟩ := run_append_own (P := Tryz.prog) w base 38 ty 5 i0 (.int .u8 0) 1 1 Tryz.underlying38 hi hz0 hz1 hz2 (by simp [Value.cells]) (by decide)
    v zs.length _ h.row ⟨b, off, none⟩ ys.length cap (ys.map (Value.int .u8)) (by simp) (fun j u hu => by
      have hj : j < ys.length := by
        rcases Nat.lt_or_ge j ys.length with h | h
        · exact h
        · rw [List.getElem?_eq_none (by simpa using h)] at hu; cases hu
      rw [Go.WideShapes.add_plain, hcell j hj, <- getD_map hj]
      exact hu) (by intro u hu; obtain ⟨z, _, rfl⟩ := List.mem_map.1 hu; rfl) (by unfold maxLen; omega) (by omega) hbase
  refine ⟨v', w', hrun, ⟨?_, fun z hz => ?_⟩, (Below.refl base w).grown hgrow hbase (fun k hk => (h.row.lt k hk).1)⟩
  · rw [List.length_append, List.map_append]; exact hown
  · rcases List.mem_append.1 hz with h' | h'
    · exact h.range z h'
    · exact hr z h'
def GAt (w : World) (v : Value) (xs : List (Int × List Int)) : Prop :=
  ∃ a cap, v = .slice a xs.length cap /\ xs.length <= 1000 /\ (xs ≠ [] -> ∃ b off, a = some ⟨b, off, none⟩ /\ b < w.heap.size /\
    ∀ k, k < xs.length -> w.cell? ⟨b, off + k * 2, none⟩ = some (.int .i64 (xs.getD k (0, [])).1) /\ ∃ x, w.cell? ⟨b, off + k * 2 + 1, none⟩ = some x /\ BytesAt w x (xs.getD k (0, [])).2)
theorem GAt.below {w w' : World} {v : Value} {xs : List (Int × List Int)} (h : GAt w v xs) (hb : Below w.heap.size w w') : GAt w' v xs := by
  obtain ⟨a, cap, hv, hl, hc⟩ := h
  refine ⟨a, cap, hv, hl, fun hne => ?_⟩
  obtain ⟨b, off, ha, hlt, hk⟩ := hc hne
  refine ⟨b, off, ha, Nat.lt_of_lt_of_le hlt hb.size, fun k hlk => ?_⟩
  obtain ⟨h1, x, h2, h3⟩ := hk k hlk
  exact ⟨(hb.cell (p := ⟨b, off + k * 2, none⟩) hlt).trans h1, x, (hb.cell (p := ⟨b, off + k * 2 + 1, none⟩) hlt).trans h2, h3.below hb⟩
theorem GAt.cells {w : World} {gb off n cap : Nat} {xs : List (Int × List Int)} (h : GAt w (.slice (some ⟨gb, off, none⟩) n cap) xs) (k : Nat) (hk : k < xs.length) :
    w.cell? ⟨gb, off + k * 2, none⟩ = some (.int .i64 (xs.getD k (0, [])).1) /\ ∃ a dcap, w.cell? ⟨gb, off + k * 2 + 1, none⟩ = some (.slice a (xs.getD k (0, [])).2.length dcap) /\ BytesAt w (.slice a (xs.getD k (0, [])).2.length dcap) (xs.getD k (0, [])).2 := by
  obtain ⟨a, cap', hv, -, hc⟩ := h
  obtain ⟨b, off', ha, -, hcell⟩ := hc (by intro e; rw [e] at hk; simp at hk)
  have he := (Value.slice.inj hv).1
  subst ha
  simp only [Option.some.injEq, Addr.mk.injEq] at he
  obtain ⟨rfl, rfl, -⟩ := he
  obtain ⟨h1, x, h2, h3⟩ := hcell k hk
  obtain ⟨a3, c3, rfl, rest⟩ := h3
  exact ⟨h1, a3, c3, h2, a3, c3, rfl, rest⟩
theorem GAt.lt {w : World} {gb off n cap : Nat} {xs : List (Int × List Int)} (h : GAt w (.slice (some ⟨gb, off, none⟩) n cap) xs) (hk : 0 < xs.length) : gb < w.heap.size := lt_of_cell (a := ⟨gb, off + 0 * 2, none⟩) (h.cells 0 hk).1
def up (l : Grp) : List (Int × List Int) := l.map fun p => ((p.1 : Int), p.2)
theorem up_len (l : Grp) : (up l).length = l.length := by simp [up]
theorem up_get (l : Grp) (k : Nat) : (up l).getD k (0, []) = ((nob l k : Int), dat l k) := by
  simp only [up, List.getD, List.getElem?_map]
  cases h : l[k]? <;> simp [nob, dat, List.getD, h]
theorem written_calls (l : Grp) (hl : ∀ j, j < l.length -> (dat l j).length = 128) (hn : ∀ j, j < l.length -> nob l j < 1000000) (h1 : 1 <= l.length) (h2 : l.length <= 200) (v : Value) (w : World) (h : GAt w v (up l)) :
    Calls Tryz.prog 303 #[v] w fun e w' => ∃ b cap, e = .returned (.slice (some ⟨b, 0, none⟩) (size l * 128) cap) /\ OwnB w.heap.size w' b (size l * 128) cap (bodyL l) /\ Below w.heap.size w w' := by
  have hH := hidden h
  obtain ⟨a, cap, rfl, -, hc⟩ := h
  rw [up_len] at hc ⊢ hH
  obtain ⟨gb, off, rfl, hlt, -⟩ := hc (by intro e; have := up_len l; rw [e] at this; simp at this; omega)
  have hrw := rowsN_le l.length
  have hR := hidden (rows_calls l.length (by omega) w)
  have hmk := make_bytes (rowsN l.length * 128) (by omega) w
  have hO0 : Hid (OwnB w.heap.size (w.alloc (.cells (Array.replicate (rowsN l.length * 128) (.int .u8 0)) 5)) w.heap.size (rowsN l.length * 128) (rowsN l.length * 128) (bodyK l 0)) := hidden (by
    have := ownB_zero w w.heap.size (Nat.le_refl _) (rowsN l.length * 128) (by omega)
    rw [show bodyK l 0 = List.replicate (rowsN l.length * 128) 0 by simp [bodyK, numK, datK]]; exact this)
  have hlen := hidden (bodyK_len l hl)
  have hsz : Hid (∀ k, k < l.length -> 8 * k + 8 <= rowsN l.length * 128) := hidden (fun k hk => rowsN_room _ _ hk)
  obtain ⟨M, hM⟩ : ∃ M, rowsN l.length * 128 = M := ⟨_, rfl⟩
  rw [hM] at hmk hO0
  have hps : ((rowsN l.length : Nat) : Int) * 128 = (M : Int) := by omega
  have hM2 : M <= 100000 := by omega
  replace hM := hidden hM
  clear hc
  go_enter Tryz.func303, Tryz.ntmps303
  go_wp2_with fail
  refine (hR.out).mono ?_
  rintro ev w1 ⟨rfl, rfl⟩
  go_wp2
  go_loopg [3, 13] l.length (fun gk t q wr => ∃ k : Nat, k <= l.length /\ gk = l.length - k /\ q = .int .i64 k /\ Hid (∃ b cap, t = .slice (some ⟨b, 0, none⟩) ((rowsN l.length + k) * 128) cap /\ OwnB w1.heap.size wr b ((rowsN l.length + k) * 128) cap (bodyK l k) /\ Below w1.heap.size w1 wr))
  case atStart => exact ⟨0, by omega, rfl, rfl, hidden ⟨_, _, by rw [Nat.add_zero, hM.out], by rw [Nat.add_zero, hM.out]; exact hO0.out, (Below.refl _ _).alloc (Nat.le_refl _) _⟩⟩
  case round =>
    obtain ⟨k, hk, hgk, rfl, hI⟩ := hrel
    replace hgk := hidden hgk
    obtain ⟨b, cap2, rfl, hO, hB⟩ := hI.out
    clear hI
    by_cases hlt : k < l.length
    · obtain ⟨hc1, da, dcap, hc2, hDt⟩ := hH.out.cells k (by rw [up_len]; exact hlt)
      have hgb := hH.out.lt (by rw [up_len]; omega)
      replace hc1 := (hB.cell (p := ⟨gb, off + k * 2, none⟩) hgb).trans hc1
      replace hc2 := (hB.cell (p := ⟨gb, off + k * 2 + 1, none⟩) hgb).trans hc2
      rw [up_get] at hc1 hc2 hDt
      simp only at hc1 hc2 hDt
      rw [hl k hlt] at hc2 hDt
      have hno := hn k hlt
      have hst := hidden (bodyK_succ l k hlt)
      have hroom := hsz.out k hlt
      replace hDt := hidden hDt
      replace hO := hidden hO
      replace hB := hidden hB
      generalize dat l k = D at hDt hst
      generalize nob l k = X at hc1 hno hst
      go_wp2_with fail
      have hBa : Below wr.heap.size wr (wr.alloc (.cells #[.int .i64 X, .slice da 128 dcap] 255)) := (Below.refl _ _).alloc (Nat.le_refl _) _
      have hca : (wr.alloc (.cells #[.int .i64 X, .slice da 128 dcap] 255)).cell? ⟨wr.heap.size, 1, none⟩ = some (.slice da 128 dcap) := by simp
      have hsa : (wr.alloc (.cells #[.int .i64 X, .slice da 128 dcap] 255)).heap.size = wr.heap.size + 1 := by simp
      generalize wr.alloc (.cells #[.int .i64 X, .slice da 128 dcap] 255) = w2 at hBa hca hsa ⊢
      refine (put_calls w1.heap.size b _ cap2 _ k X w2 (hO.out.below hBa) (by omega) (by omega) (by omega) (by omega)).mono ?_
      rintro ev w3 ⟨rfl, hO3, hA3⟩
      have hbl := hO.out.lt
      have hcb : w3.cell? ⟨wr.heap.size, 1, none⟩ = some (.slice da 128 dcap) := (hA3.cell (p := ⟨wr.heap.size, 1, none⟩) (by show wr.heap.size < _; omega) (by simp; omega)).trans hca
      have hB3 : Below w1.heap.size w1 w3 := (hB.out.trans (hBa.mono hB.out.size)).trans (hA3.below (by simp; omega) (Nat.le_trans hB.out.size hBa.size))
      have hDl : D.length = 128 := by obtain ⟨_, _, hv, -⟩ := hDt.out; exact ((Value.slice.inj hv).2.1).symm
      have hD3 : BytesAt w3 (.slice da 128 dcap) D := hDt.out.below hB3
      clear hBa hca hO hB hA3
      obtain ⟨v4, w4, hrun, hV4, hB4⟩ := ownV_append hO3.toV (.slice da 128 dcap) D hD3 (by intro e; rw [e] at hDl; simp at hDl) (by rw [putK_len, hlen.out k hk]; omega) (Nat.le_trans hB3.size (Nat.le_refl _)) 38
      replace hrun := hidden hrun
      have hE := hidden (And.intro hV4 (hB3.trans hB4))
      clear hV4 hB4 hB3 hO3
      go_wp2_with (at_builtin; refine wpList_append_eq _ _ 38 rfl _ _ v4 w4 rfl rfl hrun.out rfl ?_)
      go_roundg (l.length - (k + 1))
      case measure => rw [hgk.out]; omega
      case rel =>
        refine ⟨k + 1, hlt, rfl, by go_num, hidden ?_⟩
        obtain ⟨hV, hB⟩ := hE.out
        rw [<- hst.out] at hV
        have hl5 := hlen.out (k + 1) hlt
        obtain ⟨b5, cap5, rfl, hO5⟩ := hV.form (by intro e; rw [e, List.length_nil] at hl5; omega)
        rw [hl5] at hO5 ⊢
        exact ⟨b5, cap5, rfl, hO5, hB⟩
    · obtain rfl : k = l.length := by omega
      have hE := hidden (And.intro hO hB)
      clear hO hB
      go_wp2
      go_ret
      exact ⟨b, cap2, rfl, hE.out⟩
structure JAt (jb d at_ most : Nat) (w : World) : Prop where
  c0 : w.cell? ⟨jb, 0, none⟩ = some (ptr d)
  c1 : w.cell? ⟨jb, 1, none⟩ = some (.int .i64 at_)
  c2 : w.cell? ⟨jb, 2, none⟩ = some (.int .i64 most)
theorem JAt.lt {jb d at_ most : Nat} {w : World} (h : JAt jb d at_ most w) : jb < w.heap.size := lt_of_cell (a := ⟨jb, 0, none⟩) h.c0
theorem JAt.keep {jb d at_ most : Nat} {w w' : World} {bs : List Nat} (h : JAt jb d at_ most w) (ha : Apart bs w w') (hn : jb ∉ bs) : JAt jb d at_ most w' :=
  ⟨(ha.cell (p := ⟨jb, 0, none⟩) h.lt hn).trans h.c0, (ha.cell (p := ⟨jb, 1, none⟩) h.lt hn).trans h.c1, (ha.cell (p := ⟨jb, 2, none⟩) h.lt hn).trans h.c2⟩
theorem JAt.below {jb d at_ most : Nat} {w w' : World} (h : JAt jb d at_ most w) (hb : Below w.heap.size w w') : JAt jb d at_ most w' := h.keep (Apart.of_below (bs := []) hb) (by simp)
end Go.Proofs.YtpofmiecjkghgaaGreatDoor
