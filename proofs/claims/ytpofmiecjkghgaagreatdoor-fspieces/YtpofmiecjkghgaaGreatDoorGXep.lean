/- A disk as it is laid out; the block by which a tree is known. -/
import Derived.Test.YtpofmiecjkghgaaGreatDoorGDcp
import Derived.Test.YtpofmiecjkghgaaGreatDoorGWcp
import Derived.Test.YtpofmiecjkghgaaGreatDoorGWp
import Derived.Test.YtpofmiecjkghgaaGreatDoorGWgp
namespace Go.Proofs.YtpofmiecjkghgaaGreatDoor
open Go.RowKit Go.Extern.Stop Go.Stop Go.Extern
set_option maxRecDepth 100000
set_option maxHeartbeats 8000000
def fmtOk (n i r : Int) : Prop := layOk n i /\ 0 <= r /\ r <= 64 /\ r <= datB n i - 8
section
variable {w0 : World} {d g n : Nat} {mem : Nat -> Int} {writes left : Int} {w : World}
theorem laid_ok (h : Sys w0 d g n mem writes left w) (i r : Int) (hl : fmtOk n i r) :
    Calls Tryz.prog 95 #[ptr d, .int .i64 i, .int .i64 r] w fun e w' => e = .returned (.tuple #[.int .i64 (datB n i), .bool true]) /\ w' = w := by
  obtain ⟨hl, h0, h1, h2⟩ := hl
  have kB := hidden (sys_blocks h)
  have kL := hidden (layout_ok (n : Int) i hl w)
  have hd : datB n i <= 2048 := by
    obtain ⟨-, a, b, -, -⟩ := hl
    unfold datB
    omega
  have hd8 : 8 <= datB n i := hl.2.2.2.2
  generalize datB n i = DD at *
  have g0 : ¬ r < 0 := by omega
  have g1 : ¬ r > min 64 (DD - 8) := by omega
  obtain ⟨MM, hMM⟩ : ∃ MM : Int, min 64 (DD - 8) = MM := ⟨_, rfl⟩
  rw [hMM] at g1
  clear h hl
  go_enter Tryz.func95, Tryz.ntmps95
  go_wp2_with fail
  refine (kB.out).mono ?_
  rintro ev w1 ⟨rfl, hw1⟩
  subst w1
  go_wp2_with fail
  refine (kL.out).mono ?_
  rintro ev w2 ⟨rfl, hw2⟩
  subst w2
  go_wp2
  go_ret2
  exact ⟨rfl, rfl⟩
end
def markL : List UInt8 := [99, 114, 101, 100, 101, 110, 122, 97]
def headK (i r : Int) : List Int := ((layL (List.replicate 128 0) 0 (bI markL)).set 8 i).set 9 r
theorem headK_len (i r : Int) : (headK i r).length = 128 := by
  unfold headK layL
  simp [bI, markL]
theorem fhead_calls (i r : Int) (hi : 0 <= i /\ i <= 255) (hr : 0 <= r /\ r <= 255) (w : World) :
    Calls Tryz.prog 97 #[.int .i64 i, .int .i64 r] w fun e w' => e = .returned (.slice (some ⟨w.heap.size, 0, none⟩) 128 128) /\ OwnB w.heap.size w' w.heap.size 128 128 (headK i r) /\ Below w.heap.size w w' := by
  obtain ⟨Z, hZ⟩ : ∃ Z : Nat, Z = 128 := ⟨_, rfl⟩
  have hmk := make_bytes Z (by omega) w
  have hO := ownB_zero w w.heap.size (Nat.le_refl _) Z (by omega)
  obtain ⟨w2, hw2, hB2, hO2⟩ : ∃ w2, w.alloc (.cells (Array.replicate Z (.int .u8 0)) 5) = w2 /\ Below w.heap.size w w2 /\ OwnB w.heap.size w2 w.heap.size Z Z (List.replicate Z 0) := ⟨_, rfl, (Below.refl _ _).alloc (Nat.le_refl _) _, hO⟩
  rw [hw2] at hmk
  have hzz : ∀ w, (Go.sizeOf 5).run Tryz.prog w = .ok 1 w := fun w => by
    obtain ⟨i0, hi, -, hz1, -⟩ := info_parts3 Tryz.infoByte
    simp [Go.sizeOf, typeInfo, hi, hz1]
  have hsz : (mkB markL).size = 8 := mk_size markL
  have hcp := run_copy_string (P := Tryz.prog) w2 38 9 3 5 w.heap.size 0 Z Z (mkB markL) Tryz.underlying38 hzz (by rw [hsz]; omega) (fun j hj => by
    rw [hsz] at hj
    have := hO2.cell (0 + j) (by omega)
    rw [this]; rfl) (fun j _ => hO2.row.frozenAt (0 + j))
  rw [bI_cells, hsz] at hcp
  have hmb : mkB markL = ⟨#[99, 114, 101, 100, 101, 110, 122, 97]⟩ := rfl
  rw [hmb] at hcp
  obtain ⟨w3, hw3, hB3, hO3⟩ : ∃ w3, w2.setCells w.heap.size 0 ((bI markL).map (Value.int .u8)) = w3 /\ Below w.heap.size w w3 /\ OwnB w.heap.size w3 w.heap.size Z Z (layL (List.replicate Z 0) 0 (bI markL)) :=
    ⟨_, rfl, below_cells (Nat.le_refl _) _ _ _ _ hB2, OwnB.copied (bI markL) 0 _ _ hO2 (bI_range _) (by rw [bI_len]; show 0 + 8 <= Z; omega)⟩
  rw [hw3] at hcp
  have c8 := hO3.cell 8 (by omega)
  have c9 := hO3.cell 9 (by omega)
  have f8 := hO3.row.frozenAt 8
  have f9 := hO3.row.frozenAt 9
  have hw8 : IntKind.u8.wrap i = i := by
    simp only [IntKind.wrap, IntKind.bits, IntKind.signed]
    simp
    omega
  have hw9 : IntKind.u8.wrap r = r := by
    simp only [IntKind.wrap, IntKind.bits, IntKind.signed]
    simp
    omega
  have hO5 := (hO3.stored 8 i hi).stored 9 r hr
  have hE := hidden (show OwnB w.heap.size ((w3.setCell ⟨w.heap.size, 8, none⟩ (.int .u8 i)).setCell ⟨w.heap.size, 9, none⟩ (.int .u8 r)) w.heap.size 128 128 (headK i r) /\ Below w.heap.size w ((w3.setCell ⟨w.heap.size, 8, none⟩ (.int .u8 i)).setCell ⟨w.heap.size, 9, none⟩ (.int .u8 r)) from ⟨by rw [hZ] at hO5; exact hO5, (hB3.setCell (p := ⟨w.heap.size, 8, none⟩) (Nat.le_refl _) _).setCell (p := ⟨w.heap.size, 9, none⟩) (Nat.le_refl _) _⟩)
  have hlt3 := hO3.lt.2
  clear hO hO2 hO3 hO5 hB2 hB3 hw2 hw3 hzz hsz hmb
  subst hZ
  generalize (layL (List.replicate 128 0) 0 (bI markL)).getD 8 0 = z8 at c8
  generalize (layL (List.replicate 128 0) 0 (bI markL)).getD 9 0 = z9 at c9
  replace hmk : (Instr.makeSlice 38 (.int .i64 128) (.int .i64 128)).run Tryz.prog w = .ok (.slice (some ⟨w.heap.size, 0, none⟩) 128 128) w2 := hmk
  go_enter Tryz.func97, Tryz.ntmps97
  go_wp2
  go_ret
  exact ⟨rfl, hE.out⟩
end Go.Proofs.YtpofmiecjkghgaaGreatDoor
namespace Go.Proofs.YtpofmiecjkghgaaGreatDoor
open Go.RowKit Go.Extern.Stop Go.Stop Go.Extern Go.Maps Go.Sort Go.Shelf
set_option maxRecDepth 100000
set_option maxHeartbeats 8000000
theorem nowM_nil (mem : Nat -> Int) (no : Nat) : nowM mem [] no = blockL mem no := rfl
theorem bit_none {mem : Nat -> Int} {ma i : Nat} (h : blockL mem (homeA ma i) = zeros 128) : bitM mem [] ma i = false := by
  have := bit_zero ma i
  unfold bitM byteA at *
  rw [nowM_nil, h]
  have e : nowM (fun _ => 0) [] (homeA ma i) = zeros 128 := idle_zero7 (homeA ma i)
  rw [e] at this
  exact this
section
variable {E : TE} {mem : Nat -> Int} {writes : Int} {w w' : World} {K : Nat -> Nat} {D : Nat -> List Int} {f u lim : Nat}
theorem s8z_new (h : E.St mem writes [] w) (hz : ∀ a, a < E.fr -> blockL mem a = zeros 128) (hle : ∀ i, i < E.k -> homeA E.ma i < E.fr) (hlt : ∀ id, 1 <= id -> id <= E.tn -> E.ta + id - 1 < E.fr) (hat : E.at_ < E.fr) (hw : 0 <= writes /\ writes <= lim) : S8z E.rest (fun _ => 0) (fun _ => []) E.k 0 lim w := by
  have hbit : ∀ i, i < E.k -> bitM mem [] E.ma i = false := fun i hi => bit_none (hz _ (hle i hi))
  refine ⟨mem, writes, fun _ => ⟨0, 0, []⟩, ⟨h.c, h.m, h.t, fun p hp => by cases hp⟩, ⟨fun id h1 h2 => ⟨⟨Or.inl ⟨rfl, rfl, rfl⟩, by simp, by simp [blk], by simp⟩, ?_⟩, fun _ _ _ => List.nodup_nil, fun _ _ _ z hz => (by cases hz), fun _ _ _ _ _ _ _ z hz => (by cases hz), fun _ _ _ h9 => absurd h9 (by simp), fun _ _ _ => rfl⟩, hz _ hat, hw, fun _ => rfl, ?_, Nat.zero_le _, ⟨fun i hi => absurd hi (Nat.not_lt_zero _), fun _ _ _ hW => hW.elim, fun i hi hb => ?_⟩⟩
  · exact hz _ (hlt id h1 h2)
  · show freeN (bitM mem [] E.ma) E.k = E.k
    rw [freeN_congr (T := fun _ => false) E.k hbit]
    simp [freeN]
  · have := hbit i hi
    have hb' : bitM mem [] E.ma i = true := hb
    rw [this] at hb'
    cases hb'
theorem S8z.past (hp : E.Pl) (h : S8z E K D f u lim w) (hr : E.ku <= E.k) {i : Nat} (hi : i < E.n) (hno : ¬ E.Use i) (hiat : i ≠ E.at_) {v : Value} {zs : List Int} (hv : BytesAt w v zs) (hzl : zs.length = 128) (hlim : lim <= 300000000) :
    Calls Tryz.prog 105 #[ptr E.d, .int .i64 i, v] w fun e w' => e = .returned .nilIface /\ S8z E K D f u (lim + 1) w' /\ Apart [E.d, E.g] w w' := by
  obtain ⟨m0, wr, N, q1, q2, q3, q4, q5, q6, q7, q8⟩ := h
  have hl := hp.live
  refine (sys_write q1.c.sys i hi v zs hv hzl (by rw [hl]; decide) (by rw [hl]; decide) (by omega)).mono ?_
  rintro e w' ⟨rfl, hS, hA⟩
  rw [hl, show burnt (-1) = -1 from rfl, <- hl] at hS
  have hne : ∀ a, E.Use a -> nowM (memW i zs m0) [] a = nowM m0 [] a := fun a ha => by
    rw [nowM_nil, nowM_nil]
    exact memW_other i a (by rintro rfl; exact hno ha) zs m0
  obtain ⟨c1, c2⟩ := q2.congr (mem' := memW i zs m0) (M' := []) hne
  have hf := hp.far
  have hc := q1.c
  refine ⟨rfl, ⟨memW i zs m0, wr + 1, N, ⟨⟨hS, hc.jat.keep hA (by simp; exact hc.jd), hc.cat.keep hA (by simp; exact hc.cd), hc.map.keep hA (by simp; exact hc.md), hc.jd, hc.cd, hc.md, hc.mj, hc.new⟩, q1.m.keep hA (by simp; exact hf.1), q1.t.keep hA (by simp; exact hf.2), q1.keys⟩, c1, ?_, ⟨by omega, by omega⟩, q5, ?_, ?_, ⟨fun j hj hb => q8.opn j hj ((c2 j (by omega)).symm.trans hb), q8.own, fun j hj hb => q8.cov j hj ((c2 j hj).symm.trans hb)⟩⟩, hA⟩
  · exact (memW_other i E.at_ hiat zs m0).trans q3
  · rw [<- q6]
    exact freeN_congr _ c2
  · rw [freeN_congr (T := bitM m0 [] E.ma) E.ku (fun j hj => c2 j (by omega))]
    exact q7
end
def teF (w0 : World) (d g n jb cb mb ab tb i dd : Nat) : TE := { w0 := w0, d := d, g := g, n := n, jb := jb, cb := cb, mb := mb, at_ := 1, most := 87, blocks := n, left := -1, ab := ab, ma := 96, fr := n - dd, k := dd, kk := dd, tb := tb, ta := n - dd - i, tn := i, A := [], U := fun _ => False, R := fun _ => False, W := fun _ => False, ku := 0 }
structure FmtN (n i r dd : Nat) : Prop where
  n1 : 128 <= n
  n2 : n <= 2048
  i1 : 8 <= i
  i2 : i <= 200
  d1 : 8 <= dd
  r1 : r <= 64
  r2 : r + 8 <= dd
  sum : n = 96 + i + (n + 1023) / 1024 + dd
theorem FmtN.ok {n i r dd : Nat} (h : FmtN n i r dd) : fmtOk (n : Int) (i : Int) (r : Int) /\ datB (n : Int) (i : Int) = (dd : Int) := by
  obtain ⟨h1, h2, h3, h4, h5, h6, h7, h8⟩ := h
  have e : datB (n : Int) (i : Int) = (dd : Int) := by unfold datB; omega
  unfold fmtOk layOk
  rw [e]
  omega
theorem need87 : needN 87 = 95 := by decide
theorem teF_pl {w0 : World} {d g n jb cb mb ab tb i r dd : Nat} (h : FmtN n i r dd) (ha : ab ≠ mb) (ht : tb ≠ mb) (hf : (ab ≠ d /\ ab ≠ g) /\ tb ≠ d /\ tb ≠ g) : (teF w0 d g n jb cb mb ab tb i dd).Pl := by
  obtain ⟨h1, h2, h3, h4, h5, h6, h7, h8⟩ := h
  have hk : ∀ j, j < dd -> 96 <= homeA 96 j /\ homeA 96 j < n - dd - i := fun j hj => by unfold homeA; omega
  constructor
  · refine ⟨by show 96 < 100000; omega, by show 1 <= dd; omega, by show dd <= 2048; omega, ?_, ?_, by show n - dd + dd <= 9223372036854775807; omega⟩
    · show homeA 96 (dd - 1) < n
      have := hk (dd - 1) (by omega)
      omega
    · show ((homeA 96 (dd - 1) : Nat) : Int) < (n : Int)
      have := hk (dd - 1) (by omega)
      omega
  · rfl
  · rfl
  · exact ha
  · exact ht
  · rfl
  · intro id a b
    have b' : id <= i := b
    show n - dd - i + id - 1 < n /\ ((n - dd - i + id - 1 : Nat) : Int) < (n : Int)
    omega
  · intro j hj
    have hj' : j < dd := hj
    show n - dd + j < n /\ ((n - dd + j : Nat) : Int) < (n : Int)
    omega
  · intro j hj
    have := hk j hj
    right
    show 1 + needN 87 <= homeA 96 j
    rw [need87]
    omega
  · intro id a b
    have b' : id <= i := b
    right
    show 1 + needN 87 <= n - dd - i + id - 1
    rw [need87]
    omega
  · intro j hj
    have hj' : j < dd := hj
    right
    show 1 + needN 87 <= n - dd + j
    rw [need87]
    omega
  · show 1 + needN 87 <= n
    rw [need87]
    omega
  · intro a b ha hb
    have := hk a ha
    show homeA 96 a ≠ n - dd + b
    omega
  · intro a id ha a1 a2
    have := hk a ha
    show homeA 96 a ≠ n - dd - i + id - 1
    omega
  · intro a id ha a1 a2
    have a2' : id <= i := a2
    show n - dd + a ≠ n - dd - i + id - 1
    omega
  · show n - dd - i <= 100000
    omega
  · show i <= 200
    omega
  · show 1 <= i
    omega
  · show n - dd + dd <= 1000000
    omega
  · exact hf
theorem inew_calls (cb ab ta tn : Nat) (h1 : 1 <= tn) (h2 : tn <= 200) (h3 : ta <= 1000000) (w : World) :
    Calls Tryz.prog 155 #[ptr cb, ptr ab, .int .i64 ta, .int .i64 tn] w fun e w' => e = .returned (.tuple #[ptr w.heap.size, .nilIface]) /\ TbAt w.heap.size cb ab ta tn w' /\ Below w.heap.size w w' := by
  go_enter Tryz.func155, Tryz.ntmps155
  go_wp2
  go_ret2
  exact ⟨rfl, ⟨by simp, by simp, by simp, by simp⟩, (Below.refl _ _).alloc (Nat.le_refl _) _⟩
structure HNo (fb hb : Nat) (E : TE) (w : World) : Prop where
  no : w.heap[hb]? = some (.map #[] 0)
  ne : hb ≠ E.d /\ hb ≠ E.g /\ hb ≠ E.mb /\ hb ≠ fb /\ E.w0.heap.size <= hb
theorem HNo.lt {fb hb : Nat} {E : TE} {w : World} (h : HNo fb hb E w) : hb < w.heap.size := by
  rcases Nat.lt_or_ge hb w.heap.size with h' | h'
  · exact h'
  · have := h.no
    rw [Array.getElem?_eq_none h'] at this
    cases this
theorem HNo.keep {fb hb : Nat} {E : TE} {w w' : World} {bs : List Nat} (h : HNo fb hb E w) (ha : Apart bs w w') (hn : hb ∉ bs) : HNo fb hb E w' := ⟨(ha.block hb h.lt hn).trans h.no, h.ne⟩
theorem HNo.below {fb hb : Nat} {E : TE} {w w' : World} (h : HNo fb hb E w) (ha : Below w.heap.size w w') : HNo fb hb E w' := h.keep (Apart.of_below (bs := []) ha) (by simp)
theorem HNo.turns {fb hb : Nat} {E : TE} {w w' : World} (h : HNo fb hb E w) (ha : E.Turns fb w w') : HNo fb hb E w' := h.keep ha (by have := h.ne; simp; omega)
theorem HNo.at {fb hb : Nat} {E : TE} {w : World} (h : HNo fb hb E w) (A : List Nat) (U R W : Nat -> Prop) (ku : Nat) : HNo fb hb (E.at A U R W ku) w := ⟨h.no, h.ne⟩
theorem mount_calls {w0 : World} {d g n i r dd : Nat} {mem : Nat -> Int} {writes : Int} {w : World} (h : Sys w0 d g n mem writes (-1) w) (hf : FmtN n i r dd) (hi : Idle 1 mem) (hw0 : w0.heap.size <= d /\ w0.heap.size <= g) :
    Calls Tryz.prog 98 #[ptr d, .int .i64 i, .int .i64 r] w fun e w' => ∃ jb cb mb ab tb fb hb, e = .returned (.tuple #[ptr fb, .nilIface]) /\ (teF w0 d g n jb cb mb ab tb i dd).Pl /\ (teF w0 d g n jb cb mb ab tb i dd).St mem writes [] w' /\ FsAt fb (teF w0 d g n jb cb mb ab tb i dd) r hb w' /\ FsAt.Far fb (teF w0 d g n jb cb mb ab tb i dd) /\ HNo fb hb (teF w0 d g n jb cb mb ab tb i dd) w' /\ (w.heap.size <= mb /\ w.heap.size <= fb) /\ Below w.heap.size w w' := by
  obtain ⟨hfo, hdt⟩ := hf.ok
  have hmm := @run_makeMap Tryz.prog
  have kL := laid_ok h i r hfo
  rw [hdt] at kL
  replace kL := hidden kL
  have kO := hidden (open_idle h (by decide) 1 87 ⟨by omega, by omega⟩ (by rw [need87]; have := hf.n1; omega) hi)
  have hlts := h.disk.lt
  have hw0s := h.below.size
  replace h := hidden h
  have hfh := hidden hf
  obtain ⟨h1, h2, h3, h4, h5, h6, h7, h8⟩ := hf
  replace h8 := hidden h8
  have hfr : ((n : Nat) : Int) - (dd : Int) = ((n - dd : Nat) : Int) := by have := h8.out; omega
  have hta : ((n - dd : Nat) : Int) - (i : Int) = ((n - dd - i : Nat) : Int) := by have := h8.out; omega
  have hddn : dd <= n := by have := h8.out; omega
  go_enter Tryz.func98, Tryz.ntmps98
  go_wp2_with fail
  refine (kL.out).mono ?_
  rintro ev w1 ⟨rfl, hw1⟩
  subst w1
  go_wp2_with fail
  refine (kO.out).mono ?_
  rintro ev w2 ⟨jb, rfl, hJ, hjb, hB2⟩
  have hS2 := h.out.more hB2
  have kBl := hidden (fun (wx : World) (hx : Below w2.heap.size w2 wx) => sys_blocks (hS2.more hx))
  have kN := hidden (cnew_calls hS2 hJ ⟨by omega, by omega⟩ (n : Int) (by omega))
  have hJl := hJ.lt
  have hs2 := hB2.size
  replace hB2 := hidden hB2
  clear hS2 hJ kL kO
  go_wp2_with fail
  refine (kBl.out _ (Below.refl _ _)).mono ?_
  rintro ev w3 ⟨rfl, hw3⟩
  subst w3
  go_wp2_with fail
  refine (kN.out).mono ?_
  rintro ev w3 ⟨rfl, hC, hB3⟩
  have hlc := hC.lts
  have hs3 := hB3.size
  have kB3 := hidden (kBl.out _ hB3)
  have kNe := hidden (need_calls 87 (by omega) (by omega) w3)
  rw [need87] at kNe
  have kA := hidden (anew_calls (w2.heap.size + 1) 96 (n - dd) dd (by omega) (by omega) (by omega) w3)
  replace hC := hidden hC
  have hB03 := hidden (hB2.out.trans (hB3.mono hB2.out.size))
  clear hB3 kBl kN
  go_wp2_with fail
  refine (kB3.out).mono ?_
  rintro ev w4 ⟨rfl, hw4⟩
  subst w4
  go_wp2_with fail
  refine (kNe.out).mono ?_
  rintro ev w4 ⟨rfl, hw4⟩
  subst w4
  go_wp2_with fail
  refine (kA.out).mono ?_
  rintro ev w4 ⟨rfl, hMp, hB4⟩
  have hs4 := hB4.size
  have hm4 := hMp.lt
  have kI := hidden (inew_calls (w2.heap.size + 1) w3.heap.size (n - dd - i) i (by omega) (by omega) (by omega) w4)
  have hB04 := hidden (hB03.out.trans (hB4.mono hB03.out.size))
  have hC4 := hidden (hC.out.more hB4)
  replace hMp := hidden hMp
  clear hB4 kA kNe kB3 hB03 hC
  go_wp2_with fail
  refine (kI.out).mono ?_
  rintro ev w5 ⟨rfl, hTb, hB5⟩
  have hs5 := hB5.size
  have ht5 := hTb.lt
  obtain ⟨w6, hw6, hB6⟩ : ∃ w6, w5.alloc (.map #[] 0) = w6 /\ Below w5.heap.size w5 w6 := ⟨_, rfl, (Below.refl _ _).alloc (Nat.le_refl _) _⟩
  have hs6 : w6.heap.size = w5.heap.size + 1 := by rw [<- hw6]; simp
  have hm6 : w6.heap[w5.heap.size]? = some (.map #[] 0) := by rw [<- hw6]; exact heap_alloc_new _ _
  obtain ⟨w7, hw7, hB7⟩ : ∃ w7, w6.alloc (.cells #[ptr (w2.heap.size + 1), ptr w3.heap.size, ptr w4.heap.size, .int .i64 i, .int .i64 r, .int .i64 dd, .map (some w5.heap.size), .bool false] 97) = w7 /\ Below w6.heap.size w6 w7 := ⟨_, rfl, (Below.refl _ _).alloc (Nat.le_refl _) _⟩
  have hB57 := hB6.trans (hB7.mono hB6.size)
  have hB47 := hB5.trans (hB57.mono hB5.size)
  have hE := hidden (show (teF w0 d g n jb (w2.heap.size + 1) w2.heap.size w3.heap.size w4.heap.size i dd).Pl /\ (teF w0 d g n jb (w2.heap.size + 1) w2.heap.size w3.heap.size w4.heap.size i dd).St mem writes [] w7 /\ FsAt w6.heap.size (teF w0 d g n jb (w2.heap.size + 1) w2.heap.size w3.heap.size w4.heap.size i dd) r w5.heap.size w7 /\ FsAt.Far w6.heap.size (teF w0 d g n jb (w2.heap.size + 1) w2.heap.size w3.heap.size w4.heap.size i dd) /\ HNo w6.heap.size w5.heap.size (teF w0 d g n jb (w2.heap.size + 1) w2.heap.size w3.heap.size w4.heap.size i dd) w7 /\ (w.heap.size <= w2.heap.size /\ w.heap.size <= w6.heap.size) /\ Below w.heap.size w w7 from by
    refine ⟨teF_pl hfh.out (by omega) (by omega) (by omega), ⟨hC4.out.more hB47, hMp.out.below hB47, hTb.below hB57, fun p hp => by cases hp⟩, ?_, ?_, ⟨?_, ?_⟩, by omega, hB04.out.trans (hB47.mono hB04.out.size)⟩
    · rw [<- hw7]
      exact ⟨by simp; rfl, by simp; rfl, by simp; rfl, by simp; rfl, by simp, by simp; rfl, by simp, by simp, by simp⟩
    · show w6.heap.size ≠ w2.heap.size /\ w6.heap.size ≠ d /\ w6.heap.size ≠ g /\ w6.heap.size ≠ jb /\ w6.heap.size ≠ w2.heap.size + 1 /\ w6.heap.size ≠ w3.heap.size /\ w6.heap.size ≠ w4.heap.size /\ w0.heap.size <= w6.heap.size
      omega
    · exact (hB7.block _ (by omega)).trans hm6
    · show w5.heap.size ≠ d /\ w5.heap.size ≠ g /\ w5.heap.size ≠ w2.heap.size /\ w5.heap.size ≠ w6.heap.size /\ w0.heap.size <= w5.heap.size
      omega)
  clear hTb hB5 hB6 hB7 hB57 hB47 hC4 hMp hB04 kI
  go_wp2
  go_ret2
  exact ⟨jb, _, _, _, _, w6.heap.size, w5.heap.size, by simp [hs6], hE.out⟩
def sFormat : ByteArray := ⟨#[102, 111, 114, 109, 97, 116]⟩
def rootK : Nat -> Nat := upd (fun _ => 0) 1 2
section
variable {fb rs hb : Nat} {E : TE} {w w' : World} {K : Nat -> Nat} {D : Nat -> List Int} {T : Nat -> List Rec} {f u lim : Nat}
theorem root_tree {tn : Nat} : TreeOk tn rootK (fun _ => []) (fun _ => []) := by
  refine ⟨rfl, fun p _ _ _ => ⟨rfl, ⟨fun r hr => (by cases hr), List.nodup_nil⟩⟩, fun p _ _ _ r hr => by cases hr⟩
theorem ent_plant1 : ∀ (args : Array Value) (w : World), (callFunc 160 args).run Tryz.prog w = .ok (.enter 160 args) w := enters_of Tryz.func160 (by kernel_rfl) rfl
theorem plant1_ok {b0 : Nat} (g0 : w.cell? ⟨b0, 0, none⟩ = some (ptr fb)) (hF : FsAt fb E rs hb w) (h : S8 E (fun _ => 0) D f u lim w) (ok : E.Ok) (h2 : 1 <= E.tn) (hR : E.R 1) :
    Calls Tryz.prog 160 #[ptr b0] w fun e w' => e = .returned .nilIface /\ S8 E rootK D f u lim w' /\ Apart [E.mb] w w' := by
  have c2 := hF.c2
  have hlt := hF.lt
  have hl0 := lt_of_cell (a := ⟨b0, 0, none⟩) g0
  have kM := hidden (S8.make ok h 2 (Or.inr rfl) 1 (Nat.le_refl _) h2 rfl (fun i a b => by omega) hR)
  clear hF h ok
  go_enter Tryz.func160, Tryz.ntmps160
  go_wp2_with fail
  refine (kM.out).mono ?_
  rintro ev w1 ⟨rfl, hS, hA⟩
  have hE := hidden (And.intro hS hA)
  clear hS hA kM
  go_wp2
  go_ret
  exact ⟨rfl, hE.out⟩
theorem plant_ok (hF : FsAt fb E rs hb w) (hs : S8z E.rest (fun _ => 0) (fun _ => []) f 0 lim w) (hpl : E.Pl) (hfar : FsAt.Far fb E) (hlim : lim <= 300000000) :
    Calls Tryz.prog 106 #[ptr fb] w fun e w' => e = .returned .nilIface /\ Fsz fb rs hb E.rest rootK (fun _ => []) (fun _ => []) f (lim + 1000) w' /\ E.Turns fb w w' := by
  have hmf : ∀ (fn : Fn) (first cap : Array Value) (w : World), (Instr.makeFunc fn first cap).run Tryz.prog w = .ok (.func fn first cap) w := fun _ _ _ _ => rfl
  obtain ⟨A, U, ku, ok', -, hS'⟩ := hs.re (show E.rest.Pl from hpl.at _ _ _ _ _) [1] [] (fun x hx => by simp at hx; subst hx; exact ⟨Nat.le_refl _, hpl.tn1⟩) (fun x hx => by cases hx) 0 (Nat.zero_le _) (by show 2 + 1 + 0 + 0 <= 87; omega)
  obtain ⟨w1, hw1, hB1, c1⟩ : ∃ w1, w.alloc (.cells #[ptr fb] 31) = w1 /\ Below w.heap.size w w1 /\ w1.cell? ⟨w.heap.size, 0, none⟩ = some (ptr fb) := ⟨_, rfl, (Below.refl _ _).alloc (Nat.le_refl _) _, by simp⟩
  have hl1 := lt_of_cell (a := ⟨w.heap.size, 0, none⟩) c1
  have hF' : FsAt fb (E.rest.at A U (· ∈ [1]) (· ∈ ([] : List Nat)) ku) rs hb w1 := (hF.below hB1).at _ _ _ _ _
  have kP := plant1_ok c1 hF' ((hS'.more hB1).to) ok' hpl.tn1 (show 1 ∈ [1] by simp)
  have kS := hidden ((step_ok (P := fun wz => Apart [E.mb] w1 wz) (K := rootK) (D := fun _ => []) (f := f) (u := 0) (lim := lim) ent_plant1 hF' hfar ok' hpl.far hpl.live (by show 1 <= E.most /\ E.most <= 200; rw [hpl.most]; omega) hlim (kP.mono (R' := fun e wz => e = .returned .nilIface /\ Apart [E.mb] w1 wz /\ FsAt fb (E.rest.at A U (· ∈ [1]) (· ∈ ([] : List Nat)) ku) rs hb wz /\ S8 (E.rest.at A U (· ∈ [1]) (· ∈ ([] : List Nat)) ku) rootK (fun _ => []) f 0 lim wz) (by
    rintro e wz ⟨rfl, hS, hA⟩
    exact ⟨rfl, hA, hF'.keep hA (fun hm => hfar.1 (List.mem_singleton.1 hm)), hS⟩))))
  have hBh := hidden hB1
  have hpl' := hidden hpl
  have hfar' := hidden hfar
  clear hF hs hpl hfar ok' hS' hB1 hF' kP
  go_enter Tryz.func106, Tryz.ntmps106
  go_wp2_with fail
  refine (kS.out).mono ?_
  rintro ev w2 ⟨rfl, wz, hA1, hF2, hS2, hA2⟩
  have hE := hidden (show Fsz fb rs hb E.rest rootK (fun _ => []) (fun _ => []) f (lim + 1000) w2 /\ E.Turns fb w w2 from ⟨⟨⟨hF2.c0, hF2.c1, hF2.c2, hF2.c3, hF2.c4, hF2.c5, hF2.c6, hF2.c7, hF2.f7⟩, hS2.rest, hpl'.out.at _ _ _ _ _, hfar'.out, root_tree⟩, turns_of hBh.out hA1 hA2⟩)
  clear hA1 hF2 hS2 hA2 kS
  go_wp2
  go_ret
  exact ⟨rfl, hE.out⟩
end
theorem format_ok {w0 : World} {d g n i r dd : Nat} {mem : Nat -> Int} {writes : Int} {w : World} {lim : Nat} (h : Sys w0 d g n mem writes (-1) w) (hf : FmtN n i r dd) (hw0 : w0.heap.size <= d /\ w0.heap.size <= g) (hwr : 0 <= writes /\ writes <= lim) (hlim : lim <= 100000000) :
    Calls Tryz.prog 52 #[ptr d, .int .i64 i, .int .i64 r] w fun e w' => ∃ jb cb mb ab tb fb hb, e = .returned (.tuple #[ptr fb, .nilIface]) /\ Fsz fb r hb (teF w0 d g n jb cb mb ab tb i dd).rest rootK (fun _ => []) (fun _ => []) dd (lim + 5000 + 1) w' /\ HNo fb hb (teF w0 d g n jb cb mb ab tb i dd).rest w' /\ Apart [d, g] w w' := by
  obtain ⟨hfo, hdt⟩ := hf.ok
  have kL := laid_ok h i r hfo
  rw [hdt] at kL
  replace kL := hidden kL
  have kB := hidden (sys_blocks h)
  have hfh := hidden hf
  obtain ⟨h1, h2, h3, h4, h5, h6, h7, h8⟩ := hf
  replace h8 := hidden h8
  have hsub : ((n : Nat) : Int) - (dd : Int) = ((n - dd : Nat) : Int) := by have := h8.out; omega
  have hndd : n - dd <= 2048 := by omega
  have hndn : n - dd <= n := Nat.sub_le _ _
  have kW := hidden (fun (wx : World) (m : Nat -> Int) (wr : Int) (hS : Sys w0 d g n m wr (-1) wx) (j : Nat) (hj : j < n) (hx : 0 <= wr /\ wr < 1000000000) (b : Nat) (hb : BytesAt wx (.slice (some ⟨b, 0, none⟩) 128 128) (zeros 128)) => sys_write hS j hj _ _ hb (by simp [zeros]) (by decide) (by decide) hx)
  replace h := hidden h
  generalize hFR : n - dd = FR at *
  go_enter Tryz.func52, Tryz.ntmps52
  go_wp2_with fail
  refine (kL.out).mono ?_
  rintro ev w1 ⟨rfl, hw1⟩
  subst w1
  go_wp2_with fail
  refine (kB.out).mono ?_
  rintro ev w1 ⟨rfl, hw1⟩
  subst w1
  clear kL kB
  go_wp2_with fail
  go_loopg [33] (FR + 1) (fun gk q wr => ∃ j : Nat, j <= FR /\ gk = FR + 1 - j /\ q = .int .i64 j /\ Hid (∃ m, Sys w0 d g n m (writes + j) (-1) wr /\ (∀ a, a < j -> blockL m a = zeros 128) /\ Apart [d, g] w wr))
  case atStart => exact ⟨0, by omega, rfl, rfl, hidden ⟨mem, by simpa using h.out, fun a ha => absurd ha (Nat.not_lt_zero _), Apart.refl _ _⟩⟩
  case round =>
    obtain ⟨j, hj, hgk, rfl, hI⟩ := hrel
    replace hgk := hidden hgk
    by_cases hlt : j < FR
    · obtain ⟨m, i1, i2, i3⟩ := hI.out
      have hmk := make_bytes 128 (by omega) wr
      have hO := ownB_zero wr wr.heap.size (Nat.le_refl _) 128 (by omega)
      obtain ⟨w2, hw2, hB2, hO2⟩ : ∃ w2, wr.alloc (.cells (Array.replicate 128 (.int .u8 0)) 5) = w2 /\ Below wr.heap.size wr w2 /\ BytesAt w2 (.slice (some ⟨wr.heap.size, 0, none⟩) 128 128) (zeros 128) := ⟨_, rfl, (Below.refl _ _).alloc (Nat.le_refl _) _, hO.bytes⟩
      rw [hw2] at hmk
      replace hmk : (Instr.makeSlice 38 (.int .i64 128) (.int .i64 128)).run Tryz.prog wr = .ok (.slice (some ⟨wr.heap.size, 0, none⟩) 128 128) w2 := hmk
      have kWj := hidden (kW.out w2 m (writes + j) (i1.more hB2) j (by omega) (by omega) wr.heap.size hO2)
      have hi2 := hidden (And.intro i2 (i3.trans (Apart.of_below hB2)))
      have hjI : (j : Int) < (FR : Int) := by omega
      clear i1 i2 i3 hI hO hO2 hB2 hw2
      go_wp2_with fail
      refine (kWj.out).mono ?_
      rintro ev w3 ⟨rfl, hS3, hA3⟩
      have hE := hidden (show ∃ m, Sys w0 d g n m (writes + (j + 1 : Nat)) (-1) w3 /\ (∀ a, a < j + 1 -> blockL m a = zeros 128) /\ Apart [d, g] w w3 from ⟨_, by rw [show writes + ((j + 1 : Nat) : Int) = writes + j + 1 by omega]; exact hS3, fun a ha => by
        by_cases e : a = j
        · subst e; exact memW_same _ _ (by simp [zeros]) _
        · rw [memW_other j a (by omega)]; exact hi2.out.1 a (by omega), hi2.out.2.trans hA3⟩)
      clear hS3 hA3 kWj hi2
      go_wp2
      go_roundg (FR + 1 - (j + 1))
      case measure => rw [hgk.out]; omega
      case rel => exact ⟨j + 1, hlt, rfl, by go_num, hE⟩
    · obtain rfl : j = FR := by omega
      obtain ⟨m, i1, i2, i3⟩ := hI.out
      have hn96 : 96 < j := by have := h8.out; omega
      have kM := hidden (mount_calls i1 hfh.out (i2 1 (by omega)) hw0)
      have hH := hidden (And.intro i2 i3)
      clear i1 i2 i3 hI
      go_wp2_with fail
      refine (kM.out).mono ?_
      rintro ev w2 ⟨jb, cb, mb, ab, tb, fb, hb, rfl, hpl, hst, hF, hfar, hno, hnew, hB2⟩
      have hz := s8z_new (lim := lim + 4000) hst (fun a ha => hH.out.1 a (by have : a < n - dd := ha; omega)) (fun q hq => by
        have hq' : q < dd := hq
        show homeA 96 q < n - dd
        have := h8.out
        unfold homeA
        omega) (fun id a b => by
        have b' : id <= i := b
        show n - dd - i + id - 1 < n - dd
        have := h8.out
        omega) (by show 1 < n - dd; omega) (by omega)
      have kP := hidden (plant_ok hF hz hpl hfar (by omega))
      have hH2 := hidden (And.intro hno (And.intro hpl (And.intro hfar (And.intro (hH.out.2.trans (Apart.of_below hB2)) (show w.heap.size <= mb /\ w.heap.size <= fb from by have := hH.out.2.size; omega)))))
      clear hz hpl hst hF hfar hno hB2 kM hnew
      go_wp2_with fail
      refine (kP.out).mono ?_
      rintro ev w3 ⟨rfl, hFz, hT3⟩
      have kH := hidden (fhead_calls (i : Int) (r : Int) (by omega) (by omega) w3)
      have hno3 := hH2.out.1.turns hT3
      have hA3 : Apart [d, g] w w3 := by
        obtain ⟨-, -, -, hA2, hn1, hn2⟩ := hH2.out
        refine ⟨hT3.os.trans hA2.os, hT3.tape.trans hA2.tape, hT3.output.trans hA2.output, Nat.le_trans hA2.size hT3.size, fun k hk hn => (hT3.block k (by have := hA2.size; omega) (fun hm => ?_)).trans (hA2.block k hk hn)⟩
        have hm2 : k ∈ [d, g, mb, fb] := hm
        have hm' : k = d \/ k = g \/ k = mb \/ k = fb := by simpa using hm2
        simp at hn
        omega
      have hH3 := hidden (And.intro hFz (And.intro hno3 (And.intro hH2.out.2.1 (And.intro hH2.out.2.2.1 hA3))))
      clear hFz hT3 kP hno3 hA3 hH2
      go_wp2_with fail
      refine (kH.out).mono ?_
      rintro ev w4 ⟨rfl, hO4, hB4⟩
      obtain ⟨q1, q2, q3, q4, q5⟩ := hH3.out
      have kX := S8z.past (E := (teF w0 d g n jb cb mb ab tb i dd).rest) q1.pl (q1.s.more hB4) (Nat.zero_le _) (i := 0) (by show 0 < n; omega) (fun hu => by
        rcases hu with ⟨x, x1, x2⟩ | ⟨x, x1, x2, x3⟩ | ⟨x, x1, x2⟩
        · have x2' : 0 = homeA 96 x := x2
          unfold homeA at x2'
          omega
        · have x3' : 0 = n - dd - i + x - 1 := x3
          have := h8.out
          omega
        · have x2' : 0 = n - dd + x := x2
          have := h8.out
          omega) (by show 0 ≠ 1; omega) hO4.bytes (headK_len _ _) (by omega)
      have kX' : Calls Tryz.prog 105 #[ptr d, .int .i64 0, .slice (some ⟨w3.heap.size, 0, none⟩) 128 128] w4 _ := kX
      replace kX' := hidden kX'
      replace hB4 := hidden hB4
      clear q1 q2 q3 q4 q5 kX hO4 kH
      go_wp2_with fail
      refine (kX'.out).mono ?_
      rintro ev w5 ⟨rfl, hS5, hA5⟩
      have hE := hidden (show Fsz fb r hb (teF w0 d g n jb cb mb ab tb i dd).rest rootK (fun _ => []) (fun _ => []) dd (lim + 5000 + 1) w5 /\ HNo fb hb (teF w0 d g n jb cb mb ab tb i dd).rest w5 /\ Apart [d, g] w w5 from by
        obtain ⟨q1, q2, q3, q4, q5⟩ := hH3.out
        have hA5' : Apart [d, g] w4 w5 := hA5
        have hf4 : fb ≠ mb /\ fb ≠ d /\ fb ≠ g /\ fb ≠ jb /\ fb ≠ cb /\ fb ≠ ab /\ fb ≠ tb /\ w0.heap.size <= fb := q4
        have hq2 : hb ≠ d /\ hb ≠ g /\ hb ≠ mb /\ hb ≠ fb /\ w0.heap.size <= hb := q2.ne
        refine ⟨⟨(q1.at_.below hB4.out).keep hA5' (by simp; omega), hS5, q1.pl, q1.far, q1.tree⟩, ?_, (q5.trans (Apart.of_below hB4.out)).trans hA5'⟩
        exact ⟨((q2.below hB4.out).keep hA5' (by simp; omega)).no, q2.ne⟩)
      clear hS5 hA5 hH3 kX' hB4
      go_wp2
      go_ret2
      exact ⟨jb, cb, mb, ab, tb, fb, hb, rfl, hE.out⟩
def text11 (n : Int) (long : Nat) : List Int := (List.range long).map fun (i : Nat) => (n + 5 * (i : Int)) % 256
theorem text11_len (n : Int) (long : Nat) : (text11 n long).length = long := by simp [text11]
theorem text11_range (n : Int) (long : Nat) : ∀ z ∈ text11 n long, 0 <= z /\ z <= 255 := by
  intro z hz
  obtain ⟨i, -, rfl⟩ := List.mem_map.1 hz
  omega
theorem text11_succ (n : Int) (j : Nat) : text11 n (j + 1) = text11 n j ++ [(n + 5 * (j : Int)) % 256] := by simp [text11, List.range_succ]
theorem Text11_calls (n : Int) (long : Nat) (hl : long <= 100000) (w : World) :
    Calls Tryz.prog 7 #[.int .i64 n, .int .i64 long] w fun e w' => e = .returned (.string (ofBytes (text11 n long))) /\ Below w.heap.size w w' := by
  have hmk := make_bytes long (by omega) w
  have hO := hidden (ownB_zero w w.heap.size (Nat.le_refl _) long (by omega))
  have hB0 : Hid (Below w.heap.size w (w.alloc (.cells (Array.replicate long (.int .u8 0)) 5))) := hidden ((Below.refl _ _).alloc (Nat.le_refl _) _)
  generalize w.alloc (.cells (Array.replicate long (.int .u8 0)) 5) = wa at *
  go_enter Tryz.func7, Tryz.ntmps7
  go_wp2_with fail
  go_loopg [11] (long + 1) (fun gk q wr => ∃ j : Nat, j <= long /\ gk = long + 1 - j /\ q = .int .i64 j /\ Hid (OwnB w.heap.size wr w.heap.size long long (layL (List.replicate long 0) 0 (text11 n j)) /\ Below w.heap.size w wr))
  case atStart => exact ⟨0, by omega, rfl, rfl, hidden ⟨by rw [show text11 n 0 = [] from rfl, layL_nil]; exact hO.out, hB0.out⟩⟩
  case round =>
    obtain ⟨j, hj, hgk, rfl, hI⟩ := hrel
    replace hgk := hidden hgk
    clear hmk
    by_cases hlt : j < long
    · have hcl := hI.out.1.cell j hlt
      have hfz := hI.out.1.row.frozenAt j
      have hE := hidden (fun (y : Int) (hy : y = ((n + 5 * (j : Int)) % 256)) => show OwnB w.heap.size (wr.setCell ⟨w.heap.size, j, none⟩ (.int .u8 y)) w.heap.size long long (layL (List.replicate long 0) 0 (text11 n (j + 1))) /\ Below w.heap.size w (wr.setCell ⟨w.heap.size, j, none⟩ (.int .u8 y)) from by
        subst hy
        have h1 := hI.out.1.stored j ((n + 5 * (j : Int)) % 256) (by omega)
        have h2 := layL_set (List.replicate long 0) (text11 n j) 0 ((n + 5 * (j : Int)) % 256) (by rw [text11_len, List.length_replicate]; omega)
        rw [text11_len, Nat.zero_add] at h2
        rw [h2, <- text11_succ] at h1
        exact And.intro h1 (hI.out.2.setCell (p := ⟨w.heap.size, j, none⟩) (Nat.le_refl _) (.int .u8 ((n + 5 * (j : Int)) % 256))))
      have hjb : j < 100000 := by omega
      clear hI
      go_wp2
      go_roundg (long + 1 - (j + 1))
      case measure => rw [hgk.out]; omega
      case rel => exact ⟨j + 1, by omega, rfl, by go_num, hidden (hE.out _ (by unfold wrap64; omega))⟩
    · obtain rfl : j = long := by omega
      have hfull : layL (List.replicate j (0 : Int)) 0 (text11 n j) = text11 n j := by
        unfold layL
        rw [text11_len, List.drop_of_length_le (by rw [List.length_replicate]; omega)]
        simp
      rw [hfull] at hI
      have hcv := conv_bytes _ _ _ hI.out.1.bytes
      obtain ⟨TX, hTX⟩ : ∃ TX, TX = ofBytes (text11 n j) := ⟨_, rfl⟩
      rw [<- hTX] at hcv
      replace hTX := hidden hTX
      have hE := hidden hI.out.2
      clear hI
      go_wp2
      go_ret
      exact ⟨by rw [<- hTX.out]; rfl, hE.out⟩
theorem fFormat_ok {w0 : World} {d g n i r dd : Nat} {mem : Nat -> Int} {writes : Int} {w : World} {lim : Nat} (h : Sys w0 d g n mem writes (-1) w) (hf : FmtN n i r dd) (hw0 : w0.heap.size <= d /\ w0.heap.size <= g) (hwr : 0 <= writes /\ writes <= lim) (hlim : lim <= 100000000) :
    Calls Tryz.prog 30 #[ptr d, .int .i64 i, .int .i64 r] w fun e w' => ∃ jb cb mb ab tb fb hb, e = .returned (.tuple #[ptr fb, .nilIface]) /\ Fsz fb r hb (teF w0 d g n jb cb mb ab tb i dd).rest rootK (fun _ => []) (fun _ => []) dd (lim + 5000 + 1) w' /\ HNo fb hb (teF w0 d g n jb cb mb ab tb i dd).rest w' /\ Apart [d, g] w w' := by
  have k := hidden (format_ok h hf hw0 hwr hlim)
  have kW := hidden (fun (wx : World) => wrap_nil sFormat ⟨#[]⟩ wx)
  unfold sFormat at kW
  clear h hf
  go_enter Tryz.func30, Tryz.ntmps30
  go_wp2_with fail
  refine (k.out).mono ?_
  rintro ev w1 ⟨jb, cb, mb, ab, tb, fb, hb, rfl, hQ⟩
  replace hQ := hidden hQ
  go_wp2_with fail
  refine (kW.out _).mono ?_
  rintro ev w2 ⟨rfl, hw2⟩
  subst w2
  go_wp2
  go_ret2
  exact ⟨jb, cb, mb, ab, tb, fb, hb, rfl, hQ.out⟩
theorem Tryz.infoHandle : (Tryz.prog.info? 365).map (fun i => (i.zero, i.size, i.bytes)) = some (some (.agg #[.int .i64 0, .int .i64 0, .int .i64 0]), 3, 24) := by kernel_rfl
theorem make_handles (w : World) : ∃ o, (Instr.makeSlice 88 (.int .i64 16) (.int .i64 16)).run Tryz.prog w = .ok (.slice (some ⟨w.heap.size, 0, none⟩) 16 16) (w.alloc o) := by
  obtain ⟨i0, hi, hz0, hz1, hz2⟩ := info_parts3 Tryz.infoHandle
  have h := run_make (P := Tryz.prog) (w := w) 88 365 i0 (.agg #[.int .i64 0, .int .i64 0, .int .i64 0]) Tryz.underlying88 hi hz0 .i64 .i64 16 16 (by omega) (by omega) (by rw [hz2]; omega) (by omega)
  exact ⟨_, h⟩
theorem refFormat_ok {n i r dd : Nat} (hf : FmtN n i r dd) (w : World) :
    Calls Tryz.prog 31 #[.int .i64 n, .int .i64 i, .int .i64 r] w fun e w' => ∃ b, e = .returned (ptr b) /\ Below w.heap.size w w' := by
  obtain ⟨hfo, hdt⟩ := hf.ok
  have kL := reflayout_ok (n : Int) (i : Int) hfo.1 w
  rw [hdt] at kL
  replace kL := hidden kL
  obtain ⟨h1, h2, h3, h4, h5, h6, h7, h8⟩ := hf
  have hdd : dd <= 2048 := by omega
  have g1 : ¬ (r : Int) < 0 := by omega
  have g2 : ¬ (64 : Int) < (r : Int) := by omega
  have g3 : ¬ (dd : Int) - 8 < (r : Int) := by omega
  clear h8 hfo hdt
  go_enter Tryz.func31, Tryz.ntmps31
  go_wp2_with fail
  refine (kL.out).mono ?_
  rintro ev w1 ⟨rfl, hw1⟩
  subst w1
  obtain ⟨o1, ho1⟩ : ∃ o1, o1 = Obj.cells #[.string ⟨#[47]⟩, .bool true, .string ⟨#[]⟩, .int .i64 1, .int .i64 0] 86 := ⟨_, rfl⟩
  obtain ⟨w2, hw2, hB2⟩ : ∃ w2, w.alloc o1 = w2 /\ Below w.heap.size w w2 := ⟨_, rfl, (Below.refl _ _).alloc (Nat.le_refl _) _⟩
  obtain ⟨o3, hmk⟩ := make_handles w2
  obtain ⟨w3, hw3, hB3⟩ : ∃ w3, w2.alloc o3 = w3 /\ Below w2.heap.size w2 w3 := ⟨_, rfl, (Below.refl _ _).alloc (Nat.le_refl _) _⟩
  rw [hw3] at hmk
  subst ho1
  have hE := hidden (fun (o : Obj) => show Below w.heap.size w (w3.alloc o) from (hB2.trans (hB3.mono hB2.size)).alloc (Nat.le_trans hB2.size hB3.size) o)
  clear hB2 hB3 hw3 kL
  go_wp2
  go_ret
  exact ⟨_, rfl, hE.out _⟩
structure New11 (n i r dd : Nat) (w : World) (E : TE) (fb hb xb : Nat) (w' : World) : Prop where
  z : Fsz fb r hb E rootK (fun _ => []) (fun _ => []) dd 6000 w'
  no : HNo fb hb E w'
  x1 : w'.cell? ⟨xb, 1, none⟩ = some (ptr fb)
  xn : xb ≠ E.d /\ xb ≠ E.g /\ xb ≠ E.mb /\ xb ≠ fb
  w0 : E.w0 = w
  tn : E.tn = i
  k : E.k = dd
  below : Below w.heap.size w w'
  x0 : w'.cell? ⟨xb, 0, none⟩ = some (ptr E.d)
  sys : ∃ (mem : Nat -> Int) (wr : Int), Sys w E.d E.g n mem wr (-1) w' /\ 0 <= wr /\ wr <= 6000
theorem New11_calls {n i r dd : Nat} (hf : FmtN n i r dd) (w : World) (hG : Ground w) :
    Calls Tryz.prog 6 #[.int .i64 n, .int .i64 i, .int .i64 r] w fun e w' => ∃ E fb hb xb, e = .returned (ptr xb) /\ New11 n i r dd w E fb hb xb w' := by
  have kN := hidden (sys_new n (by have := hf.n1; omega) hf.n2 w hG)
  have kR := hidden (fun (wx : World) => refFormat_ok hf wx)
  have hfh := hidden hf
  clear hf hG
  go_enter Tryz.func6, Tryz.ntmps6
  go_wp2_with fail
  refine (kN.out).mono ?_
  rintro ev w1 ⟨rfl, hS⟩
  have kF := hidden (fFormat_ok (lim := 0) hS hfh.out ⟨by omega, by omega⟩ ⟨by omega, by omega⟩ (by omega))
  have hs1 := hidden hS.below
  clear hS kN
  go_wp2_with fail
  refine (kF.out).mono ?_
  rintro ev w2 ⟨jb, cb, mb, ab, tb, fb, hb, rfl, hz, hno, hA⟩
  have hH := hidden (And.intro hz (And.intro hno hA))
  clear hz hno hA kF
  go_wp2_with fail
  refine (kR.out _).mono ?_
  rintro ev w3 ⟨wb, rfl, hB3⟩
  have hB4 : Below w3.heap.size w3 (w3.alloc (.cells #[ptr (w.heap.size + 1), ptr fb, ptr wb] 34)) := (Below.refl _ _).alloc (Nat.le_refl _) _
  have hB24 := hB3.trans (hB4.mono hB3.size)
  have hE := hidden (show New11 n i r dd w (teF w (w.heap.size + 1) w.heap.size n jb cb mb ab tb i dd).rest fb hb w3.heap.size (w3.alloc (.cells #[ptr (w.heap.size + 1), ptr fb, ptr wb] 34)) from by
    obtain ⟨q1, q2, q3⟩ := hH.out
    have hsz := hB3.size
    have hfl : fb < w2.heap.size := q1.at_.lt
    have hml := q1.s.to.lts
    have hml' : w.heap.size + 1 < w2.heap.size /\ w.heap.size < w2.heap.size /\ jb < w2.heap.size /\ cb < w2.heap.size /\ mb < w2.heap.size /\ ab < w2.heap.size /\ tb < w2.heap.size /\ w.heap.size <= w2.heap.size := hml
    refine ⟨?_, q2.below hB24, by simp, ?_, rfl, rfl, rfl, ?_, by simp; rfl, ?_⟩
    · have := q1.below hB24
      exact ⟨this.at_, (by
        obtain ⟨mem, wr, N, z1, z2, z3, z4, z5⟩ := this.s
        exact ⟨mem, wr, N, z1, z2, z3, ⟨z4.1, by omega⟩, z5⟩), this.pl, this.far, this.tree⟩
    · show w3.heap.size ≠ w.heap.size + 1 /\ w3.heap.size ≠ w.heap.size /\ w3.heap.size ≠ mb /\ w3.heap.size ≠ fb
      omega
    · exact (hs1.out.trans (q3.below (by simp) hs1.out.size)).trans (hB24.mono (by omega))
    · obtain ⟨mem, wr, N, z1, z2, z3, z4, z5⟩ := (q1.below hB24).s
      exact ⟨mem, wr, z1.c.sys, z4.1, by omega⟩)
  clear hB3 hB4 hB24 hH
  go_wp2
  go_ret
  exact ⟨_, fb, hb, _, rfl, hE.out⟩
end Go.Proofs.YtpofmiecjkghgaaGreatDoor
