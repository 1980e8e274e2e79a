/- The bytes of a record, as they are written. -/
import Derived.Test.YtpofmiecjkghgaaGreatDoorGDap
import Derived.Test.YtpofmiecjkghgaaGreatDoorGIap
import Derived.Lib.LazyBuf
import Derived.Deep.CutBlock
import Derived.Test.YtpofmiecjkghgaaGreatDoorGDbp
namespace Go.Proofs.YtpofmiecjkghgaaGreatDoor
open Go.RowKit Go.Extern.Stop Go.Stop Go.Extern
set_option maxRecDepth 100000
set_option maxHeartbeats 4000000
theorem layL_cons (zs ys : List Int) (off : Nat) (y : Int) (h : off + (ys.length + 1) <= zs.length) : layL (zs.set off y) (off + 1) ys = layL zs off (y :: ys) := by
  unfold layL
  rw [List.length_cons, show off + 1 + ys.length = off + (ys.length + 1) by omega, List.drop_set_of_lt (by omega), List.take_set, List.take_add_one, List.getElem?_eq_getElem (by omega)]
  have e : (List.take off zs ++ (some zs[off]).toList).set off y = List.take off zs ++ [y] := by
    rw [List.set_append_right _ _ (by rw [List.length_take]; omega), List.length_take, show off - min off zs.length = 0 by omega]
    rfl
  rw [e]
  simp
theorem OwnB.copied {base b n cap : Nat} : ∀ (ys : List Int) (off : Nat) (zs : List Int) (w : World), OwnB base w b n cap zs -> (∀ y ∈ ys, 0 <= y /\ y <= 255) -> off + ys.length <= n -> OwnB base (w.setCells b off (ys.map (Value.int .u8))) b n cap (layL zs off ys)
  | [], off, zs, w, h, _, hl => by
    rw [layL_nil]
    exact h
  | y :: ys, off, zs, w, h, hr, hl => by
    rw [List.length_cons] at hl
    have h1 := h.stored off y (hr y (by simp))
    have h2 := OwnB.copied ys (off + 1) _ _ h1 (fun z hz => hr z (by simp [hz])) (by omega)
    rw [layL_cons zs ys off y (by have := h.len; omega)] at h2
    exact h2
theorem below_cells {B b : Nat} (hb : B <= b) : ∀ (vs : List Value) (off : Nat) (w w' : World), Below B w w' -> Below B w (w'.setCells b off vs)
  | [], _, _, _, h => h
  | v :: vs, off, w, _, h => below_cells hb vs (off + 1) w _ (h.setCell (p := ⟨b, off, none⟩) hb v)
theorem bI_cells (s : List UInt8) : (mkB s).data.toList.map (fun x => Value.int .u8 (x.toNat : Int)) = (bI s).map (Value.int .u8) := by
  rw [mk_list]
  simp [bI]
theorem below_drewE (w : World) : Below w.heap.size w w.drew := ⟨rfl, rfl, rfl, Nat.le_refl _, fun _ _ => rfl⟩
def nameL (s : List UInt8) : List Int := layL ((List.replicate 32 (0 : Int)).set 0 (s.length : Nat)) 1 (bI s)
def wrK (s : List UInt8) (id k : Nat) : List Int := (nameL s).take (32 - k) ++ (idB id).drop (4 - k)
theorem nameL_len {s : List UInt8} (h : s.length <= 27) : (nameL s).length = 32 := by
  unfold nameL layL
  rw [List.length_append, List.length_append, List.length_take, List.length_drop, List.length_set, List.length_replicate, bI_len]
  omega
theorem wrK_zero {s : List UInt8} (h : s.length <= 27) (id : Nat) : wrK s id 0 = nameL s := by
  unfold wrK
  rw [List.take_of_length_le (by rw [nameL_len h]; omega), List.drop_of_length_le (by rw [idB_len]; omega), List.append_nil]
theorem wrK_four {s : List UInt8} (h : s.length <= 27) (id : Nat) : wrK s id 4 = recB ⟨s, id⟩ := by
  unfold wrK recB nameL layL
  rw [bI_len]
  have e0 : ((List.replicate 32 (0 : Int)).set 0 (s.length : Nat)) = ((s.length : Nat) : Int) :: List.replicate 31 0 := rfl
  rw [e0]
  have e1 : List.take 1 (((s.length : Nat) : Int) :: List.replicate 31 0) = [((s.length : Nat) : Int)] := rfl
  have e2 : List.drop (1 + s.length) (((s.length : Nat) : Int) :: List.replicate 31 (0 : Int)) = List.replicate (31 - s.length) 0 := by
    rw [Nat.add_comm, List.drop_succ_cons, List.drop_replicate]
  rw [e1, e2]
  have e3 : List.take (32 - 4) ([((s.length : Nat) : Int)] ++ bI s ++ List.replicate (31 - s.length) 0) = ((s.length : Nat) : Int) :: (bI s ++ List.replicate (27 - s.length) 0) := by
    rw [List.append_assoc, List.singleton_append, show (32 - 4 : Nat) = 27 + 1 from rfl, List.take_succ_cons, List.take_append, bI_len, List.take_of_length_le (by rw [bI_len]; omega), List.take_replicate, show min (27 - s.length) (31 - s.length) = 27 - s.length by omega]
  rw [e3]
  simp
theorem wrK_succ {s : List UInt8} (h : s.length <= 27) (id k : Nat) (hk : k < 4) (y : Int) (hy : (idB id)[3 - k]? = some y) : (wrK s id k).set (31 - k) y = wrK s id (k + 1) := by
  have hl := nameL_len h
  unfold wrK
  have e1 : (nameL s).take (32 - k) = (nameL s).take (31 - k) ++ [(nameL s)[31 - k]'(by omega)] := by
    rw [show 32 - k = (31 - k) + 1 by omega, List.take_add_one, List.getElem?_eq_getElem (by omega)]
    rfl
  have e2 : (idB id).drop (4 - (k + 1)) = y :: (idB id).drop (4 - k) := by
    have : 4 - (k + 1) < (idB id).length := by rw [idB_len]; omega
    rw [List.drop_eq_getElem_cons this]
    congr 1
    · have h3 : 3 - k = 4 - (k + 1) := by omega
      rw [h3, List.getElem?_eq_getElem this] at hy
      exact Option.some.inj hy
    · congr 1
      omega
  rw [e1, e2, List.append_assoc, List.set_append_right _ _ (by rw [List.length_take]; omega), List.length_take, show 31 - k - min (31 - k) (nameL s).length = 0 by omega, show 32 - (k + 1) = 31 - k by omega]
  rfl
theorem dwritten_calls (s : List UInt8) (id : Nat) (hs : s.length <= 27) (hid : id < 4294967296) (w : World) :
    Calls Tryz.prog 265 #[recV s (id : Nat)] w fun e w' => ∃ b, e = .returned (.slice (some ⟨b, 0, none⟩) 32 32) /\ OwnB w.heap.size w' b 32 32 (recB ⟨s, id⟩) /\ Below w.heap.size w w' := by
  obtain ⟨w1, hw1, hB1, c0, c1⟩ : ∃ w1, w.alloc (.cells #[.string (mkB s), .int .i64 (id : Nat)] 209) = w1 /\ Below w.heap.size w w1 /\ w1.cell? ⟨w.heap.size, 0, none⟩ = some (.string (mkB s)) /\ w1.cell? ⟨w.heap.size, 1, none⟩ = some (.int .i64 (id : Nat)) := ⟨_, rfl, (Below.refl _ _).alloc (Nat.le_refl _) _, by simp, by simp⟩
  have hlt1 : w.heap.size < w1.heap.size := lt_of_cell c0
  have hmk : (Instr.makeSlice 38 (.int .i64 32) (.int .i64 32)).run Tryz.prog w1 = _ := make_bytes 32 (by omega) w1
  have hO := hidden (ownB_zero w1 w.heap.size (by omega) 32 (by omega))
  obtain ⟨w2, hw2, hB2, hO2⟩ : ∃ w2, w1.alloc (.cells (Array.replicate 32 (.int .u8 0)) 5) = w2 /\ Below w1.heap.size w1 w2 /\ OwnB w.heap.size w2 w1.heap.size 32 32 (List.replicate 32 0) := ⟨_, rfl, (Below.refl _ _).alloc (Nat.le_refl _) _, hO.out⟩
  rw [hw2] at hmk
  have hB02 := hB1.trans (hB2.mono hB1.size)
  have d0 := (hB2.cell (p := ⟨w.heap.size, 0, none⟩) hlt1).trans c0
  have hlt2 : w1.heap.size < w2.heap.size := hO2.lt.2
  have z0 := hO2.cell 0 (by omega)
  have fz0 := hO2.row.frozenAt 0
  have hsz : (mkB s).size = s.length := mk_size s
  have hO3 := hO2.stored 0 ((s.length : Nat) : Int) (by omega)
  have hB3 := hB02.setCell (p := ⟨w1.heap.size, 0, none⟩) (by show w.heap.size <= w1.heap.size; omega) (.int .u8 ((s.length : Nat) : Int))
  have k3 : ∀ j, j < 2 -> (w2.setCell ⟨w1.heap.size, 0, none⟩ (.int .u8 ((s.length : Nat) : Int))).cell? ⟨w.heap.size, j, none⟩ = w1.cell? ⟨w.heap.size, j, none⟩ := fun j _ => by
    rw [World.cell?_setCell_other _ _ _ _ (by intro e; have := congrArg Addr.block e; simp at this; omega)]
    exact hB2.cell (p := ⟨w.heap.size, j, none⟩) hlt1
  have hwl : IntKind.u8.wrap ((s.length : Nat) : Int) = ((s.length : Nat) : Int) := by
    simp only [IntKind.wrap, IntKind.bits, IntKind.signed]
    simp
    omega
  have e3 := (k3 0 (by omega)).trans c0
  have e4 := (k3 1 (by omega)).trans c1
  obtain ⟨w3, hw3⟩ : ∃ w3, w2.setCell ⟨w1.heap.size, 0, none⟩ (.int .u8 ((s.length : Nat) : Int)) = w3 := ⟨_, rfl⟩
  rw [hw3] at hO3 hB3 e3 e4
  clear k3
  generalize hbk : w1.heap.size = bk at *
  replace hB3 := hidden hB3
  replace hO3 := hidden hO3
  go_enter Tryz.func265, Tryz.ntmps265
  go_upto_region 3 with fail
  have hzz : ∀ w, (Go.sizeOf 5).run Tryz.prog w = .ok 1 w := fun w => by
    obtain ⟨i0, hi, -, hz1, -⟩ := info_parts3 Tryz.infoByte
    simp [Go.sizeOf, typeInfo, hi, hz1]
  have hBd := hidden (below_drewE w3)
  have hcp := run_copy_string (P := Tryz.prog) w3.drew 38 9 3 5 bk 1 31 31 (mkB s) Tryz.underlying38 hzz (by rw [hsz]; omega) (fun j hj => by
    rw [hsz] at hj
    have := (hO3.out.below hBd.out).cell (1 + j) (by omega)
    rw [this]; rfl) (fun j _ => (hO3.out.below hBd.out).row.frozenAt (1 + j))
  rw [bI_cells, hsz] at hcp
  obtain ⟨w4, hw4, hO4, hB4, g4⟩ : ∃ w4, w3.drew.setCells bk 1 ((bI s).map (Value.int .u8)) = w4 /\ OwnB w.heap.size w4 bk 32 32 (nameL s) /\ Below w.heap.size w w4 /\ w4.cell? ⟨w.heap.size, 1, none⟩ = some (.int .i64 (id : Nat)) := by
    have hBw := hB3.out.trans (hBd.out.mono hB3.out.size)
    refine ⟨_, rfl, OwnB.copied (bI s) 1 _ _ (hO3.out.below hBd.out) (bI_range s) (by rw [bI_len]; omega), below_cells (by omega) _ _ _ _ hBw, ?_⟩
    rw [World.cell?_setCells_out bk _ 1 _ _ (fun e => by simp at e; omega)]
    exact (hBd.out.cell (p := ⟨w.heap.size, 1, none⟩) (lt_of_cell (a := ⟨w.heap.size, 1, none⟩) e4)).trans e4
  rw [hw4] at hcp
  have e3d := (hBd.out.cell (p := ⟨w.heap.size, 0, none⟩) (lt_of_cell (a := ⟨w.heap.size, 0, none⟩) e3)).trans e3
  replace hO4 := hidden hO4
  replace hB4 := hidden hB4
  clear hw4 hO3 hB3 hBd hzz
  go_region
  have hkw : ∀ k, k < 4 -> (wrK s id k).length = 32 := fun k hk => by
    unfold wrK
    rw [List.length_append, List.length_take, List.length_drop, nameL_len hs, idB_len]
    omega
  replace hkw := hidden hkw
  clear hO hO2 hcp hmk
  go_wp2_with fail
  go_loopg [17] 5 (fun gk q wr => ∃ k : Nat, k <= 4 /\ gk = 5 - k /\ q = .int .i64 k /\ Hid (OwnB w.heap.size wr bk 32 32 (wrK s id k) /\ Below w.heap.size w wr /\ wr.cell? ⟨w.heap.size, 1, none⟩ = some (.int .i64 (id : Nat))))
  case atStart => exact ⟨0, by omega, rfl, rfl, hidden ⟨by rw [wrK_zero hs]; exact hO4.out, hB4.out, g4⟩⟩
  case round =>
    obtain ⟨k, hk, hgk, rfl, hI⟩ := hrel
    replace hgk := hidden hgk
    clear g4 hO4 hB4
    by_cases hlt : k < 4
    · have cI := hI.out.2.2
      have hfz := hI.out.1.row.frozenAt (31 - k)
      have hcl := hI.out.1.cell (31 - k) (by omega)
      have hE := hidden (fun (y : Int) (hy : (idB id)[3 - k]? = some y) (hr : 0 <= y /\ y <= 255) => show OwnB w.heap.size (wr.setCell ⟨bk, 31 - k, none⟩ (.int .u8 y)) bk 32 32 (wrK s id (k + 1)) /\ Below w.heap.size w (wr.setCell ⟨bk, 31 - k, none⟩ (.int .u8 y)) /\ (wr.setCell ⟨bk, 31 - k, none⟩ (.int .u8 y)).cell? ⟨w.heap.size, 1, none⟩ = some (.int .i64 (id : Nat)) from by
        have h1 := hI.out.1.stored (31 - k) y hr
        rw [wrK_succ hs id k hlt y hy] at h1
        refine ⟨h1, hI.out.2.1.setCell (p := ⟨bk, 31 - k, none⟩) (by show w.heap.size <= bk; omega) _, ?_⟩
        rw [World.cell?_setCell_other _ _ _ _ (by intro e; have := congrArg Addr.block e; simp at this; omega)]
        exact hI.out.2.2)
      clear hI
      obtain rfl | rfl | rfl | rfl : k = 0 \/ k = 1 \/ k = 2 \/ k = 3 := by omega
      · go_wp2
        go_roundg (5 - (0 + 1))
        case measure => rw [hgk.out]; omega
        case rel => exact ⟨0 + 1, by omega, rfl, by go_num, hidden (hE.out _ (by show some _ = some _; congr 1) (by omega))⟩
      · go_wp2
        go_roundg (5 - (1 + 1))
        case measure => rw [hgk.out]; omega
        case rel => exact ⟨1 + 1, by omega, rfl, by go_num, hidden (hE.out _ (by show some _ = some _; congr 1) (by omega))⟩
      · go_wp2
        go_roundg (5 - (2 + 1))
        case measure => rw [hgk.out]; omega
        case rel => exact ⟨2 + 1, by omega, rfl, by go_num, hidden (hE.out _ (by show some _ = some _; congr 1) (by omega))⟩
      · go_wp2
        go_roundg (5 - (3 + 1))
        case measure => rw [hgk.out]; omega
        case rel => exact ⟨3 + 1, by omega, rfl, by go_num, hidden (hE.out _ (by show some _ = some _; congr 1; omega) (by omega))⟩
    · obtain rfl : k = 4 := by omega
      rw [wrK_four hs] at hI
      go_wp2
      go_ret
      exact ⟨bk, rfl, hI.out.1, hI.out.2.1⟩
theorem Tryz.infoRec : (Tryz.prog.info? 209).map (fun i => (i.zero, i.size, i.bytes)) = some (some (.agg #[.string ⟨#[]⟩, .int .i64 0]), 2, 24) := by kernel_rfl
theorem parseK_none {b : List Int} {k : Nat} (h : parseK b k = none) : ∀ m, k <= m -> parseK b m = none
  | 0, hm => by rw [show k = 0 by omega] at h; exact h
  | m + 1, hm => by
    rcases Nat.lt_or_ge k (m + 1) with hl | hl
    · unfold parseK
      rw [parseK_none h m (by omega)]
    · rw [show m + 1 = k by omega]; exact h
def ParseAns (b : List Int) (base : Nat) (e : Ending) (w : World) : Prop :=
  (∃ L v, parseB b = some L /\ e = .returned (.tuple #[v, .bool true]) /\ RecOwn 209 base w v L) \/ (parseB b = none /\ e = .returned (.tuple #[.slice none 0 0, .bool false]))
theorem bytes_take {w : World} {bb off L cap : Nat} {zs : List Int} (h : BytesAt w (.slice (some ⟨bb, off, none⟩) L cap) zs) (k : Nat) (hk : k <= L) : BytesAt w (.slice (some ⟨bb, off, none⟩) k cap) (zs.take k) := by
  have := bytes_sub h 0 k (by omega) hk
  simpa using this
theorem bytes_rest {w : World} {bb off L cap : Nat} {zs : List Int} (h : BytesAt w (.slice (some ⟨bb, off, none⟩) L cap) zs) (l : Nat) (hl : l <= L) (a : Option Addr) (ha : a = some ⟨bb, off + l, none⟩ \/ (l = L /\ a = some ⟨bb, off, none⟩)) : BytesAt w (.slice a (L - l) (cap - l)) (zs.drop l) := by
  have hL : zs.length = L := by obtain ⟨_, _, hv, -⟩ := h; exact ((Value.slice.inj hv).2.1).symm
  have h1 := bytes_sub h l L hl (Nat.le_refl _)
  rw [<- hL, List.take_length, hL] at h1
  rcases ha with rfl | ⟨rfl, rfl⟩
  · exact h1
  · have e : zs.drop l = [] := List.drop_of_length_le (by omega)
    rw [e, Nat.sub_self]
    exact ⟨_, _, rfl, by simp, by simp, fun e => (by cases e), fun h => absurd rfl h⟩
theorem dparse_calls {w : World} {a : Option Addr} {cap n : Nat} {b : List Int} (h : BytesAt w (.slice a n cap) b) (hlc : n <= cap) (hl : n <= 4000) :
    Calls Tryz.prog 203 #[.slice a n cap] w fun e w' => ParseAns b w.heap.size e w' /\ Below w.heap.size w w' := by
  have hbn : b.length = n := by obtain ⟨_, _, hv, -⟩ := h; exact ((Value.slice.inj hv).2.1).symm
  have hbr : Hid (∀ z ∈ b, 0 <= z /\ z <= 255) := hidden (by obtain ⟨_, _, _, hr, -⟩ := h; exact hr)
  by_cases hm : n % 32 = 0
  · obtain ⟨m, hmn⟩ : ∃ m, n = 32 * m := ⟨n / 32, by omega⟩
    have hpb : Hid (parseB b = parseK b m) := hidden (by
      unfold parseB
      rw [hbn, if_pos hm, show n / 32 = m by omega])
    have hm0 : (n : Int) % 32 = 0 := by omega
    replace h := hidden h
    replace hm := hidden hm
    replace hmn := hidden hmn
    go_enter Tryz.func203, Tryz.ntmps203
    go_wp2_with fail
    go_loopg [0, 4] (m + 1) (fun gk q l wr => ∃ (k L ck : Nat) (ak : Option Addr) (R : List Rec), k <= m /\ gk = m + 1 - k /\ L = n - 32 * k /\ ck = cap - 32 * k /\ q = .slice ak L ck /\ Hid (BytesAt w (.slice ak L ck) (b.drop (32 * k)) /\ parseK b k = some R /\ RecOwn 209 w.heap.size wr l R /\ R.length <= 200 /\ Below w.heap.size w wr))
    case atStart => exact ⟨0, n, cap, a, [], by omega, rfl, by omega, by omega, rfl, hidden ⟨by simpa using h.out, rfl, RecOwn.nil _ _ _, by simp, Below.refl _ _⟩⟩
    case round =>
      obtain ⟨k, L, ck, ak, R, hk, hgk, hL, hck, rfl, hI⟩ := hrel
      replace hm0 := hidden hm0
      replace hgk := hidden hgk
      replace hck := hidden hck
      have hL' := hidden hL
      have hn' := hmn.out
      by_cases hlt : k < m
      · have hL32 : 32 <= L := by omega
        have hc32 : 32 <= ck := by have := hck.out; omega
        have hLc : L <= ck := by have := hck.out; omega
        have hLp : (0 : Int) < (L : Int) := by omega
        clear hL hn'
        obtain ⟨bb, off, rfl⟩ : ∃ bb off, ak = some ⟨bb, off, none⟩ := by
          obtain ⟨a', c', hv, -, -, -, hc⟩ := hI.out.1
          obtain ⟨rfl, -, -⟩ := Value.slice.inj hv
          obtain ⟨b', o', e, -⟩ := hc (by intro e; have := congrArg List.length e; rw [List.length_drop, hbn, List.length_nil] at this; have := hmn.out; omega)
          exact ⟨b', o', e⟩
        obtain ⟨la, lc, rfl⟩ := hI.out.2.2.1.form
        have kR := hidden (dread_calls ((bytes_take hI.out.1 32 hL32).below hI.out.2.2.2.2) hc32)
        have h1i : (32 : Int) <= (ck : Int) := by omega
        go_wp2_with fail
        refine (kR.out).mono ?_
        rintro ev w2 ⟨r, ok, rfl, hA, hB2⟩
        obtain ⟨i1, i2, i3, i4, i5⟩ := hI.out
        have hb2 : Below w.heap.size w w2 := i5.trans (hB2.mono i5.size)
        have hA' := hA
        unfold ReadAns at hA'
        have hst : parseK b (k + 1) = match readB ((b.drop (32 * k)).take 32) with | none => none | some r => if R.any (fun q => q.s == r.s) then none else some (R ++ [r]) := by
          rw [parseK, i2]
          rfl
        cases hrb : readB ((b.drop (32 * k)).take 32) with
        | none =>
          rw [hrb] at hA' hst
          obtain ⟨rfl, s, x, rfl⟩ := hA'
          have hE := hidden (And.intro (parseK_none hst m hlt) hb2)
          have hBa : Hid (Below w2.heap.size w2 (w2.alloc (.cells #[.string (mkB s), .int .i64 x] 209))) := hidden ((Below.refl _ _).alloc (Nat.le_refl _) _)
          clear hA hst i1 i2 i3 i4 i5 hI kR hB2 hb2
          go_wp2
          go_ret2
          exact ⟨Or.inr ⟨by rw [hpb.out]; exact hE.out.1, rfl⟩, hE.out.2.trans (hBa.out.mono hE.out.2.size)⟩
        | some r =>
          rw [hrb] at hA' hst
          obtain ⟨rfl, rfl⟩ := hA'
          obtain ⟨w3, hw3, hB3, hR3⟩ : ∃ w3, w2.alloc (.cells #[.string (mkB r.s), .int .i64 (r.id : Nat)] 209) = w3 /\ Below w2.heap.size w2 w3 /\ RrAt w3 w2.heap.size (mkB r.s) (r.id : Nat) := ⟨_, rfl, (Below.refl _ _).alloc (Nat.le_refl _) _, ⟨by simp, by simp, by simp⟩⟩
          have hO3 := (i3.below hB2).below hB3
          have kP := hidden (place_calls hO3.at (by omega) r.s)
          have hb3 := hb2.trans (hB3.mono hb2.size)
          have hE := hidden (And.intro hO3 (And.intro hb3 (And.intro hR3 (And.intro i4 (And.intro i1 (And.intro i5 (And.intro hB2 hB3)))))))
          have c0 := hR3.c0
          replace hst := hidden hst
          clear hA i1 i2 i3 i4 i5 hI kR hB2 hb2 hB3 hb3 hO3 hR3
          go_wp2_with fail
          refine (kP.out).mono ?_
          rintro ev w4 ⟨x, rfl, hPl, hB4⟩
          by_cases hx : 0 <= x
          · have hno : parseK b (k + 1) = none := by
              rw [hst.out]
              rcases hPl with ⟨i, q, -, hq, hqs⟩ | ⟨rfl, -⟩
              · exact if_pos (List.any_eq_true.2 ⟨q, List.mem_of_getElem? hq, by simp [hqs]⟩)
              · exact absurd hx (by decide)
            have hF := hidden (And.intro (parseK_none hno m hlt) (hE.out.2.1.trans (hB4.mono hE.out.2.1.size)))
            clear hno hPl hB4 hE hst kP
            go_wp2
            go_ret2
            exact ⟨Or.inr ⟨by rw [hpb.out]; exact hF.out.1, rfl⟩, hF.out.2⟩
          · have hyes : parseK b (k + 1) = some (R ++ [r]) := by
              rw [hst.out]
              rcases hPl with ⟨i, q, rfl, -⟩ | ⟨-, hno⟩
              · exact absurd (Int.natCast_nonneg i) hx
              · refine if_neg ?_
                intro e
                obtain ⟨q, hq, hqs⟩ := List.any_eq_true.1 e
                exact hno q hq (eq_of_beq hqs)
            obtain ⟨e1, e2, e3, e4, e5, e6, e7, e8⟩ := hE.out
            have hR4 := e3.below hB4
            have hb4 := e2.trans (hB4.mono e2.size)
            obtain ⟨w5, hw5, hB5, hR5⟩ : ∃ w5, w4.alloc (.cells #[.string (mkB r.s), .int .i64 (r.id : Nat)] 209) = w5 /\ Below w4.heap.size w4 w5 /\ RrAt w5 w4.heap.size (mkB r.s) (r.id : Nat) := ⟨_, rfl, (Below.refl _ _).alloc (Nat.le_refl _) _, ⟨by simp, by simp, by simp⟩⟩
            have hb5 := hb4.trans (hB5.mono hb4.size)
            obtain ⟨v6, w6, hrun, hO6, hB6⟩ := ((e1.below hB4).below hB5).push Tryz.underlying205 Tryz.infoRec r ⟨w4.heap.size, 0, none⟩ 1 hR5.c0 hR5.c1 (by omega) hb5.size 205
            have hlen : R.length <= 200 := e4
            have hkb : (R ++ [r]).length = k + 1 := (parseK_good hbr.out (k + 1) _ (by rw [hbn]; have := hmn.out; omega) hyes).2
            have hd0 := hR4.c0
            have hd1 := hR4.c1
            have hmain : Hid (∀ ak', (ak' = some ⟨bb, off + 32, none⟩ \/ (32 = L /\ ak' = some ⟨bb, off, none⟩)) -> BytesAt w (.slice ak' (L - 32) (ck - 32)) (b.drop (32 * (k + 1)))) := hidden (fun ak' ha => by
              have hbase := bytes_rest e5 32 hL32 ak' ha
              rw [List.drop_drop, show 32 * k + 32 = 32 * (k + 1) by omega] at hbase
              exact hbase)
            obtain ⟨a6, c6, rfl⟩ := hO6.form
            have hF := hidden (And.intro hyes (And.intro hO6 (And.intro (show (R ++ [r]).length <= 200 by rw [hkb]; have := hmn.out; omega) (hb5.trans hB6))))
            clear hyes hPl hB4 hE hst kP e1 e2 e3 e4 e5 e6 e7 e8 hR4 hb4 hB5 hR5 hb5 hO6 hB6 hlen
            replace hkb := hidden hkb
            replace hrun := hidden hrun
            by_cases hq : ck = 32
            · have hq2 : L = 32 := by omega
              go_wp2_with (at_builtin; refine wpList_append_eq _ _ 205 rfl _ _ _ w6 rfl rfl hrun.out rfl ?_)
              go_roundg (m + 1 - (k + 1))
              case measure => rw [hgk.out]; omega
              case rel => exact ⟨k + 1, _, _, _, R ++ [r], hlt, rfl, by have := hL'.out; omega, by have := hck.out; omega, rfl, hidden ⟨by have h := hmain.out _ (Or.inr ⟨hq2.symm, rfl⟩); rw [hq2, hq] at h; exact h, by have h := hF.out; rw [List.length_append] at h ⊢; exact h⟩⟩
            · go_wp2_with (at_builtin; refine wpList_append_eq _ _ 205 rfl _ _ _ w6 rfl rfl hrun.out rfl ?_)
              go_roundg (m + 1 - (k + 1))
              case measure => rw [hgk.out]; omega
              case rel => exact ⟨k + 1, _, _, _, R ++ [r], hlt, rfl, by have := hL'.out; omega, by have := hck.out; omega, rfl, hidden ⟨hmain.out _ (Or.inl rfl), by have h := hF.out; rw [List.length_append] at h ⊢; exact h⟩⟩
      · obtain rfl : k = m := by omega
        have hLn : ¬ (0 : Int) < (L : Int) := by omega
        have hLm : ¬ 0 < L := by omega
        clear hL hn'
        obtain ⟨i1, i2, i3, i4, i5⟩ := hI.out
        obtain ⟨la, lc, rfl⟩ := i3.form
        have hE := hidden (And.intro i2 (And.intro i3 i5))
        clear i1 i2 i3 i4 i5 hI
        go_wp2
        go_ret2
        exact ⟨Or.inl ⟨R, _, by rw [hpb.out]; exact hE.out.1, rfl, hE.out.2.1⟩, hE.out.2.2⟩
  · have hm0 : ¬ (n : Int) % 32 = 0 := by omega
    go_enter Tryz.func203, Tryz.ntmps203
    go_wp2
    go_ret2
    refine ⟨Or.inr ⟨?_, rfl⟩, Below.refl _ _⟩
    unfold parseB
    rw [hbn, if_neg hm]
end Go.Proofs.YtpofmiecjkghgaaGreatDoor
