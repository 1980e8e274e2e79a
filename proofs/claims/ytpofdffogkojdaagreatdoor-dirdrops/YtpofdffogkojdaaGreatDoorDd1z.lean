/- DirDrops. -/
import Derived.Test.YtpofdffogkojdaaGreatDoorDn0z
import Derived.Test.YtpofdffogkojdaaGreatDoorAm9z
namespace Go.Proofs.YtpofdffogkojdaaGreatDoor
open Go.RowKit Go.Extern.Stop Go.Stop Go.Extern Go.Maps Go.Sort Go.Shelf
set_option maxRecDepth 100000

theorem DL.over {E : TE} {db : Nat} {L : List Rec} {w w' : World} (h : DL E db L w) {B : Nat} (hB : E.Ahead B) (hd : db < B) (hb : Below B w w') : DL E db L w' := ⟨h.b.over hB hd hb, h.g⟩
theorem DL.size {E : TE} {db : Nat} {L : List Rec} {w : World} (h : DL E db L w) (e : EOk E) :
    Calls Tryz.prog 32 #[ptr E.tb, .int .i64 1] w fun e w' => e = .returned (.tuple #[.int .i64 ((32 * L.length : Nat) : Int), .nilIface]) ∧ Below w.heap.size w w' := by
  have hl := recsL_len h.g.each
  obtain ⟨K, D, f, lim, h1, hk, hD, -⟩ := h.b.s
  have := S8.size e.ok h1 (id := 1) (Nat.le_refl _) (by have := e.tn; omega) (by omega)
  rw [hD, hl] at this
  exact this
/-- The names that are there are those that the row says. -/
def Says10 (n : Nat) (S : Nat → Bool) (L : List Rec) : Prop := (∀ q, q ∈ L ↔ ∃ i, i < n ∧ S i = true ∧ q = ⟨nmP 110 i, i + 1⟩)
/-- A directory, and a row of bools at block sb that says which names are there. -/
structure DD (E : TE) (db sb n : Nat) (S : Nat → Bool) (L : List Rec) (w : World) : Prop where
  d : DL E db L w
  s : SeenAt sb n S w
  y : Says10 n S L
  ah : E.Ahead sb ∧ db < sb
section
variable {E : TE} {db sb n : Nat} {S : Nat → Bool} {L : List Rec} {w w' : World}
theorem DD.more (h : DD E db sb n S L w) (h0 : 0 < n) (hb : Below w.heap.size w w') : DD E db sb n S L w' := ⟨h.d.more hb, h.s.below h0 hb, h.y, h.ah⟩
theorem says_put {k : Nat} (h : Says10 n S L) (hk : k < n) (hS : S k = false) : Says10 n (setS S k true) (L ++ [⟨nmP 110 k, k + 1⟩]) := by
  intro q
  rw [List.mem_append, List.mem_singleton, h q]
  unfold setS
  constructor
  · rintro (⟨i, hi, hs, rfl⟩ | rfl)
    · exact ⟨i, hi, by split; rfl; exact hs, rfl⟩
    · exact ⟨k, hk, by simp, rfl⟩
  · rintro ⟨i, hi, hs, rfl⟩
    by_cases e : i = k
    · subst e; exact Or.inr rfl
    · rw [if_neg e] at hs; exact Or.inl ⟨i, hi, hs, rfl⟩
theorem says_drop {k j : Nat} (h : Says10 n S L) (hn : n ≤ 100) (hg : GoodL L) (hk : k < n) (hj : L[j]? = some ⟨nmP 110 k, k + 1⟩) : Says10 n (setS S k false) (dropR L j) := by
  intro q
  rw [mem_dropR hg.nodup hj, h q]
  unfold setS
  constructor
  · rintro ⟨⟨i, hi, hs, rfl⟩, hne⟩
    have e : i ≠ k := fun e => hne (by rw [e])
    exact ⟨i, hi, by rw [if_neg e]; exact hs, rfl⟩
  · rintro ⟨i, hi, hs, rfl⟩
    by_cases e : i = k
    · rw [if_pos e] at hs; cases hs
    · rw [if_neg e] at hs
      exact ⟨⟨i, hi, hs, rfl⟩, fun e2 => e (nm_inj (by omega) (by omega) e2)⟩
theorem says_at {k : Nat} (h : Says10 n S L) (hk : k < n) (hS : S k = true) : ∃ j : Nat, L[j]? = some ⟨nmP 110 k, k + 1⟩ := by
  obtain ⟨j, hj⟩ := List.getElem?_of_mem ((h ⟨nmP 110 k, k + 1⟩).2 ⟨k, hk, hS, rfl⟩)
  exact ⟨j, hj⟩
theorem says_no {k : Nat} (h : Says10 n S L) (hn : n ≤ 100) (hk : k < n) (hS : S k = false) : ∀ q ∈ L, q.s ≠ nmP 110 k := by
  intro q hq e
  obtain ⟨i, hi, hs, rfl⟩ := (h q).1 hq
  have := nm_inj (c := 110) (i := i) (j := k) (by omega) (by omega) e
  rw [this, hS] at hs
  cases hs
end
theorem seen_zero (w : World) (N : Nat) : SeenAt w.heap.size N (fun _ => false) (w.alloc (.cells (madeCells (Value.bool false).cells (N * 1)) 4)) :=
  ⟨fun i hi => by rw [cells_new]; simp [madeCells, Value.cells, hi, Nat.mod_one], fun i _ => by simp⟩
theorem mod_next {n a d : Nat} (hd : 0 < d) : ((a + 1) % n + (d - 1)) % n = (a + d) % n := by
  rw [Nat.mod_add_mod]
  congr 1
  omega
set_option maxHeartbeats 8000000 in
theorem dirDrops_calls (zn zs : Int) (w : World) (hG : Ground w) :
    Calls Tryz.prog 5 #[.int .i64 zn, .int .i64 zs] w fun e w' => e = .returned (.bool true) ∧ Below w.heap.size w w' := by
  have kM := hidden (made10_calls w hG)
  have kA := hidden (fun (wx : World) (hx : Below w.heap.size w wx) => awake10_calls wx (hG.below hx))
  clear hG
  obtain ⟨m, hm, hm2⟩ : ∃ m : Nat, bits .and .i64 zn 255 = (m : Int) ∧ m ≤ 255 := by
    have : 0 ≤ bits .and .i64 zn 255 ∧ bits .and .i64 zn 255 ≤ 255 := and_low zn 255 (by omega)
    exact ⟨(bits .and .i64 zn 255).toNat, by have := this.1; omega, by omega⟩
  obtain ⟨st, hst, hst2⟩ : ∃ a : Nat, bits .and .i64 zs 255 = (a : Int) ∧ a ≤ 255 := by
    have : 0 ≤ bits .and .i64 zs 255 ∧ bits .and .i64 zs 255 ≤ 255 := and_low zs 255 (by omega)
    exact ⟨(bits .and .i64 zs 255).toNat, by have := this.1; omega, by omega⟩
  obtain ⟨n, hn, hn1, hn2⟩ : ∃ n : Nat, (m : Int) % 40 + 1 = (n : Int) ∧ 1 ≤ n ∧ n ≤ 40 := ⟨m % 40 + 1, by omega, by omega, by omega⟩
  have hmk := fun wx => make_bools n (by omega) wx
  go_enter Tryz.func5, Tryz.ntmps5
  go_wp2_with fail
  refine (kM.out).mono ?_
  rintro ev w1 ⟨jb, cb, mb, ab, tb, db, rfl, ok, -, h1, hdb, hB1⟩
  have hw0 : (te10 w jb cb mb ab tb).w0 = w := rfl
  have htb : (te10 w jb cb mb ab tb).tb = tb := rfl
  generalize te10 w jb cb mb ab tb = E at ok h1 hw0 htb
  replace hw0 := hidden hw0
  replace ok := hidden ok
  obtain ⟨w2, hw2, hD2⟩ : ∃ w2, w1.alloc (.cells (madeCells (Value.bool false).cells (n * 1)) 4) = w2 ∧ DD E db w1.heap.size n (fun _ => false) [] w2 :=
    ⟨_, rfl, h1.more ((Below.refl _ _).alloc (Nat.le_refl _) _), seen_zero w1 n, fun q => ⟨fun hq => (by cases hq), fun hq => (by obtain ⟨i, -, hs, -⟩ := hq; cases hs)⟩, h1.b.ahead, h1.b.lt⟩
  have hmk1 := hmk w1
  rw [hw2] at hmk1
  generalize w1.heap.size = sb at hD2 hmk1
  replace hD2 := hidden hD2
  replace htb := hidden htb
  clear kM h1 hdb hB1 hmk hw2
  go_wp2_with fail
  go_loopg [8] 41 (fun gk q wr => ∃ (i : Nat) (S : Nat → Bool) (L : List Rec), i ≤ n ∧ gk = 41 - i ∧ q = .int .i64 i ∧ Hid (DD E db sb n S L wr ∧ L.length = i ∧ (∀ j, i ≤ j → j < n → S j = false) ∧ (∀ j, j < i → S j = true)))
  case atStart => exact ⟨0, _, _, by omega, rfl, rfl, hidden ⟨hD2.out, rfl, fun _ _ _ => rfl, fun j hj => by omega⟩⟩
  case round =>
    obtain ⟨i, S, L, hi, hgk, rfl, hI⟩ := hrel
    replace hgk := hidden hgk
    clear hD2 hmk1
    by_cases hlt : i < n
    · have hlt' : (i : Int) < (n : Int) := by omega
      have kN := hidden (fun (wx : World) => num_calls (i : Int) ⟨by omega, by omega⟩ wx)
      have hcat := nm_join 110 i
      have hsz := nm_size (i := i) (by omega)
      have hok := (ok_fin ⟨i, by omega⟩).2
      generalize itoaB (i : Int) = TX at kN hcat hsz
      have hfree := hI.out.2.2.1 i (Nat.le_refl _) hlt
      have kP := hidden (show Calls Tryz.prog 25 #[ptr db, .string (mkB (nmP 110 i)), .int .i64 ((i : Int) + 1)] wr _ from by
        have := dPut_ok hI.out.1.d ok.out (nmP 110 i) (i + 1) hok (by omega) (by omega) (says_no hI.out.1.y (by omega) hlt hfree) (by rw [hI.out.2.1]; omega)
        rw [show ((i + 1 : Nat) : Int) = (i : Int) + 1 by omega] at this
        exact this)
      replace hm := hidden hm
      replace hn := hidden hn
      replace hst := hidden hst
      generalize hNM : nmP 110 i = NM at kP hcat
      replace hNM := hidden hNM
      replace hfree := hidden hfree
      replace hok := hidden hok
      go_wp2_with fail
      refine (kN.out _).mono ?_
      rintro ev w3 ⟨rfl, hw3⟩
      subst w3
      go_wp2_with fail
      refine (kP.out).mono ?_
      rintro ev w3 ⟨rfl, h3, hA3⟩
      have hmn : sb ∉ [E.mb] := by have := hI.out.1.ah.1; unfold TE.Ahead at this; simp; omega
      have hs3 := hI.out.1.s.keep (by omega) hA3 hmn
      have hc3 := hs3.cell i hlt
      have hf3 := hs3.free i hlt
      have hE := hidden (show DD E db sb n (setS S i true) (L ++ [⟨nmP 110 i, i + 1⟩]) (w3.setCell ⟨sb, i, none⟩ (.bool true)) from by
        rw [hNM.out]
        refine ⟨h3.over hI.out.1.ah.1 hI.out.1.ah.2 ((Below.refl sb w3).setCell (p := ⟨sb, i, none⟩) (Nat.le_refl _) _), hs3.put i hlt true, ?_, hI.out.1.ah⟩
        have := says_put hI.out.1.y hlt hfree.out
        rw [hNM.out] at this
        exact this)
      have hlen := hidden (show (L ++ [(⟨nmP 110 i, i + 1⟩ : Rec)]).length = i + 1 by rw [List.length_append, hI.out.2.1]; rfl)
      have hrest := hidden (And.intro (show ∀ j, i + 1 ≤ j → j < n → setS S i true j = false from fun j h1 h2 => by unfold setS; rw [if_neg (by omega)]; exact hI.out.2.2.1 j (by omega) h2) (show ∀ j, j < i + 1 → setS S i true j = true from fun j h1 => by
        unfold setS
        split
        · rfl
        · exact hI.out.2.2.2 j (by omega)))
      clear kP h3 hA3 hs3 hmn
      go_wp2
      go_roundg (41 - (i + 1))
      case measure => rw [hgk.out]; omega
      case rel => exact ⟨i + 1, _, _, hlt, rfl, by go_num, hidden ⟨hE.out, hlen.out, hrest.out⟩⟩
    · obtain rfl : i = n := by omega
      have hnn : ¬ (i : Int) < (i : Int) := by omega
      have hI2 := hidden (show ∃ S L, DD E db sb i S L wr ∧ L.length = i from ⟨_, _, hI.out.1, hI.out.2.1⟩)
      clear hI
      have hmz : ¬ (i : Int) = 0 := by omega
      replace hm := hidden hm
      replace hn := hidden hn
      go_wp2_with fail
      go_loopg [9, 10] i (fun gk q q2 wr => ∃ (at_ left : Nat) (S : Nat → Bool) (L : List Rec), at_ < i ∧ left ≤ i ∧ gk = left ∧ q = .int .i64 at_ ∧ q2 = .int .i64 left ∧ Hid (DD E db sb i S L wr ∧ L.length = left))
      case atStart =>
        obtain ⟨S, L, h1, h2⟩ := hI2.out
        exact ⟨0, i, S, L, by omega, Nat.le_refl _, rfl, rfl, rfl, hidden ⟨h1, h2⟩⟩
      case round =>
        obtain ⟨at_, left, S, L, hat, hle, hgk2, rfl, rfl, hJ⟩ := hrel
        replace hgk2 := hidden hgk2
        clear hI2
        by_cases hl0 : left = 0
        · subst hl0
          have hE0 := hJ.out.1.d.from hw0.out
          have kW := hidden (kA.out _ hE0)
          replace hE0 := hidden hE0
          clear hJ
          go_wp2_with fail
          refine (kW.out).mono ?_
          rintro ev w9 ⟨rfl, hB9⟩
          have hE := hidden (hE0.out.trans (hB9.mono hE0.out.size))
          clear hB9 kW
          go_wp2
          go_ret
          exact ⟨rfl, hE.out⟩
        · obtain ⟨l, rfl⟩ : ∃ l, left = l + 1 := ⟨left - 1, by omega⟩
          have hlp : (0 : Int) < ((l + 1 : Nat) : Int) := by omega
          obtain ⟨a1, ha1, ha1n⟩ : ∃ a1 : Nat, ((at_ : Int) + (st : Int)) % (i : Int) = (a1 : Int) ∧ a1 < i := ⟨(at_ + st) % i, by norm_cast, Nat.mod_lt _ (by omega)⟩
          obtain ⟨d, hd⟩ : ∃ d, S ((a1 + d) % i) = true := by
            obtain ⟨q, hq⟩ : ∃ q, L[0]? = some q := ⟨_, List.getElem?_eq_getElem (by rw [hJ.out.2]; omega)⟩
            obtain ⟨x, hx, hs, -⟩ := (hJ.out.1.y q).1 (List.mem_of_getElem? hq)
            refine ⟨x + i - a1, ?_⟩
            rw [show a1 + (x + i - a1) = x + i by omega, Nat.add_mod_right, Nat.mod_eq_of_lt hx]
            exact hs
          replace hd := hidden hd
          generalize hQL : ((l + 1 : Nat) : Int) = QL at *
          replace hQL := hidden hQL
          go_wp2_with fail
          go_loopg [9] d (fun gk q wr' => ∃ (a d' : Nat), a < i ∧ gk = d' ∧ q = .int .i64 a ∧ wr' = wr ∧ Hid (S ((a + d') % i) = true))
          case atStart => exact ⟨a1, d, ha1n, rfl, by rw [ha1], rfl, hd⟩
          case round =>
            obtain ⟨a, d', ha, hgk3, rfl, rfl, hd'⟩ := hrel
            replace hgk3 := hidden hgk3
            clear hd
            have hca := hJ.out.1.s.cell a ha
            have hfa := hJ.out.1.s.free a ha
            have hai : (a : Int) < (i : Int) := by omega
            cases hSa : S a with
            | false =>
              rw [hSa] at hca
              have hdp : 0 < d' := by
                rcases Nat.eq_zero_or_pos d' with e | e
                · exfalso
                  have := hd'.out
                  rw [e, Nat.add_zero, Nat.mod_eq_of_lt ha, hSa] at this
                  cases this
                · exact e
              obtain ⟨a2, ha2, ha2n, ha2e⟩ : ∃ a2 : Nat, ((a : Int) + 1) % (i : Int) = (a2 : Int) ∧ a2 < i ∧ a2 = (a + 1) % i := ⟨(a + 1) % i, by norm_cast, Nat.mod_lt _ (by omega), rfl⟩
              replace ha2e := hidden ha2e
              clear hfa
              go_wp2
              go_roundg (d' - 1)
              case measure => rw [hgk3.out]; omega
              case rel => exact ⟨a2, d' - 1, ha2n, rfl, by first | rfl | rw [ha2], rfl, hidden (by rw [ha2e.out, mod_next hdp]; exact hd'.out)⟩
            | true =>
              rw [hSa] at hca
              obtain ⟨j, hj⟩ := says_at hJ.out.1.y ha hSa
              have hBs : Below sb wr (wr.setCell ⟨sb, a, none⟩ (.bool false)) := (Below.refl sb wr).setCell (p := ⟨sb, a, none⟩) (Nat.le_refl _) _
              have hD2 := hJ.out.1.d.over hJ.out.1.ah.1 hJ.out.1.ah.2 hBs
              have hS2 := hJ.out.1.s.put a ha false
              have hY2 := hidden (says_drop hJ.out.1.y (by omega) hJ.out.1.d.g ha hj)
              have hjl : j < L.length := (List.getElem?_eq_some_iff.1 hj).1
              have hL2 := hidden (show (dropR L j).length = l by rw [dropR_len hjl, hJ.out.2]; omega)
              have hah := hidden hJ.out.1.ah
              have kN := hidden (fun (wx : World) => num_calls (a : Int) ⟨by omega, by omega⟩ wx)
              have hcat := nm_join 110 a
              have hsz := nm_size (i := a) (by omega)
              generalize itoaB (a : Int) = TX at kN hcat hsz
              have kD := hidden (dDrop_ok hD2 ok.out hj)
              obtain ⟨w2, hw2⟩ : ∃ w2, wr.setCell ⟨sb, a, none⟩ (.bool false) = w2 := ⟨_, rfl⟩
              rw [hw2] at hD2 hS2 kD hBs
              have hmn : sb ∉ [E.mb] := by have := hah.out.1; unfold TE.Ahead at this; simp; omega
              have hS2' := hidden hS2
              replace hmn := hidden hmn
              have hQ1 : QL - 1 = (l : Int) := by have := hQL.out; omega
              replace hj := hidden hj
              clear hD2 hS2 hBs hd' ha1
              generalize hNM : nmP 110 a = NM at kD hcat
              replace hNM := hidden hNM
              replace hst := hidden hst
              go_wp2_with fail
              refine (kN.out _).mono ?_
              rintro ev w3 ⟨rfl, hw3⟩
              subst w3
              go_wp2_with fail
              refine (kD.out).mono ?_
              rintro ev w3 ⟨rfl, h3, hA3⟩
              have hD3 : DD E db sb i (setS S a false) (dropR L j) w3 := ⟨h3, hS2'.out.keep (by omega) hA3 hmn.out, hY2.out, hah.out⟩
              have kLn := dLen_calls h3 ok.out
              rw [hL2.out] at kLn
              replace kLn := hidden kLn
              replace hD3 := hidden hD3
              clear kD h3 hA3 hS2' hw2 hca hfa hJ kN hcat hsz hNM
              generalize setS S a false = S3 at *
              generalize dropR L j = L3 at *
              go_wp2_with fail
              refine (kLn.out).mono ?_
              rintro ev w4 ⟨rfl, hB4⟩
              have hD4 := hD3.out.more (by omega) hB4
              have kSz := hD4.d.size ok.out
              rw [hL2.out, htb.out, show ((32 * l : Nat) : Int) = 32 * (l : Int) by omega] at kSz
              replace kSz := hidden kSz
              replace hD4 := hidden hD4
              clear kLn hB4 hD3
              go_wp2_with fail
              refine (kSz.out).mono ?_
              rintro ev w5 ⟨rfl, hB5⟩
              have hD5 := hidden (hD4.out.more (by omega) hB5)
              clear kSz hB5 hD4
              go_wp2_with fail
              go_loopg [15] (i + 1) (fun gk q wr => ∃ x : Nat, x ≤ i ∧ gk = i + 1 - x ∧ q = .int .i64 x ∧ Hid (DD E db sb i S3 L3 wr))
              case atStart => exact ⟨0, by omega, rfl, rfl, hD5⟩
              case round =>
                obtain ⟨x, hx, hgk4, rfl, hX⟩ := hrel
                replace hgk4 := hidden hgk4
                clear hD5
                by_cases hxl : x < i
                · have hxl' : (x : Int) < (i : Int) := by omega
                  have kN := hidden (fun (wx : World) => num_calls (x : Int) ⟨by omega, by omega⟩ wx)
                  have hcat := nm_join 110 x
                  have hsz := nm_size (i := x) (by omega)
                  have hok := hidden (ok_fin ⟨x, by omega⟩).2
                  generalize itoaB (x : Int) = TX at kN hcat hsz
                  cases hSx : S3 x with
                  | true =>
                    obtain ⟨jx, hjx⟩ := says_at hX.out.y hxl hSx
                    have kF := dFind_at hX.out.d ok.out hjx
                    have e1 : (((⟨nmP 110 x, x + 1⟩ : Rec).id : Nat) : Int) = (x : Int) + 1 := by show ((x + 1 : Nat) : Int) = _; omega
                    rw [e1] at kF
                    replace kF := hidden (show Calls Tryz.prog 27 #[ptr db, .string (mkB (nmP 110 x))] wr _ from kF)
                    generalize nmP 110 x = NM at kF hcat
                    replace hjx := hidden hjx
                    clear e1
                    go_wp2_with fail
                    refine (kN.out _).mono ?_
                    rintro ev w6 ⟨rfl, hw6⟩
                    subst w6
                    go_wp2_with fail
                    refine (kF.out).mono ?_
                    rintro ev w6 ⟨rfl, hB6⟩
                    have hD6 := hX.out.more (by omega) hB6
                    have hc6 := hD6.s.cell x hxl
                    rw [hSx] at hc6
                    have hc6d := ((below_drew1 w6).cell (p := ⟨sb, x, none⟩) (lt_of_cell (a := ⟨sb, x, none⟩) hc6)).trans hc6
                    have hD7 := hidden (hD6.more (by omega) (below_drew1 w6))
                    clear kF hB6 hX hD6 kN
                    go_upto_region 30 with fail
                    go_region
                    all_goals
                      go_wp2
                      go_roundg (i + 1 - (x + 1))
                      case measure => rw [hgk4.out]; omega
                      case rel => exact ⟨x + 1, hxl, rfl, by go_num, hidden hD7.out⟩
                  | false =>
                    have kF := hidden (dFind_err (dfind_none hX.out.d ok.out (nmP 110 x) hok.out (says_no hX.out.y (by omega) hxl hSx)))
                    generalize nmP 110 x = NM at kF hcat hok
                    go_wp2_with fail
                    refine (kN.out _).mono ?_
                    rintro ev w6 ⟨rfl, hw6⟩
                    subst w6
                    go_wp2_with fail
                    refine (kF.out).mono ?_
                    rintro ev w6 ⟨bk, rfl, -, hB6⟩
                    have hD6 := hX.out.more (by omega) hB6
                    have hc6 := hD6.s.cell x hxl
                    rw [hSx] at hc6
                    have hc6d := ((below_drew1 w6).cell (p := ⟨sb, x, none⟩) (lt_of_cell (a := ⟨sb, x, none⟩) hc6)).trans hc6
                    have hD7 := hidden (hD6.more (by omega) (below_drew1 w6))
                    clear kF hB6 hX hD6 kN
                    go_upto_region 30 with fail
                    go_region
                    all_goals
                      go_wp2
                      go_roundg (i + 1 - (x + 1))
                      case measure => rw [hgk4.out]; omega
                      case rel => exact ⟨x + 1, hxl, rfl, by go_num, hidden hD7.out⟩
                · obtain rfl : x = i := by omega
                  have hxx : ¬ (x : Int) < (x : Int) := by omega
                  go_wp2
                  go_roundg l
                  case measure => rw [hgk2.out]; omega
                  case rel => exact ⟨a, l, S3, L3, ha, by omega, rfl, rfl, rfl, hidden ⟨hX.out, hL2.out⟩⟩
end Go.Proofs.YtpofdffogkojdaaGreatDoor
