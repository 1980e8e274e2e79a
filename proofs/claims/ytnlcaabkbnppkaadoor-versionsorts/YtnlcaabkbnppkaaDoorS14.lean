/- credenzaref14.Sort: each text put in behind those not newer. -/
import Derived.Test.YtnlcaabkbnppkaaDoorS13
import Derived.Deep.RegionLaw
import Derived.Deep.Cut
import Derived.Deep.CutRange
namespace Go.Proofs.YtnlcaabkbnppkaaDoor
open Go Go.RowKit
set_option maxRecDepth 100000

theorem ins_mid {A M : List TT} {i j : Nat} {x : TT} (hp : M.Perm (A.take i)) (hs : Srt M) (hx : A[i]? = some x) (lo : ∀ y ∈ M.take j, ltT y x) (hi : ∀ y ∈ M.drop j, ltT x y) : (M.take j ++ x :: M.drop j).Perm (A.take (i + 1)) ∧ Srt (M.take j ++ x :: M.drop j) :=
  InsI.end_ ⟨by rw [List.take_append_drop]; exact hp, by rw [List.take_append_drop]; exact hs, hi⟩ hx lo
theorem tag_low {A : List TT} (hT : A.Pairwise (fun y z => y.2 < z.2)) {i : Nat} {x : TT} (hx : A[i]? = some x) : ∀ z ∈ A.take i, z.2 < x.2 := by
  intro z hz
  have h1 : (A.take i ++ A.drop i).Pairwise (fun y z => y.2 < z.2) := by rw [List.take_append_drop]; exact hT
  rw [List.pairwise_append] at h1
  refine h1.2.2 z hz x ?_
  refine List.mem_of_getElem? (i := 0) ?_
  rw [List.getElem?_drop]; exact hx
theorem le_ltT {x y : TT} (h : cmpV y.1 x.1 ≤ 0) (ht : y.2 < x.2) : ltT y x := by
  rcases Int.lt_or_eq_of_le h with h | h
  · exact Or.inl h
  · exact Or.inr ⟨h, ht⟩
theorem gt_ltT {x y : TT} (h : ¬ cmpV y.1 x.1 ≤ 0) : ltT x y := Or.inl (by have := cmpV_anti x.1 y.1; omega)
theorem txt_take (l : List TT) (k : Nat) : txt (l.take k) = (txt l).take k := by unfold txt; exact List.map_take ..
theorem txt_drop (l : List TT) (k : Nat) : txt (l.drop k) = (txt l).drop k := by unfold txt; exact List.map_drop ..
set_option maxHeartbeats 16000000 in
theorem rsort_calls (v : Value) (l : List (List UInt8)) (w : World) (hv : TxtsAt w v l) (hl : ∀ x ∈ l, x.length ≤ 900) (hn : l.length ≤ 40) :
    Calls Tryd.prog 7 #[v] w fun e w' => (∃ v' : Value, ∃ M : List TT, e = .returned v' ∧ M.Perm l.zipIdx ∧ Srt M ∧ XOwn w.heap.size w' v' (txt M)) ∧ Below w.heap.size w w' := by
  obtain ⟨a, cap, rfl, hcap, hc⟩ := hv
  obtain ⟨n, hln⟩ : ∃ n, l.length = n := ⟨_, rfl⟩
  obtain ⟨A, hA⟩ : ∃ A, l.zipIdx = A := ⟨_, rfl⟩
  have hAn : A.length = n := by rw [← hA]; simp [hln]
  have hT : A.Pairwise (fun y z => y.2 < z.2) := by rw [← hA]; exact tag_up l
  have hAl : ∀ (i : Nat) (x : TT), A[i]? = some x → l[i]? = some x.1 := fun i x h => by
    have h2 : txt A = l := by rw [← hA]; exact tag_txt l
    rw [← h2, txt_get, h]; rfl
  have hb9 : ∀ t ∈ A, t.1.length ≤ 900 := fun t ht => hl t.1 (by rw [← hA] at ht; exact tag_mem ht)
  rw [hln] at hn ⊢
  rw [hA]
  clear hA hcap hl
  replace hc := hidden hc
  replace hT := hidden hT
  replace hAl := hidden hAl
  replace hb9 := hidden hb9
  replace hAn := hidden hAn
  go_enter Tryd.func7, Tryd.ntmps7
  go_wp2_with fail
  go_loopg [3, 4] n (fun gk sv si wr => ∃ (i : Nat) (M : List TT) (b : Option Addr) (c : Nat), i ≤ n ∧ gk = n - i ∧ si = .int .i64 (i : Int) ∧ sv = .slice b i c ∧ Hid (M.Perm (A.take i) ∧ Srt M ∧ XOwn w.heap.size wr (.slice b i c) (txt M) ∧ Below w.heap.size w wr))
  case atStart => exact ⟨0, [], none, 0, Nat.zero_le _, rfl, rfl, rfl, hidden ⟨by simp, List.Pairwise.nil, XOwn.nil _ _, Below.refl _ _⟩⟩
  case round =>
    obtain ⟨i, M, b, c, hi, hg, rfl, rfl, hV⟩ := hrel
    replace hg := hidden hg
    by_cases hlt : i < n
    · have hltI : (i : Int) < (n : Int) := by omega
      obtain ⟨hp, hs, hO, hB⟩ := hV.out
      have hMi : M.length = i := by rw [hp.length_eq, List.length_take, hAn.out]; omega
      obtain ⟨x, hx⟩ : ∃ x, A[i]? = some x := ⟨_, List.getElem?_eq_getElem (by rw [hAn.out]; exact hlt)⟩
      have hlx := hAl.out i x hx
      obtain ⟨ba, off, rfl, hba, hcells⟩ := hc.out (by intro e; rw [e] at hlx; simp at hlx)
      have cx0 := hidden ((hB.cell (p := ⟨ba, off + i, none⟩) hba).trans (hcells i x.1 hlx))
      have hbx : ba < wr.heap.size := Nat.lt_of_lt_of_le hba hB.size
      have htg := hidden (fun (y : TT) (hy : y ∈ M) => tag_low hT.out hx y (hp.subset hy))
      have hy9 := hidden (fun (y : TT) (hy : y ∈ M) => hb9.out y (List.mem_of_mem_take (hp.subset hy)))
      have hx9 := hb9.out x (List.mem_of_getElem? hx)
      have hmid := hidden (fun (j : Nat) (lo : ∀ y ∈ M.take j, ltT y x) (hi : ∀ y ∈ M.drop j, ltT x y) => ins_mid hp hs hx lo hi)
      have hpart := hO.part
      have hOo := hidden hO
      replace hB := hidden hB
      replace hs := hidden hs
      replace hMi := hidden hMi
      replace hpart := hidden hpart
      replace hx9 := hidden hx9
      replace hbx := hidden hbx
      clear hV hp hO hx hlx hcells hba
      go_wp2_with fail
      rename World => wo
      go_loopg [5] i (fun g2 sj wx => ∃ j : Nat, j ≤ i ∧ g2 = i - j ∧ sj = .int .i64 (j : Int) ∧ Hid ((∀ t y, t < j → M[t]? = some y → ltT y x) ∧ Below wo.heap.size wo wx))
      case atStart => exact ⟨0, Nat.zero_le _, rfl, rfl, hidden ⟨fun t y h => absurd h (Nat.not_lt_zero t), Below.refl _ _⟩⟩
      case round =>
        obtain ⟨j, hj, hg2, rfl, hV⟩ := hrel
        replace hg2 := hidden hg2
        obtain ⟨hlo, hBx⟩ := hV.out
        replace hlo := hidden hlo
        replace hBx := hidden hBx
        clear hV
        go_upto_region 6 with fail
        go_cut [27] from 12 to 27 (fun p wy => ∃ q : Bool, p = .bool q ∧ Hid ((q = true → j < i ∧ ∀ y, M[j]? = some y → ltT y x) ∧ (q = false → ∀ y ∈ M.drop j, ltT x y) ∧ Below wo.heap.size wo wy))
        case first =>
          by_cases hji : j < i
          · have hjI : (j : Int) < (i : Int) := by omega
            have hMi' := hMi.out
            have hpt := hpart.out
            obtain ⟨y, hy⟩ : ∃ y, M[j]? = some y := ⟨_, List.getElem?_eq_getElem (by omega)⟩
            have hym := List.mem_of_getElem? hy
            rcases hpt with ⟨h1, h2⟩ | ⟨gb, cap', h1, hbase, hgb, hcp, hcm, hcl⟩
            · exfalso
              have : M.length = 0 := by rw [← txt_len, h2]; rfl
              omega
            · rw [txt_len, hMi'] at h1 hcp
              obtain ⟨rfl, -, rfl⟩ := Value.slice.inj h1
              have c0 := (hBx.out.cell (p := ⟨gb, j, none⟩) hgb).trans (hcl j y.1 (by rw [txt_get, hy]; rfl))
              have c1 := (hBx.out.cell (p := ⟨ba, off + i, none⟩) hbx.out).trans cx0.out
              have cC := hidden (rcmp_grown y.1 x.1 wr (hy9.out y hym) hx9.out)
              have r1 := cell_regrown c0
              have r2 := cell_regrown c1
              have hB2 := hidden (fun (wz : World) (hz : Below wr.heap.size wr wz) => hBx.out.trans (hz.mono hBx.out.size))
              have hle := hidden (fun (h : cmpV y.1 x.1 ≤ 0) => le_ltT h (htg.out y hym))
              have hgt := hidden (show ¬ cmpV y.1 x.1 ≤ 0 → ∀ z ∈ M.drop j, ltT x z from fun h z hz => by
                have h0 := gt_ltT h
                obtain ⟨t, ht⟩ := List.getElem?_of_mem hz
                rw [List.getElem?_drop] at ht
                rcases Nat.eq_zero_or_pos t with h3 | h3
                · subst h3; rw [Nat.add_zero, hy] at ht; obtain rfl := Option.some.inj ht; exact h0
                · exact ltT_trans h0 (srt_get hs.out (by omega) hy ht))
              have hyj := hidden hy
              clear hy hym hcl hcp hcm hMi' h1 hbase hgb
              generalize cmpV y.1 x.1 = z at *
              refine wp_region_quiet_below (by kernel_rfl) (by kernel_rfl) ?_
              repeat (go_big_quiet_step (first | exact cC.out _ _))
              refine wpQuiet_nil ?_
              intro _ hw'
              obtain ⟨⟨dq, osq⟩, hw''⟩ := hw'
              subst hw''
              have hb5 := hidden (hB2.out _ (below_regrown wr dq osq))
              generalize Go.Sort.grow (redrawn wr dq) osq = w5 at hb5 ⊢
              clear c0 c1 r1 r2 cC hB2
              generalize hzd : decide (z ≤ 0) = bz
              cases bz
              · have hz0 : ¬ z ≤ 0 := of_decide_eq_false hzd
                go_wp2
                go_meet
                case rel => exact ⟨false, rfl, hidden ⟨fun h => by (cases h), fun _ => hgt.out hz0, hb5.out⟩⟩
              · have hz0 : z ≤ 0 := of_decide_eq_true hzd
                go_wp2
                go_meet
                case rel => exact ⟨true, rfl, hidden ⟨fun _ => ⟨hji, fun y' h' => by rw [hyj.out] at h'; obtain rfl := Option.some.inj h'; exact hle.out hz0⟩, fun h => by (cases h), hb5.out⟩⟩
          · have hjI : decide ((j : Int) < (i : Int)) = false := decide_eq_false (by omega)
            have hb4 := hidden (fun n => below_drewN hBx.out n)
            have hdr := hidden (show ∀ z ∈ M.drop j, ltT x z from fun z hz => by
              rw [List.drop_eq_nil_of_le (by rw [hMi.out]; omega)] at hz; cases hz)
            go_quiet (fail)
            have hb5 := hidden (hb4.out nq)
            generalize wr.drewN nq = w5 at hb5 ⊢
            go_wp2
            go_meet
            case rel => exact ⟨false, rfl, hidden ⟨fun h => by (cases h), fun _ => hdr.out, hb5.out⟩⟩
        case rest =>
          rename World => w6
          obtain ⟨q, rfl, hq⟩ := hcut
          clear hBx
          cases q
          · have hB6 := hidden hq.out.2.2
            obtain ⟨m1, m2⟩ := hmid.out j (fun y hy => by
              obtain ⟨t, ht⟩ := List.getElem?_of_mem hy
              rw [List.getElem?_take] at ht
              split at ht
              · exact hlo.out t y (by assumption) ht
              · cases ht) (hq.out.2.1 rfl)
            replace m1 := hidden m1
            replace m2 := hidden m2
            clear hq hlo
            go_upto_region 8 with fail
            have hMi' := hMi.out
            have t1 : txt (M.take j ++ x :: M.drop j) = txt (M.take j) ++ [x.1] ++ txt (M.drop j) := by simp [txt]
            have hL1 : (txt (M.take j)).length = j := by rw [txt_len, List.length_take]; omega
            have hL2 : (txt (M.drop j)).length = i - j := by rw [txt_len, List.length_drop]; omega
            have cx1 := hidden (fun (wy : World) (hy : Below w6.heap.size w6 wy) => ((hB6.out.trans (hy.mono hB6.out.size)).cell (p := ⟨ba, off + i, none⟩) hbx.out).trans cx0.out)
            have hEnd := hidden (fun (wy : World) (v' : Value) (ho : XOwn w6.heap.size wy v' (txt (M.take j) ++ [x.1] ++ txt (M.drop j))) => (show XOwn w.heap.size wy v' (txt (M.take j ++ x :: M.drop j)) by
              rw [t1]; exact ho.mono (Nat.le_trans hB.out.size hB6.out.size)))
            rcases hpart.out with ⟨h1, h2⟩ | ⟨gb, cap', h1, hbase, hgb, hcp, hcm, hcl⟩
            · have hi0 : i = 0 := by
                have : M.length = 0 := by rw [← txt_len, h2]; rfl
                omega
              have hj0 : j = 0 := by omega
              have hM0 : M = [] := List.length_eq_zero_iff.1 (by omega)
              obtain ⟨rfl, -, rfl⟩ := Value.slice.inj h1
              have u1 : txt (M.take j) = [] := by rw [hM0]; simp [txt]
              have u2 : txt (M.drop j) = [] := by rw [hM0]; simp [txt]
              have hP1 := hidden (fun (wy : World) (eb : Nat) (hy : Below w6.heap.size w6 wy) (ho : XOwn w6.heap.size wy (.slice (some ⟨eb, 0, none⟩) 0 0) []) => (show ∃ v' w', (Builtin.append_ #[22, 22] 22 #[.slice (some ⟨eb, 0, none⟩) 0 0, .slice none 0 0]).run Tryd.prog wy = .ok v' w' ∧ (XOwn w6.heap.size w' v' (txt (M.take j)) ∧ Below w6.heap.size w6 w' ∧ ∀ b, b < wy.heap.size → b ≠ eb → w'.heap[b]? = wy.heap[b]?) from
                ⟨_, _, x_append_none ho 22, by rw [u1]; exact ho, hy, fun _ _ _ => rfl⟩))
              have hP2 := hidden (fun (wy : World) (v2 : Value) (xb : Nat) (hy : Below w6.heap.size w6 wy) (ho : XOwn w6.heap.size wy v2 (txt (M.take j))) (hx : wy.cell? ⟨xb, 0, none⟩ = some (.string (mkB x.1))) => (show ∃ v' w', (Builtin.append_ #[22, 22] 22 #[v2, .slice (some ⟨xb, 0, none⟩) 1 1]).run Tryd.prog wy = .ok v' w' ∧ (XOwn w6.heap.size w' v' (txt (M.take j) ++ [x.1]) ∧ Below w6.heap.size w6 w') by
                obtain ⟨v', w', q1, q2, q3, q4⟩ := x_more ho (xv := .slice (some ⟨xb, 0, none⟩) 1 1) (R := [x.1]) (Or.inr ⟨xb, 0, 1, rfl, fun k z hk => by
                  match k with
                  | 0 => obtain rfl := Option.some.inj hk; exact hx
                  | k + 1 => simp at hk⟩) (by rw [hL1]; simp; omega) hy.size 22
                exact ⟨v', w', q1, q2, hy.trans q3⟩))
              have hP3 := hidden (fun (wy : World) (v3 : Value) (hy : Below w6.heap.size w6 wy) (ho : XOwn w6.heap.size wy v3 (txt (M.take j) ++ [x.1])) => (show ∃ v' w', (Builtin.append_ #[22, 22] 22 #[v3, .slice none 0 0]).run Tryd.prog wy = .ok v' w' ∧ (XOwn w6.heap.size w' v' (txt (M.take j) ++ [x.1] ++ txt (M.drop j)) ∧ Below w6.heap.size w6 w') from
                ⟨_, _, x_append_none ho 22, by rw [u2, List.append_nil]; exact ho, hy⟩))
              have hS0 : Below w6.heap.size w6 w6.drew := (Below.refl _ _).drew
              have cx := cx1.out w6.drew hS0
              have cxa := cx1.out (w6.alloc (.cells #[] 9)) ((Below.refl _ _).alloc (Nat.le_refl _) _)
              have hLL := hidden (show (txt (M.take j) ++ [x.1] ++ txt (M.drop j)).length = i + 1 from by rw [List.length_append, List.length_append, hL1, hL2]; simp; omega)
              replace hS0 := hidden hS0
              clear hL1 hL2 t1 h1 h2 hMi' hM0 u1 u2
              subst hi0
              subst hj0
              simp only [Nat.add_zero] at cx1 cx cxa
              have o1 := hidden (x_new (base := w6.heap.size) w6.drew w6.heap.size rfl (Nat.le_refl _))
              have o2 := hidden (fun (ob : Obj) => (x_new (base := w6.heap.size) w6.drew w6.heap.size rfl (Nat.le_refl _)).below ((Below.refl _ _).alloc (Nat.le_refl _) ob))
              have o3 := hidden (fun (ob : Obj) => x_new (base := w6.heap.size) (w6.drew.alloc ob) (w6.heap.size + 1) (by simp) (by simp))
              have b1 := hidden (fun (ob : Obj) => hS0.out.alloc hS0.out.size ob)
              have b2 := hidden (fun (ob oc : Obj) => (hS0.out.alloc hS0.out.size ob).alloc (hS0.out.alloc hS0.out.size ob).size oc)
              go_region_law (first
                | (refine any_append_ex (s := .tmp 30) (x := .tmp 33) (t := 22) rfl rfl (.slice (some ⟨w6.heap.size, 0, none⟩) 0 0) (.slice none 0 0) rfl rfl (hP1.out _ w6.heap.size (b1.out _) o1.out) ?_; rintro v2 w2 ⟨hO2, hB2, hS2⟩; have cx2 := cx1.out w2 hB2; replace hO2 := hidden hO2; replace hB2 := hidden hB2; replace hS2 := hidden hS2)
                | (refine any_append_ex (s := .tmp 30) (x := .tmp 33) (t := 22) rfl rfl (.slice (some ⟨w6.heap.size, 0, none⟩) 0 0) (.slice none 0 0) rfl rfl (hP1.out _ w6.heap.size (b2.out _ _) (o2.out _)) ?_; rintro v2 w2 ⟨hO2, hB2, hS2⟩; have cx2 := cx1.out w2 hB2; have hXc : Hid (w2.cell? ⟨w6.heap.size + 1, 0, none⟩ = some (.string (mkB x.1))) := hidden ((cell_heap (hS2 _ (by simp <;> omega) (by simp <;> omega)) 0).trans (by simp)); replace hO2 := hidden hO2; replace hB2 := hidden hB2; replace hS2 := hidden hS2)
                | (refine any_append_ex (s := .tmp 30) (x := .tmp 33) (t := 22) rfl rfl (.slice (some ⟨w6.heap.size + 1, 0, none⟩) 0 0) (.slice none 0 0) rfl rfl (hP1.out _ (w6.heap.size + 1) (b2.out _ _) (o3.out _)) ?_; rintro v2 w2 ⟨hO2, hB2, hS2⟩; have cx2 := cx1.out w2 hB2; have hXc : Hid (w2.cell? ⟨w6.heap.size, 0, none⟩ = some (.string (mkB x.1))) := hidden ((cell_heap (hS2 _ (by simp <;> omega) (by simp <;> omega)) 0).trans (by simp)); replace hO2 := hidden hO2; replace hB2 := hidden hB2; replace hS2 := hidden hS2)
                | (refine any_append_ex (s := .tmp 34) (x := .tmp 39) (t := 22) rfl rfl v2 (.slice (some ⟨w2.heap.size, 0, none⟩) 1 1) rfl rfl (hP2.out _ v2 w2.heap.size (hB2.out.alloc hB2.out.size _) (hO2.out.below ((Below.refl _ _).alloc (Nat.le_refl _) _)) (by simp)) ?_; rintro v3 w3 ⟨hO3, hB3⟩; replace hO3 := hidden hO3; replace hB3 := hidden hB3)
                | (refine any_append_ex (s := .tmp 34) (x := .tmp 39) (t := 22) rfl rfl v2 (.slice (some ⟨w6.heap.size + 1, 0, none⟩) 1 1) rfl rfl (hP2.out w2 v2 (w6.heap.size + 1) hB2.out hO2.out hXc.out) ?_; rintro v3 w3 ⟨hO3, hB3⟩; replace hO3 := hidden hO3; replace hB3 := hidden hB3)
                | (refine any_append_ex (s := .tmp 34) (x := .tmp 39) (t := 22) rfl rfl v2 (.slice (some ⟨w6.heap.size, 0, none⟩) 1 1) rfl rfl (hP2.out w2 v2 w6.heap.size hB2.out hO2.out hXc.out) ?_; rintro v3 w3 ⟨hO3, hB3⟩; replace hO3 := hidden hO3; replace hB3 := hidden hB3)
                | (refine any_append_ex (s := .tmp 40) (x := .tmp 43) (t := 22) rfl rfl v3 (.slice none 0 0) rfl rfl (hP3.out w3 v3 hB3.out hO3.out) ?_; rintro v4 w4 ⟨hO4, hB4⟩; replace hO4 := hidden hO4; replace hB4 := hidden hB4))
              all_goals
                obtain ⟨a', c', hv4⟩ := hO4.out.at.len
                rw [hLL.out] at hv4
                subst hv4
                have hBE := hidden (hB.out.trans ((hB6.out.trans (hB4.out.mono hB6.out.size)).mono hB.out.size))
                have hOE := hidden (hEnd.out _ _ hO4.out)
                clear hO4 hB4 hO3 hB3 hO2 hB2 hS2 cx2 cx cxa
                go_wp2
                go_roundg (n - (0 + 1))
                case measure => rw [hg.out]; omega
                case rel => exact ⟨0 + 1, M.take 0 ++ x :: M.drop 0, a', c', hlt, rfl, by go_num, rfl, hidden ⟨m1.out, m2.out, hOE.out, hBE.out⟩⟩
            · rw [txt_len, hMi'] at h1 hcp
              obtain ⟨rfl, -, rfl⟩ := Value.slice.inj h1
              have hg6 := fun (wy : World) (hy : Below w6.heap.size w6 wy) (k : Nat) (z : List UInt8) (hk : (txt M)[k]? = some z) => ((hB6.out.trans (hy.mono hB6.out.size)).cell (p := ⟨gb, k, none⟩) hgb).trans (hcl k z hk)
              have hP1 := hidden (fun (wy : World) (eb : Nat) (hy : Below w6.heap.size w6 wy) (ho : XOwn w6.heap.size wy (.slice (some ⟨eb, 0, none⟩) 0 0) []) => (show ∃ v' w', (Builtin.append_ #[22, 22] 22 #[.slice (some ⟨eb, 0, none⟩) 0 0, .slice (some ⟨gb, 0, none⟩) j c]).run Tryd.prog wy = .ok v' w' ∧ (XOwn w6.heap.size w' v' (txt (M.take j)) ∧ Below w6.heap.size w6 w' ∧ ∀ b, b < wy.heap.size → b ≠ eb → w'.heap[b]? = wy.heap[b]?) by
                obtain ⟨v', w', q1, q2, q3, q4⟩ := x_more ho (xv := .slice (some ⟨gb, 0, none⟩) j c) (R := txt (M.take j)) (Or.inr ⟨gb, 0, c, by rw [hL1], fun k z hk => by
                  rw [Nat.zero_add]
                  refine hg6 wy hy k z ?_
                  rw [txt_take, List.getElem?_take] at hk
                  split at hk
                  · exact hk
                  · cases hk⟩) (by rw [hL1]; simp; omega) hy.size 22
                exact ⟨v', w', q1, by simpa using q2, hy.trans q3, fun b hb hne => q4 b hb (fun h => hne (Option.some.inj h))⟩))
              have hP2 := hidden (fun (wy : World) (v2 : Value) (xb : Nat) (hy : Below w6.heap.size w6 wy) (ho : XOwn w6.heap.size wy v2 (txt (M.take j))) (hx : wy.cell? ⟨xb, 0, none⟩ = some (.string (mkB x.1))) => (show ∃ v' w', (Builtin.append_ #[22, 22] 22 #[v2, .slice (some ⟨xb, 0, none⟩) 1 1]).run Tryd.prog wy = .ok v' w' ∧ (XOwn w6.heap.size w' v' (txt (M.take j) ++ [x.1]) ∧ Below w6.heap.size w6 w') by
                obtain ⟨v', w', q1, q2, q3, q4⟩ := x_more ho (xv := .slice (some ⟨xb, 0, none⟩) 1 1) (R := [x.1]) (Or.inr ⟨xb, 0, 1, rfl, fun k z hk => by
                  match k with
                  | 0 => obtain rfl := Option.some.inj hk; exact hx
                  | k + 1 => simp at hk⟩) (by rw [hL1]; simp; omega) hy.size 22
                exact ⟨v', w', q1, q2, hy.trans q3⟩))
              have hP3 := hidden (fun (wy : World) (v3 : Value) (o n1 c1 : Nat) (ha : o = j ∨ i - j = 0) (h1 : n1 = i - j) (hy : Below w6.heap.size w6 wy) (ho : XOwn w6.heap.size wy v3 (txt (M.take j) ++ [x.1])) => (show ∃ v' w', (Builtin.append_ #[22, 22] 22 #[v3, .slice (some ⟨gb, o, none⟩) n1 c1]).run Tryd.prog wy = .ok v' w' ∧ (XOwn w6.heap.size w' v' (txt (M.take j) ++ [x.1] ++ txt (M.drop j)) ∧ Below w6.heap.size w6 w') by
                subst h1
                obtain ⟨v', w', q1, q2, q3, q4⟩ := x_more ho (xv := .slice (some ⟨gb, o, none⟩) (i - j) c1) (R := txt (M.drop j)) (Or.inr ⟨gb, o, c1, by rw [hL2], fun k z hk => by
                  rcases ha with ha | ha
                  · subst ha
                    refine hg6 wy hy _ z ?_
                    rw [txt_drop, List.getElem?_drop] at hk
                    exact hk
                  · exfalso
                    have := (List.getElem?_eq_some_iff.1 hk).1
                    omega⟩) (by rw [hL2, List.length_append, hL1]; simp; omega) hy.size 22
                exact ⟨v', w', q1, q2, hy.trans q3⟩))
              have hS0 : Below w6.heap.size w6 w6.drew := (Below.refl _ _).drew
              have cx := cx1.out w6.drew hS0
              have hjc : (j : Int) ≤ (c : Int) := by omega
              have hji : (j : Int) ≤ (i : Int) := by omega
              have hic : (i : Int) ≤ (c : Int) := by omega
              have cxa := cx1.out (w6.alloc (.cells #[] 9)) ((Below.refl _ _).alloc (Nat.le_refl _) _)
              have hLL := hidden (show (txt (M.take j) ++ [x.1] ++ txt (M.drop j)).length = i + 1 from by rw [List.length_append, List.length_append, hL1, hL2]; simp; omega)
              replace hS0 := hidden hS0
              clear hL1 hL2 t1 hg6 hcl h1 hbase hgb hMi'
              have o1 := hidden (x_new (base := w6.heap.size) w6.drew w6.heap.size rfl (Nat.le_refl _))
              have o2 := hidden (fun (ob : Obj) => (x_new (base := w6.heap.size) w6.drew w6.heap.size rfl (Nat.le_refl _)).below ((Below.refl _ _).alloc (Nat.le_refl _) ob))
              have o3 := hidden (fun (ob : Obj) => x_new (base := w6.heap.size) (w6.drew.alloc ob) (w6.heap.size + 1) (by simp) (by simp))
              have b1 := hidden (fun (ob : Obj) => hS0.out.alloc hS0.out.size ob)
              have b2 := hidden (fun (ob oc : Obj) => (hS0.out.alloc hS0.out.size ob).alloc (hS0.out.alloc hS0.out.size ob).size oc)
              by_cases hcj : c = j
              · have hij0 := hidden (show i - j = 0 by omega)
                replace hcj := hcj.symm
                subst hcj
                go_region_law (first
                  | (refine any_append_ex (s := .tmp 30) (x := .tmp 33) (t := 22) rfl rfl (.slice (some ⟨w6.heap.size, 0, none⟩) 0 0) (.slice (some ⟨gb, 0, none⟩) j j) rfl rfl (hP1.out _ w6.heap.size (b1.out _) o1.out) ?_; rintro v2 w2 ⟨hO2, hB2, hS2⟩; have cx2 := cx1.out w2 hB2; replace hO2 := hidden hO2; replace hB2 := hidden hB2; replace hS2 := hidden hS2)
                  | (refine any_append_ex (s := .tmp 30) (x := .tmp 33) (t := 22) rfl rfl (.slice (some ⟨w6.heap.size, 0, none⟩) 0 0) (.slice (some ⟨gb, 0, none⟩) j j) rfl rfl (hP1.out _ w6.heap.size (b2.out _ _) (o2.out _)) ?_; rintro v2 w2 ⟨hO2, hB2, hS2⟩; have cx2 := cx1.out w2 hB2; have hXc : Hid (w2.cell? ⟨w6.heap.size + 1, 0, none⟩ = some (.string (mkB x.1))) := hidden ((cell_heap (hS2 _ (by simp <;> omega) (by simp <;> omega)) 0).trans (by simp)); replace hO2 := hidden hO2; replace hB2 := hidden hB2; replace hS2 := hidden hS2)
                  | (refine any_append_ex (s := .tmp 30) (x := .tmp 33) (t := 22) rfl rfl (.slice (some ⟨w6.heap.size + 1, 0, none⟩) 0 0) (.slice (some ⟨gb, 0, none⟩) j j) rfl rfl (hP1.out _ (w6.heap.size + 1) (b2.out _ _) (o3.out _)) ?_; rintro v2 w2 ⟨hO2, hB2, hS2⟩; have cx2 := cx1.out w2 hB2; have hXc : Hid (w2.cell? ⟨w6.heap.size, 0, none⟩ = some (.string (mkB x.1))) := hidden ((cell_heap (hS2 _ (by simp <;> omega) (by simp <;> omega)) 0).trans (by simp)); replace hO2 := hidden hO2; replace hB2 := hidden hB2; replace hS2 := hidden hS2)
                  | (refine any_append_ex (s := .tmp 34) (x := .tmp 39) (t := 22) rfl rfl v2 (.slice (some ⟨w2.heap.size, 0, none⟩) 1 1) rfl rfl (hP2.out _ v2 w2.heap.size (hB2.out.alloc hB2.out.size _) (hO2.out.below ((Below.refl _ _).alloc (Nat.le_refl _) _)) (by simp)) ?_; rintro v3 w3 ⟨hO3, hB3⟩; replace hO3 := hidden hO3; replace hB3 := hidden hB3)
                  | (refine any_append_ex (s := .tmp 34) (x := .tmp 39) (t := 22) rfl rfl v2 (.slice (some ⟨w6.heap.size + 1, 0, none⟩) 1 1) rfl rfl (hP2.out w2 v2 (w6.heap.size + 1) hB2.out hO2.out hXc.out) ?_; rintro v3 w3 ⟨hO3, hB3⟩; replace hO3 := hidden hO3; replace hB3 := hidden hB3)
                  | (refine any_append_ex (s := .tmp 34) (x := .tmp 39) (t := 22) rfl rfl v2 (.slice (some ⟨w6.heap.size, 0, none⟩) 1 1) rfl rfl (hP2.out w2 v2 w6.heap.size hB2.out hO2.out hXc.out) ?_; rintro v3 w3 ⟨hO3, hB3⟩; replace hO3 := hidden hO3; replace hB3 := hidden hB3)
                  | (refine any_append_ex (s := .tmp 40) (x := .tmp 43) (t := 22) rfl rfl v3 _ rfl rfl (hP3.out w3 v3 _ _ _ (by first | exact Or.inl rfl | (right; exact hij0.out)) hij0.out.symm hB3.out hO3.out) ?_; rintro v4 w4 ⟨hO4, hB4⟩; replace hO4 := hidden hO4; replace hB4 := hidden hB4))
                all_goals
                  obtain ⟨a', c', hv4⟩ := hO4.out.at.len
                  rw [hLL.out] at hv4
                  subst hv4
                  have hBE := hidden (hB.out.trans ((hB6.out.trans (hB4.out.mono hB6.out.size)).mono hB.out.size))
                  have hOE := hidden (hEnd.out _ _ hO4.out)
                  clear hO4 hB4 hO3 hB3 hO2 hB2 hS2 cx2 cx cxa
                  go_wp2
                  go_roundg (n - (i + 1))
                  case measure => rw [hg.out]; omega
                  case rel => exact ⟨i + 1, M.take j ++ x :: M.drop j, a', c', hlt, rfl, by go_num, rfl, hidden ⟨m1.out, m2.out, hOE.out, hBE.out⟩⟩
              · have hcj2 := hidden (show j < c by omega)
                go_region_law (first
                  | (refine any_append_ex (s := .tmp 30) (x := .tmp 33) (t := 22) rfl rfl (.slice (some ⟨w6.heap.size, 0, none⟩) 0 0) (.slice (some ⟨gb, 0, none⟩) j c) rfl rfl (hP1.out _ w6.heap.size (b1.out _) o1.out) ?_; rintro v2 w2 ⟨hO2, hB2, hS2⟩; have cx2 := cx1.out w2 hB2; replace hO2 := hidden hO2; replace hB2 := hidden hB2; replace hS2 := hidden hS2)
                  | (refine any_append_ex (s := .tmp 30) (x := .tmp 33) (t := 22) rfl rfl (.slice (some ⟨w6.heap.size, 0, none⟩) 0 0) (.slice (some ⟨gb, 0, none⟩) j c) rfl rfl (hP1.out _ w6.heap.size (b2.out _ _) (o2.out _)) ?_; rintro v2 w2 ⟨hO2, hB2, hS2⟩; have cx2 := cx1.out w2 hB2; have hXc : Hid (w2.cell? ⟨w6.heap.size + 1, 0, none⟩ = some (.string (mkB x.1))) := hidden ((cell_heap (hS2 _ (by simp <;> omega) (by simp <;> omega)) 0).trans (by simp)); replace hO2 := hidden hO2; replace hB2 := hidden hB2; replace hS2 := hidden hS2)
                  | (refine any_append_ex (s := .tmp 30) (x := .tmp 33) (t := 22) rfl rfl (.slice (some ⟨w6.heap.size + 1, 0, none⟩) 0 0) (.slice (some ⟨gb, 0, none⟩) j c) rfl rfl (hP1.out _ (w6.heap.size + 1) (b2.out _ _) (o3.out _)) ?_; rintro v2 w2 ⟨hO2, hB2, hS2⟩; have cx2 := cx1.out w2 hB2; have hXc : Hid (w2.cell? ⟨w6.heap.size, 0, none⟩ = some (.string (mkB x.1))) := hidden ((cell_heap (hS2 _ (by simp <;> omega) (by simp <;> omega)) 0).trans (by simp)); replace hO2 := hidden hO2; replace hB2 := hidden hB2; replace hS2 := hidden hS2)
                  | (refine any_append_ex (s := .tmp 34) (x := .tmp 39) (t := 22) rfl rfl v2 (.slice (some ⟨w2.heap.size, 0, none⟩) 1 1) rfl rfl (hP2.out _ v2 w2.heap.size (hB2.out.alloc hB2.out.size _) (hO2.out.below ((Below.refl _ _).alloc (Nat.le_refl _) _)) (by simp)) ?_; rintro v3 w3 ⟨hO3, hB3⟩; replace hO3 := hidden hO3; replace hB3 := hidden hB3)
                  | (refine any_append_ex (s := .tmp 34) (x := .tmp 39) (t := 22) rfl rfl v2 (.slice (some ⟨w6.heap.size + 1, 0, none⟩) 1 1) rfl rfl (hP2.out w2 v2 (w6.heap.size + 1) hB2.out hO2.out hXc.out) ?_; rintro v3 w3 ⟨hO3, hB3⟩; replace hO3 := hidden hO3; replace hB3 := hidden hB3)
                  | (refine any_append_ex (s := .tmp 34) (x := .tmp 39) (t := 22) rfl rfl v2 (.slice (some ⟨w6.heap.size, 0, none⟩) 1 1) rfl rfl (hP2.out w2 v2 w6.heap.size hB2.out hO2.out hXc.out) ?_; rintro v3 w3 ⟨hO3, hB3⟩; replace hO3 := hidden hO3; replace hB3 := hidden hB3)
                  | (refine any_append_ex (s := .tmp 40) (x := .tmp 43) (t := 22) rfl rfl v3 _ rfl rfl (hP3.out w3 v3 _ _ _ (by first | exact Or.inl rfl | (right; exact hij0.out)) rfl hB3.out hO3.out) ?_; rintro v4 w4 ⟨hO4, hB4⟩; replace hO4 := hidden hO4; replace hB4 := hidden hB4))
                all_goals
                  obtain ⟨a', c', hv4⟩ := hO4.out.at.len
                  rw [hLL.out] at hv4
                  subst hv4
                  have hBE := hidden (hB.out.trans ((hB6.out.trans (hB4.out.mono hB6.out.size)).mono hB.out.size))
                  have hOE := hidden (hEnd.out _ _ hO4.out)
                  clear hO4 hB4 hO3 hB3 hO2 hB2 hS2 cx2 cx cxa
                  go_wp2
                  go_roundg (n - (i + 1))
                  case measure => rw [hg.out]; omega
                  case rel => exact ⟨i + 1, M.take j ++ x :: M.drop j, a', c', hlt, rfl, by go_num, rfl, hidden ⟨m1.out, m2.out, hOE.out, hBE.out⟩⟩
          · obtain ⟨hji, hyx⟩ := hq.out.1 rfl
            have hB6 := hidden hq.out.2.2
            have hlo2 := hidden (show ∀ t y, t < j + 1 → M[t]? = some y → ltT y x from fun t y ht hy => by
              rcases Nat.lt_or_eq_of_le (show t ≤ j by omega) with h1 | h1
              · exact hlo.out t y h1 hy
              · subst h1; exact hyx y hy)
            clear hq hlo hyx
            go_wp2
            go_roundg (i - (j + 1))
            case measure => rw [hg2.out]; omega
            case rel => exact ⟨j + 1, hji, rfl, by go_num, hidden ⟨hlo2.out, hB6.out⟩⟩
    · obtain rfl : i = n := by omega
      have hF := hidden (show ∃ M : List TT, M.Perm A ∧ Srt M ∧ XOwn w.heap.size wr (.slice b i c) (txt M) from ⟨M, by have := hV.out.1; rwa [List.take_of_length_le (by rw [hAn.out]; exact Nat.le_refl _)] at this, hV.out.2.1, hV.out.2.2.1⟩)
      have hB := hidden hV.out.2.2.2
      clear hV
      go_wp2
      go_ret
      obtain ⟨M, m1, m2, m3⟩ := hF.out
      exact ⟨⟨_, M, rfl, m1, m2, m3⟩, hB.out⟩
end Go.Proofs.YtnlcaabkbnppkaaDoor
