/- conf.read and conf.Parse: what a text is read as. -/
import Derived.Test.YtfoamhkgdlebdaaGreatDoorX9
import Derived.Test.YtfoamhkgdlebdaaGreatDoorX4
namespace Go.Proofs.YtfoamhkgdlebdaaGreatDoor
open Go.RowKit Go.Extern.Stop Go.Stop Go.Extern
set_option maxRecDepth 100000

/-- The lines of a text one behind the other: the first that is wrong by its number, or the entry. -/
def readL : List (List UInt8) → Nat → En → Sum Nat En
  | [], _, e => if e.ver.isEmpty || e.kn.isEmpty then .inl 0 else .inr e
  | x :: l, i, e => match takeL e x with
    | none => .inl (i + 1)
    | some e' => readL l (i + 1) e'
theorem readL_bound : ∀ (l : List (List UInt8)) (i : Nat) (e : En) (k : Nat), readL l i e = .inl k → k ≤ i + l.length
  | [], i, e, k, h => by
    unfold readL at h
    split at h
    · cases h; omega
    · cases h
  | x :: l, i, e, k, h => by
    unfold readL at h
    split at h
    · cases h; simp
    · have := readL_bound l (i + 1) _ k h
      simp; omega
theorem lines_len (s : List UInt8) : (linesB s).length ≤ s.length + 1 := by
  rw [lines_count]; have := List.count_le_length (a := (10 : UInt8)) (l := s); omega
theorem lines_each : ∀ (s x : List UInt8), x ∈ linesB s → x.length ≤ s.length
  | [], x, h => by simp [linesB] at h; simp [h]
  | c :: r, x, h => by
    unfold linesB at h
    split at h
    · rcases List.mem_cons.1 h with rfl | h
      · simp
      · have := lines_each r x h; simp; omega
    · split at h
      · simp at h; subst h; simp
      · rename_i y l e
        rcases List.mem_cons.1 h with rfl | h
        · have := lines_each r y (by rw [e]; simp); simp; omega
        · have := lines_each r x (by rw [e]; simp [h]); simp; omega
abbrev enC (x : En) (v : Value) : Obj := .cells #[.string (mkB x.ver), .string (mkB x.kn), .string (mkB x.ks), v, .string (mkB x.op)] 29
abbrev set5 (w : World) (b : Nat) (x : En) (v : Value) : World := ((((w.setCell ⟨b, 0, none⟩ (.string (mkB x.ver))).setCell ⟨b, 1, none⟩ (.string (mkB x.kn))).setCell ⟨b, 2, none⟩ (.string (mkB x.ks))).setCell ⟨b, 3, none⟩ v).setCell ⟨b, 4, none⟩ (.string (mkB x.op))
theorem set5_apart (w : World) (b : Nat) (x : En) (v : Value) : Apart [b] w (set5 w b x v) :=
  (((((Apart.refl [b] w).setCell (p := ⟨b, 0, none⟩) (by simp) _).setCell (p := ⟨b, 1, none⟩) (by simp) _).setCell (p := ⟨b, 2, none⟩) (by simp) _).setCell (p := ⟨b, 3, none⟩) (by simp) _).setCell (p := ⟨b, 4, none⟩) (by simp) _
theorem set5_at {w : World} {b : Nat} {x0 : En} {v0 : Value} (h : EnAt w b x0 v0) (x : En) (v : Value) : EnAt (set5 w b x v) b x v := by
  have c0 := h.c0
  have c1 := h.c1
  have c2 := h.c2
  have c3 := h.c3
  have c4 := h.c4
  clear h
  have n (i j : Nat) (hij : i ≠ j) (w : World) (u : Value) : (w.setCell ⟨b, i, none⟩ u).cell? ⟨b, j, none⟩ = w.cell? ⟨b, j, none⟩ := World.cell?_setCell_other _ _ _ _ (by intro e; injection e; omega)
  have m (i : Nat) (w : World) (u u0 : Value) (h : w.cell? ⟨b, i, none⟩ = some u0) : (w.setCell ⟨b, i, none⟩ u).cell? ⟨b, i, none⟩ = some u := World.cell?_setCell_same' _ _ _ (by rw [h]; rfl)
  constructor
  · rw [set5, n 4 0 (by decide), n 3 0 (by decide), n 2 0 (by decide), n 1 0 (by decide)]; exact m 0 _ _ _ c0
  · rw [set5, n 4 1 (by decide), n 3 1 (by decide), n 2 1 (by decide)]; exact m 1 _ _ _ (by rw [n 0 1 (by decide)]; exact c1)
  · rw [set5, n 4 2 (by decide), n 3 2 (by decide)]; exact m 2 _ _ _ (by rw [n 1 2 (by decide), n 0 2 (by decide)]; exact c2)
  · rw [set5, n 4 3 (by decide)]; exact m 3 _ _ _ (by rw [n 2 3 (by decide), n 1 3 (by decide), n 0 3 (by decide)]; exact c3)
  · rw [set5]; exact m 4 _ _ _ (by rw [n 3 4 (by decide), n 2 4 (by decide), n 1 4 (by decide), n 0 4 (by decide)]; exact c4)
/-- The end of read: the entry lies in the cell that it is handed back in. -/
theorem en_end {w w4 : World} {b B : Nat} {x x0 : En} {v v0 : Value} (hN : EnAt w4 b x0 v0) (hO : BlOwn B w4 v x.ex) (hb : b < B) (hB : Below w.heap.size w w4) (hwb : w.heap.size ≤ b) :
    EnAt (set5 w4 b x v) b x v ∧ BlOwn B (set5 w4 b x v) v x.ex ∧ Below w.heap.size w (set5 w4 b x v) :=
  ⟨set5_at hN x v, hO.keep (set5_apart _ _ _ _) (by simp; exact hb), hB.trans ((set5_apart _ _ _ _).below (by simp; exact hwb) hB.size)⟩
theorem three (w : World) (o1 o2 o3 : Obj) : (((w.alloc o1).alloc o2).alloc o3).heap[w.heap.size]? = some o1 ∧ (((w.alloc o1).alloc o2).alloc o3).heap[w.heap.size + 1]? = some o2 ∧ (((w.alloc o1).alloc o2).alloc o3).heap[w.heap.size + 1 + 1]? = some o3 := by
  show (((w.heap.push o1).push o2).push o3)[w.heap.size]? = some o1 ∧ (((w.heap.push o1).push o2).push o3)[w.heap.size + 1]? = some o2 ∧ (((w.heap.push o1).push o2).push o3)[w.heap.size + 1 + 1]? = some o3
  refine ⟨?_, ?_, ?_⟩
  · rw [Array.getElem?_push, if_neg (by simp; omega), Array.getElem?_push, if_neg (by simp), Array.getElem?_push, if_pos rfl]
  · rw [Array.getElem?_push, if_neg (by simp), Array.getElem?_push, if_pos (by simp)]
  · rw [Array.getElem?_push, if_pos (by simp)]
theorem frozen_new {w : World} {b : Nat} {c : Array Value} {T : TypeId} (h : w.heap[b]? = some (.cells c T)) (j : Nat) : w.frozen? ⟨b, j, none⟩ = false := by
  simp only [World.frozen?, h]; simp
theorem en_new {w : World} {b : Nat} (h : w.heap[b]? = some (.cells #[.string ⟨#[]⟩, .string ⟨#[]⟩, .string ⟨#[]⟩, .slice none 0 0, .string ⟨#[]⟩] 29)) : EnAt w b e0 (.slice none 0 0) := by
  constructor <;> (simp only [World.cell?, h]; rfl)
/-- What read answers. -/
def ReadEnd (w w' : World) (e : Ending) : Sum Nat En → Prop
  | .inl k => ∃ (x : En) (a : Option Addr) (n c : Nat), e = .returned (.tuple #[enV x (.slice a n c), lnE (k : Int)]) ∧ Below w.heap.size w w'
  | .inr x => ∃ v : Value, e = .returned (.tuple #[enV x v, .nilIface]) ∧ BlOwn w.heap.size w' v x.ex ∧ Below w.heap.size w w'
theorem read_long (s : List UInt8) (w : World) (hs : 2000 < s.length) :
    Calls Tryz.prog 14 #[.string (mkB s)] w fun e w' => e = .returned (.tuple #[enV e0 (.slice none 0 0), num 2]) ∧ Below w.heap.size w w' := by
  have hz : ((mkB s).size : Int) = (s.length : Int) := by rw [mk_size]
  have hs' : (2000 : Int) < (s.length : Int) := by omega
  generalize (s.length : Int) = n at hz hs'
  clear hs
  generalize mkB s = t at *
  go_enter Tryz.func14, Tryz.ntmps14
  go_wp2
  (try simp only [Exit.inBlock, Exit.then])
  refine bodyPost_ret (ret_en (b := w.heap.size) (x := e0) (v := .slice none 0 0) rfl rfl ⟨by simp; rfl, by simp; rfl, by simp; rfl, by simp, by simp; rfl⟩) rfl ?_
  exact ⟨rfl, ((Below.refl _ _).alloc (Nat.le_refl _) _).alloc (by simp) _⟩
structure RInv (w wr : World) (ls : Array Value) (x : En) (v : Value) : Prop where
  st : ESt (w.heap.size + 3) wr (w.heap.size + 1) x v
  re : EnAt wr w.heap.size e0 (.slice none 0 0)
  rf : ∀ j, wr.frozen? ⟨w.heap.size, j, none⟩ = false
  bl : Below w.heap.size w wr
  li : wr.heap[w.heap.size + 1 + 1]? = some (.cells ls 9)
theorem RInv.next {w wr w' : World} {ls : Array Value} {x x' : En} {v v' : Value} (h : RInv w wr ls x v) (h2 : ESt (w.heap.size + 3) w' (w.heap.size + 1) x' v') (hk : Kp (w.heap.size + 3) (w.heap.size + 1) wr w') : RInv w w' ls x' v' :=
  ⟨h2, ⟨(hk.bl.cell (p := ⟨w.heap.size, 0, none⟩) (Nat.lt_succ_self _)).trans h.re.c0, (hk.bl.cell (p := ⟨w.heap.size, 1, none⟩) (Nat.lt_succ_self _)).trans h.re.c1, (hk.bl.cell (p := ⟨w.heap.size, 2, none⟩) (Nat.lt_succ_self _)).trans h.re.c2, (hk.bl.cell (p := ⟨w.heap.size, 3, none⟩) (Nat.lt_succ_self _)).trans h.re.c3, (hk.bl.cell (p := ⟨w.heap.size, 4, none⟩) (Nat.lt_succ_self _)).trans h.re.c4⟩,
    fun j => (hk.bl.frozen (p := ⟨w.heap.size, j, none⟩) (Nat.lt_succ_self _)).trans (h.rf j), h.bl.trans (hk.bl.mono (Nat.le_succ _)), (hk.kp _ (by omega) (by omega)).trans h.li⟩
theorem RInv.line {w wr : World} {L : List (List UInt8)} {x : En} {v : Value} (h : RInv w wr ((L.map encT).toArray) x v) {k : Nat} {y : List UInt8} (hy : L[k]? = some y) : wr.cell? ⟨w.heap.size + 1 + 1, k, none⟩ = some (.string (mkB y)) := by
  simp [World.cell?, h.li, hy, encT]
theorem RInv.done {w wr : World} {ls : Array Value} {x : En} {v : Value} (h : RInv w wr ls x v) : EnAt (set5 wr w.heap.size x v) w.heap.size x v ∧ BlOwn w.heap.size (set5 wr w.heap.size x v) v x.ex ∧ Below w.heap.size w (set5 wr w.heap.size x v) := by
  obtain ⟨h1, h2, h3⟩ := en_end (w := w) (x := x) (v := v) h.re h.st.own (by omega) h.bl (Nat.le_refl _)
  exact ⟨h1, h2.mono (by omega), h3⟩
set_option maxHeartbeats 8000000 in
theorem read_calls (s : List UInt8) (w : World) (hs : s.length ≤ 2000) :
    Calls Tryz.prog 14 #[.string (mkB s)] w fun e w' => ReadEnd w w' e (readL (linesB s) 0 e0) := by
  have hz : ((mkB s).size : Int) = (s.length : Int) := by rw [mk_size]
  have hs' : ¬ (2000 : Int) < (s.length : Int) := by omega
  obtain ⟨L, hL⟩ : ∃ L, linesB s = L := ⟨_, rfl⟩
  obtain ⟨n, hn⟩ : ∃ n, L.length = n := ⟨_, rfl⟩
  have hline : ∀ y ∈ L, y.length ≤ 100000 := fun y hy => by have := lines_each s y (by rw [hL]; exact hy); omega
  have hnl : n ≤ 10000 := by have := lines_len s; rw [hL, hn] at this; omega
  obtain ⟨r, hr⟩ : ∃ r, readL L 0 e0 = r := ⟨_, rfl⟩
  have kS := hidden (fun wx => split_calls s wx (by omega))
  rw [hL] at kS ⊢
  rw [hr]
  rw [hn] at kS
  generalize (s.length : Int) = sl at hz hs'
  clear hs hL
  generalize mkB s = t at *
  have hw3 : ∃ w3, ((w.alloc (.cells #[.string ⟨#[]⟩, .string ⟨#[]⟩, .string ⟨#[]⟩, .slice none 0 0, .string ⟨#[]⟩] 29)).alloc (.cells #[.string ⟨#[]⟩, .string ⟨#[]⟩, .string ⟨#[]⟩, .slice none 0 0, .string ⟨#[]⟩] 29)).alloc (.cells (L.map encT).toArray 9) = w3 ∧ RInv w w3 ((L.map encT).toArray) e0 (.slice none 0 0) := by
    refine ⟨_, rfl, ?_⟩
    obtain ⟨h0, h1, h2⟩ := three w (.cells #[.string ⟨#[]⟩, .string ⟨#[]⟩, .string ⟨#[]⟩, .slice none 0 0, .string ⟨#[]⟩] 29) (.cells #[.string ⟨#[]⟩, .string ⟨#[]⟩, .string ⟨#[]⟩, .slice none 0 0, .string ⟨#[]⟩] 29) (.cells (L.map encT).toArray 9)
    refine ⟨⟨en_new h1, frozen_new h1, BlOwn.nil _ _, by simp [e0], by omega, by simp⟩, en_new h0, frozen_new h0, (((Below.refl _ _).alloc (Nat.le_refl _) _).alloc (by simp) _).alloc (by simp; omega) _, h2⟩
  obtain ⟨w3, hw3, hI⟩ := hw3
  replace hw3 := hidden hw3
  replace hI := hidden hI
  replace hr := hidden hr
  replace hn := hidden hn
  replace hline := hidden hline
  go_enter Tryz.func14, Tryz.ntmps14
  go_wp2_with (refine (kS.out _).mono ?_; rintro e w' ⟨rfl, rfl⟩)
  rw [hw3.out]
  clear hw3 kS hz hs'
  go_loopg [15] n (fun g i wr => ∃ (k : Nat) (x : En) (v : Value), k ≤ n ∧ g = n - k ∧ i = .int .i64 (k : Int) ∧ Hid (RInv w wr ((L.map encT).toArray) x v ∧ readL (L.drop k) k x = r))
  case atStart => exact ⟨0, e0, .slice none 0 0, Nat.zero_le _, rfl, rfl, hidden ⟨hI.out, hr.out⟩⟩
  case round =>
    obtain ⟨k, x, v, hk, hg, rfl, hV⟩ := hrel
    replace hg := hidden hg
    by_cases hlt : k < n
    · obtain ⟨y, hy⟩ : ∃ y, L[k]? = some y := ⟨_, List.getElem?_eq_getElem (by rw [hn.out]; exact hlt)⟩
      have hyl := hline.out y (List.mem_of_getElem? hy)
      have cl := hV.out.1.line hy
      have kT := hidden (take_calls (w.heap.size + 3) (w.heap.size + 1) x v wr hV.out.1.st y hyl)
      have hstep : readL (L.drop k) k x = match takeL x y with | none => .inl (k + 1) | some e' => readL (L.drop (k + 1)) (k + 1) e' := by
        have hd : L.drop k = y :: L.drop (k + 1) := by
          have hlt' : k < L.length := by rw [hn.out]; exact hlt
          rw [List.drop_eq_getElem_cons hlt']
          rw [List.getElem?_eq_getElem hlt'] at hy
          simp at hy
          rw [hy]
        rw [hd]
        conv => lhs; unfold readL
      rw [hV.out.2] at hstep
      replace hstep := hidden hstep
      replace hy := hidden hy
      go_upto_region 7 with fail
      go_wp2_with fail
      refine kT.out.mono ?_
      rintro e w4 ⟨rfl, x', v', hS, hK, hx'⟩
      have hN := hidden (hV.out.1.next hS hK)
      replace hK := hidden hK
      replace hS := hidden hS
      replace hx' := hidden hx'
      clear cl kT hV
      obtain ⟨q, hq⟩ : ∃ q, takeL x y = q := ⟨_, rfl⟩
      rw [hq] at hx' hstep ⊢
      cases q with
      | none =>
        have hres : r = .inl (k + 1) := hstep.out
        obtain ⟨va, vc, rfl⟩ := hN.out.st.own.form
        have hE := hidden hN.out.done
        have c0 := hN.out.st.en.c0
        have c1 := hN.out.st.en.c1
        have c2 := hN.out.st.en.c2
        have c3 := hN.out.st.en.c3
        have c4 := hN.out.st.en.c4
        have r0 := hN.out.re.c0
        have r1 := hN.out.re.c1
        have r2 := hN.out.re.c2
        have r3 := hN.out.re.c3
        have r4 := hN.out.re.c4
        have f0 := hN.out.rf
        replace hres := hidden hres
        clear hstep
        go_wp2
        (try simp only [Exit.inBlock, Exit.then])
        refine bodyPost_ret (ret_en (x := x') rfl rfl hE.out.1) rfl ?_
        rw [hres.out]
        exact ⟨x', va, x'.ex.length, vc, by simp, hE.out.2.2⟩
      | some e' =>
        obtain rfl := hx'.out e' rfl
        go_wp2
        go_roundg (n - (k + 1))
        case measure => rw [hg.out]; omega
        case rel => exact ⟨k + 1, _, _, hlt, rfl, by simp, hidden ⟨hN.out, hstep.out.symm⟩⟩
    · obtain rfl : k = n := by omega
      have hres : (if (x.ver.isEmpty || x.kn.isEmpty) = true then Sum.inl 0 else Sum.inr x) = r := by
        rw [← hV.out.2, ← hn.out, List.drop_length]; rfl
      obtain ⟨va, vc, rfl⟩ := hV.out.1.st.own.form
      have hE := hidden hV.out.1.done
      have c0 := hV.out.1.st.en.c0
      have c1 := hV.out.1.st.en.c1
      have c2 := hV.out.1.st.en.c2
      have c3 := hV.out.1.st.en.c3
      have c4 := hV.out.1.st.en.c4
      have r0 := hV.out.1.re.c0
      have r1 := hV.out.1.re.c1
      have r2 := hV.out.1.re.c2
      have r3 := hV.out.1.re.c3
      have r4 := hV.out.1.re.c4
      have f0 := hV.out.1.rf
      have i0 : (mkB x.ver).toList.isEmpty = x.ver.isEmpty := by rw [mk_toList]
      have i1 : (mkB x.kn).toList.isEmpty = x.kn.isEmpty := by rw [mk_toList]
      clear hV hI
      cases hv0 : x.ver.isEmpty
      · rw [hv0] at i0 hres
        cases hv1 : x.kn.isEmpty
        · rw [hv1] at i1 hres
          have hres' : r = .inr x := by simpa using hres.symm
          replace hres' := hidden hres'
          clear hres hv0 hv1
          go_wp2
          (try simp only [Exit.inBlock, Exit.then])
          refine bodyPost_ret (ret_en (x := x) rfl rfl hE.out.1) rfl ?_
          rw [hres'.out]
          exact ⟨.slice va x.ex.length vc, by simp, hE.out.2.1, hE.out.2.2⟩
        · rw [hv1] at i1 hres
          have hres' : r = .inl 0 := by simpa using hres.symm
          replace hres' := hidden hres'
          clear hres hv0 hv1
          go_wp2
          (try simp only [Exit.inBlock, Exit.then])
          refine bodyPost_ret (ret_en (x := x) rfl rfl hE.out.1) rfl ?_
          rw [hres'.out]
          exact ⟨x, va, x.ex.length, vc, by simp, hE.out.2.2⟩
      · rw [hv0] at i0 hres
        have hres' : r = .inl 0 := by simpa using hres.symm
        replace hres' := hidden hres'
        clear hres hv0 i1
        go_wp2
        (try simp only [Exit.inBlock, Exit.then])
        refine bodyPost_ret (ret_en (x := x) rfl rfl hE.out.1) rfl ?_
        rw [hres'.out]
        exact ⟨x, va, x.ex.length, vc, by simp, hE.out.2.2⟩
end Go.Proofs.YtfoamhkgdlebdaaGreatDoor
