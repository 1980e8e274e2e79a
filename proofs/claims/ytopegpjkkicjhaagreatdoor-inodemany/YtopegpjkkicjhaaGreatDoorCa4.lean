/- The Cache's Write that is let through, its Drop and its New. -/
import Derived.Test.YtopegpjkkicjhaaGreatDoorCa3
import Derived.Laws.Cover3
namespace Go.Proofs.YtopegpjkkicjhaaGreatDoor
open Go.RowKit Go.Extern.Stop Go.Stop Go.Extern
set_option maxRecDepth 100000
section
variable {w0 : World} {d g n jb cb mb at_ most : Nat} {blocks : Int} {mem : Nat → Int} {writes left : Int} {M : Chg} {w w' : World}
theorem MapAt.store {b : Nat} {M : Chg} (h : MapAt w b M) (k : Int) (hk : i64 k) (zs : List Int) (hz : Row zs) (hl : M.length ≤ 1000000) :
    ∃ w', (Instr.mapUpdate 78 (.map (some b)) (.int .i64 k) (.agg (rowC zs))).run Tryz.prog w = .ok () w' ∧ MapAt w' b (putM k zs M) ∧ Apart [b] w w' := by
  obtain ⟨w', hrun, hown, hg⟩ := h.own.update keyedI Tryz.underlying78 (by unfold maxLen; omega) (keyI k hk) (rowR_mk hz)
  rw [put_dat] at hown
  exact ⟨w', hrun, MapAt.tight hown (h.tidy.put k zs hz), hg.os, hg.tape, hg.output, hg.size, fun i hi hn => hg.block i hi (by intro e; exact hn (by simp [Option.some.inj e.symm]))⟩
theorem below_drew1 (w : World) : Below w.heap.size w w.drew := ⟨rfl, rfl, rfl, Nat.le_refl _, fun _ _ => rfl⟩
theorem any_load {P : Program} {ops : Array Oper} {o : Oper} {a : Act} {w : World} {K : Act → World → Prop} {Q : Exit → Act → World → Prop} {ty : TypeId} {x : Operand} (hg : Region.wanted o (yielded ops a.tmps) = true) (ho : o.op = .load ty x)
    (p : Addr) (hx : a.eval x = .pointer (some p)) (v : Value) (hl : (loadVar ty p).run P w = .ok v w) (h : K (a.put o.dst v) w) : if Region.wanted o (yielded ops a.tmps) = true then Oper.wp P o a w K Q else K (a.put o.dst undef) w := by
  rw [if_pos hg]
  unfold Oper.wp execOp
  simp only [ho, hx, Instr.loadAt, Instr.sureAddr, Sem.run_bind, Sem.run_pure, Result.andThen_ok, hl]
  exact h
theorem any_update {P : Program} {ops : Array Oper} {o : Oper} {a : Act} {w w' : World} {K : Act → World → Prop} {Q : Exit → Act → World → Prop} {t : TypeId} {m x y : Operand} (hg : Region.wanted o (yielded ops a.tmps) = true) (ho : o.op = .mapUpdate t m x y)
    (mv key val : Value) (hm : a.eval m = mv) (hx : a.eval x = key) (hy : a.eval y = val) (hr : (Instr.mapUpdate t mv key val).run P w = .ok () w') (h : K (a.put o.dst undef) w') : if Region.wanted o (yielded ops a.tmps) = true then Oper.wp P o a w K Q else K (a.put o.dst undef) w := by
  rw [if_pos hg]
  unfold Oper.wp
  simp [execOp, ho, hm, hx, hy, hr, Result.andThen]
  exact h
/-- Other new blocks have turned. -/
theorem CSt.turnB (h : CSt w0 d g n jb cb mb at_ most blocks mem writes left M w) {b : Nat} (ha : Apart [b] w w') (hb : d ≠ b ∧ g ≠ b ∧ jb ≠ b ∧ cb ≠ b ∧ mb ≠ b ∧ w0.heap.size ≤ b) : CSt w0 d g n jb cb mb at_ most blocks mem writes left M w' :=
  ⟨⟨h.sys.base, h.sys.disk.apart_of ha (by simpa using hb.1) (by simpa using hb.2.1), h.sys.below.trans (ha.below (by simpa using hb.2.2.2.2.2) h.sys.below.size), h.sys.hd, h.sys.hg⟩, h.jat.keep ha (by simpa using hb.2.2.1), h.cat.keep ha (by simpa using hb.2.2.2.1), h.map.keep ha (by simpa using hb.2.2.2.2.1), h.jd, h.cd, h.md, h.mj, h.new⟩
theorem CSt.lts (h : CSt w0 d g n jb cb mb at_ most blocks mem writes left M w) : d < w.heap.size ∧ g < w.heap.size ∧ jb < w.heap.size ∧ cb < w.heap.size ∧ mb < w.heap.size ∧ w0.heap.size ≤ w.heap.size :=
  ⟨h.sys.disk.lt.1, h.sys.disk.lt.2, h.jat.lt, h.cat.lt, h.map.lt, h.sys.below.size⟩
set_option maxHeartbeats 2000000 in
theorem cwrite_calls (h : CSt w0 d g n jb cb mb at_ most blocks mem writes left M w) (hl : left ≠ 0) (no at1 : Nat) (hno : no < n) (hnb : (no : Int) < blocks) (v : Value) (zs : List Int) (hv : BytesAt w v zs) (hat : at1 + zs.length ≤ 128) (hh : (hasM no M || decide (M.length < most)) = true) (hM : M.length ≤ 100000) :
    Calls Tryz.prog 33 #[ptr cb, .int .i64 no, .int .i64 at1, v] w fun e w' => e = .returned .nilIface ∧ CSt w0 d g n jb cb mb at_ most blocks mem writes left (putM no (layL (nowM mem M no) at1 zs) M) w' ∧ Apart [mb] w w' := by
  have hfew := h.sys.disk.few
  have hi : i64 no := ⟨by omega, by omega⟩
  have hH := has_calls h.cat no
  rw [decide_eq_true (show 0 ≤ (no : Int) ∧ (no : Int) < blocks from ⟨by omega, hnb⟩)] at hH
  replace hH := hidden hH
  have hT := ctakes_calls h.jat h.cat h.map no hi
  rw [hh] at hT
  replace hT := hidden hT
  have hS := hidden h
  have hV := hidden hv
  have hr := hidden (show ∀ z ∈ zs, 0 ≤ z ∧ z ≤ 255 by obtain ⟨_, _, _, hr, _⟩ := hv; exact hr)
  obtain ⟨a, vcap, rfl, -⟩ := hv
  replace hat := hidden hat
  clear h
  have hat' : ¬ (128 : Int) - (zs.length : Int) < (at1 : Int) := by have := hat.out; omega
  have hL : zs.length ≤ 128 := by have := hat.out; omega
  have hA1 : at1 ≤ 128 := by have := hat.out; omega
  replace hi := hidden hi
  go_enter Tryz.func33, Tryz.ntmps33
  go_wp2_with fail
  refine (hH.out).mono ?_
  rintro ev w1 ⟨rfl, rfl⟩
  go_wp2_with fail
  refine (hT.out).mono ?_
  rintro ev w2 ⟨rfl, hB2⟩
  have hN := hidden (now_calls (hS.out.more hB2) hl no hno)
  have hsz2 := hB2.size
  replace hB2 := hidden hB2
  clear hH hT
  go_wp2_with fail
  refine (hN.out).mono ?_
  rintro ev w3 ⟨b, rfl, hLi, hb, hB3⟩
  have hB13 := hB2.out.trans (hB3.mono hB2.out.size)
  obtain ⟨r, hcp⟩ := copy_row hLi at1 _ zs (hV.out.below hB13) hat.out 3
  have hLi4 := hLi.laid at1 zs hr.out hat.out
  have hA4 : Apart [b] w3 (w3.setCells b at1 (zs.map (Value.int .u8))) := apart_setCells b (by simp) _ _ w3 (Apart.refl _ w3)
  clear hN hB3 hLi
  obtain ⟨nw, hnw⟩ : ∃ nw, layL (nowM mem M no) at1 zs = nw := ⟨_, rfl⟩
  rw [hnw] at hLi4
  replace hnw := hidden hnw
  generalize w3.setCells b at1 (zs.map (Value.int .u8)) = w4 at hcp hLi4 hA4
  replace hLi4 := hidden hLi4
  replace hA4 := hidden hA4
  replace hB13 := hidden hB13
  by_cases e128 : at1 = 128
  · subst e128
    have hc2 := fun p => hcp p (Or.inl rfl)
    simp only [Nat.sub_self] at hc2
    clear hcp
    go_upto_region 9 with fail
    have hS4 := hidden (((hS.out.more hB13.out).turnB hA4.out (by have := hS.out.lts; omega)).more (below_drew1 w4))
    have hz := hLi4.out.row
    obtain ⟨w5, hup, hM5, hA5⟩ := hS4.out.map.store no hi.out nw hz (by omega)
    have hld := (hLi4.out.below (below_drew1 w4)).load
    have c2 := ((hS.out.more hB13.out).turnB hA4.out (by have := hS.out.lts; omega)).cat.c2
    have har : ∀ w, (Instr.arrayAt 113 (.slice (some ⟨b, 0, none⟩) 128 128)).run Tryz.prog w = .ok (.pointer (some ⟨b, 0, none⟩)) w := fun w => run_arrayAt _ _ _ 128 _ 128 128 Tryz.underlying113 (by decide)
    generalize rowC nw = cs at hup hld
    have hE := hidden (And.intro (hS4.out.turn hA5 hM5) (((Apart.of_below hB13.out).trans' hA4.out (by have := hsz2; simp; omega)).trans (Apart.drew (Apart.refl _ _)) |>.trans hA5))
    clear hS4 hM5 hA5 hA4 hLi4 hz
    replace hld := hidden hld
    replace hup := hidden hup
    refine wp_region_any (by kernel_rfl) ?_
    try (change wpAny _ _ _ _ _ _ _ (World.drew _))
    refine wpAny_take (i := 0) (v := ?_) rfl (by kernel_rfl) (by kernel_rfl) (by kernel_rfl) (fun _ _ _ h => h) (Or.inl ⟨by rfl, ?_⟩) ?_
    rotate_left
    · intro w; go_simp; try (with_reducible rfl)
    refine wpAny_take (i := 1) (v := ?_) rfl (by kernel_rfl) (by kernel_rfl) (by kernel_rfl) (fun _ _ _ h => h) (Or.inl ⟨by rfl, ?_⟩) ?_
    rotate_left
    · intro w; go_simp; try (with_reducible rfl)
    refine wpAny_take (i := 2) (v := ?_) rfl (by kernel_rfl) (by kernel_rfl) (by kernel_rfl) (fun _ _ _ h => h) (Or.inl ⟨by rfl, ?_⟩) ?_
    rotate_left
    · intro w; go_simp; try (with_reducible rfl)
    refine wpAny_take (i := 4) (v := ?_) rfl (by kernel_rfl) (by kernel_rfl) (by kernel_rfl) (fun _ _ _ h => h) (Or.inl ⟨by rfl, ?_⟩) ?_
    rotate_left
    · intro w; go_simp; try (with_reducible rfl)
    refine wpAny_take (i := 5) (v := ?_) rfl (by kernel_rfl) (by kernel_rfl) (by kernel_rfl) (fun _ _ _ h => h) (Or.inl ⟨by rfl, ?_⟩) ?_
    rotate_left
    · intro w; go_simp; try (with_reducible rfl)
    refine wpAny_take (i := 6) (v := ?_) rfl (by kernel_rfl) (by kernel_rfl) (by kernel_rfl) (fun _ _ _ h => h) (Or.inl ⟨by rfl, ?_⟩) ?_
    rotate_left
    · intro w; go_simp; try (with_reducible rfl)
    go_simp
    refine wpAny_ready (rs := [3, 7]) (by kernel_rfl) (by simp) ?_
    refine AllReady.cons rfl (fun K hK => ?_) ?_
    · go_simp
      try (refine hK _ _ ?_; clear hK K)
      refine wpAny_ready (rs := [7]) (by kernel_rfl) (by simp) ?_
      refine AllReady.cons rfl (fun K hK => ?_) AllReady.nil
      refine any_load rfl rfl ⟨b, 0, none⟩ rfl (.agg cs) hld.out ?_
      try (refine hK _ _ ?_; clear hK K)
      refine wpAny_ready (rs := [8]) (by kernel_rfl) (by simp) ?_
      refine AllReady.cons rfl (fun K hK => ?_) AllReady.nil
      refine any_update rfl rfl (.map (some mb)) (.int .i64 no) (.agg cs) rfl rfl rfl hup.out ?_
      try (refine hK _ _ ?_; clear hK K)
      refine wpAny_done (by kernel_rfl) ?_ _
      go_wp2
      go_ret
      rw [hnw.out]
      exact ⟨rfl, hE.out⟩
    refine AllReady.cons rfl (fun K hK => ?_) ?_
    · refine any_load rfl rfl ⟨b, 0, none⟩ rfl (.agg cs) hld.out ?_
      try (refine hK _ _ ?_; clear hK K)
      refine wpAny_ready (rs := [3]) (by kernel_rfl) (by simp) ?_
      refine AllReady.cons rfl (fun K hK => ?_) AllReady.nil
      go_simp
      try (refine hK _ _ ?_; clear hK K)
      refine wpAny_ready (rs := [8]) (by kernel_rfl) (by simp) ?_
      refine AllReady.cons rfl (fun K hK => ?_) AllReady.nil
      refine any_update rfl rfl (.map (some mb)) (.int .i64 no) (.agg cs) rfl rfl rfl hup.out ?_
      try (refine hK _ _ ?_; clear hK K)
      refine wpAny_done (by kernel_rfl) ?_ _
      go_wp2
      go_ret
      rw [hnw.out]
      exact ⟨rfl, hE.out⟩
    exact AllReady.nil
  · have hc2 := hcp _ (Or.inr rfl)
    clear hcp
    go_upto_region 9 with fail
    have hS4 := hidden (((hS.out.more hB13.out).turnB hA4.out (by have := hS.out.lts; omega)).more (below_drew1 w4))
    have hz := hLi4.out.row
    obtain ⟨w5, hup, hM5, hA5⟩ := hS4.out.map.store no hi.out nw hz (by omega)
    have hld := (hLi4.out.below (below_drew1 w4)).load
    have c2 := ((hS.out.more hB13.out).turnB hA4.out (by have := hS.out.lts; omega)).cat.c2
    have har : ∀ w, (Instr.arrayAt 113 (.slice (some ⟨b, 0, none⟩) 128 128)).run Tryz.prog w = .ok (.pointer (some ⟨b, 0, none⟩)) w := fun w => run_arrayAt _ _ _ 128 _ 128 128 Tryz.underlying113 (by decide)
    generalize rowC nw = cs at hup hld
    have hE := hidden (And.intro (hS4.out.turn hA5 hM5) (((Apart.of_below hB13.out).trans' hA4.out (by have := hsz2; simp; omega)).trans (Apart.drew (Apart.refl _ _)) |>.trans hA5))
    clear hS4 hM5 hA5 hA4 hLi4 hz
    replace hld := hidden hld
    replace hup := hidden hup
    refine wp_region_any (by kernel_rfl) ?_
    try (change wpAny _ _ _ _ _ _ _ (World.drew _))
    refine wpAny_take (i := 0) (v := ?_) rfl (by kernel_rfl) (by kernel_rfl) (by kernel_rfl) (fun _ _ _ h => h) (Or.inl ⟨by rfl, ?_⟩) ?_
    rotate_left
    · intro w; go_simp; try (with_reducible rfl)
    refine wpAny_take (i := 1) (v := ?_) rfl (by kernel_rfl) (by kernel_rfl) (by kernel_rfl) (fun _ _ _ h => h) (Or.inl ⟨by rfl, ?_⟩) ?_
    rotate_left
    · intro w; go_simp; try (with_reducible rfl)
    refine wpAny_take (i := 2) (v := ?_) rfl (by kernel_rfl) (by kernel_rfl) (by kernel_rfl) (fun _ _ _ h => h) (Or.inl ⟨by rfl, ?_⟩) ?_
    rotate_left
    · intro w; go_simp; try (with_reducible rfl)
    refine wpAny_take (i := 4) (v := ?_) rfl (by kernel_rfl) (by kernel_rfl) (by kernel_rfl) (fun _ _ _ h => h) (Or.inl ⟨by rfl, ?_⟩) ?_
    rotate_left
    · intro w; go_simp; try (with_reducible rfl)
    refine wpAny_take (i := 5) (v := ?_) rfl (by kernel_rfl) (by kernel_rfl) (by kernel_rfl) (fun _ _ _ h => h) (Or.inl ⟨by rfl, ?_⟩) ?_
    rotate_left
    · intro w; go_simp; try (with_reducible rfl)
    refine wpAny_take (i := 6) (v := ?_) rfl (by kernel_rfl) (by kernel_rfl) (by kernel_rfl) (fun _ _ _ h => h) (Or.inl ⟨by rfl, ?_⟩) ?_
    rotate_left
    · intro w; go_simp; try (with_reducible rfl)
    go_simp
    refine wpAny_ready (rs := [3, 7]) (by kernel_rfl) (by simp) ?_
    refine AllReady.cons rfl (fun K hK => ?_) ?_
    · go_simp
      try (refine hK _ _ ?_; clear hK K)
      refine wpAny_ready (rs := [7]) (by kernel_rfl) (by simp) ?_
      refine AllReady.cons rfl (fun K hK => ?_) AllReady.nil
      refine any_load rfl rfl ⟨b, 0, none⟩ rfl (.agg cs) hld.out ?_
      try (refine hK _ _ ?_; clear hK K)
      refine wpAny_ready (rs := [8]) (by kernel_rfl) (by simp) ?_
      refine AllReady.cons rfl (fun K hK => ?_) AllReady.nil
      refine any_update rfl rfl (.map (some mb)) (.int .i64 no) (.agg cs) rfl rfl rfl hup.out ?_
      try (refine hK _ _ ?_; clear hK K)
      refine wpAny_done (by kernel_rfl) ?_ _
      go_wp2
      go_ret
      rw [hnw.out]
      exact ⟨rfl, hE.out⟩
    refine AllReady.cons rfl (fun K hK => ?_) ?_
    · refine any_load rfl rfl ⟨b, 0, none⟩ rfl (.agg cs) hld.out ?_
      try (refine hK _ _ ?_; clear hK K)
      refine wpAny_ready (rs := [3]) (by kernel_rfl) (by simp) ?_
      refine AllReady.cons rfl (fun K hK => ?_) AllReady.nil
      go_simp
      try (refine hK _ _ ?_; clear hK K)
      refine wpAny_ready (rs := [8]) (by kernel_rfl) (by simp) ?_
      refine AllReady.cons rfl (fun K hK => ?_) AllReady.nil
      refine any_update rfl rfl (.map (some mb)) (.int .i64 no) (.agg cs) rfl rfl rfl hup.out ?_
      try (refine hK _ _ ?_; clear hK K)
      refine wpAny_done (by kernel_rfl) ?_ _
      go_wp2
      go_ret
      rw [hnw.out]
      exact ⟨rfl, hE.out⟩
    exact AllReady.nil
end
end Go.Proofs.YtopegpjkkicjhaaGreatDoor
