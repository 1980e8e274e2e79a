/- A file system between two calls; a step, whatever is done in it. -/
import Derived.Test.YtpofmiecjkghgaaGreatDoorGVkp
import Derived.Test.YtpofmiecjkghgaaGreatDoorGVgp
namespace Go.Proofs.YtpofmiecjkghgaaGreatDoor
open Go.RowKit Go.Extern.Stop Go.Stop Go.Extern Go.Maps Go.Sort Go.Shelf
set_option maxRecDepth 100000
set_option maxHeartbeats 8000000
theorem Chain.apart {w w' : World} {bs : List Nat} (ha : Apart bs w w') (hn : ∀ b ∈ bs, ∀ s : ByteArray, w.cell? ⟨b, 0, none⟩ ≠ some (.string s)) : ∀ (l : List (ByteArray × ByteArray)) (bot e : Value), Chain w l bot e -> Chain w' l bot e
  | [], _, _, hc => hc
  | (op, nm) :: r, bot, e, hc => by
    obtain ⟨b, e', he, hb, ⟨cs, t, hs⟩, h0, h1, h2, hr⟩ := hc
    have hbn : b ∉ bs := fun hm => hn b hm op h0
    exact ⟨b, e', he, Nat.lt_of_lt_of_le hb ha.size, ⟨cs, t, (ha.block b hb hbn).trans hs⟩, (ha.cell (p := ⟨b, 0, none⟩) hb hbn).trans h0, (ha.cell (p := ⟨b, 1, none⟩) hb hbn).trans h1, (ha.cell (p := ⟨b, 2, none⟩) hb hbn).trans h2, Chain.apart ha hn r bot e' hr⟩
structure FsAt (fb : Nat) (E : TE) (rs hb : Nat) (w : World) : Prop where
  c0 : w.cell? ⟨fb, 0, none⟩ = some (ptr E.cb)
  c1 : w.cell? ⟨fb, 1, none⟩ = some (ptr E.ab)
  c2 : w.cell? ⟨fb, 2, none⟩ = some (ptr E.tb)
  c3 : w.cell? ⟨fb, 3, none⟩ = some (.int .i64 (E.tn : Nat))
  c4 : w.cell? ⟨fb, 4, none⟩ = some (.int .i64 (rs : Nat))
  c5 : w.cell? ⟨fb, 5, none⟩ = some (.int .i64 (E.kk : Nat))
  c6 : w.cell? ⟨fb, 6, none⟩ = some (.map (some hb))
  c7 : w.cell? ⟨fb, 7, none⟩ = some (.bool false)
  f7 : w.frozen? ⟨fb, 7, none⟩ = false
section
variable {fb rs hb : Nat} {E : TE} {w w' : World} {K : Nat -> Nat} {D : Nat -> List Int} {f u lim : Nat}
theorem FsAt.lt (h : FsAt fb E rs hb w) : fb < w.heap.size := lt_of_cell (a := ⟨fb, 0, none⟩) h.c0
theorem FsAt.keep {bs : List Nat} (h : FsAt fb E rs hb w) (ha : Apart bs w w') (hn : fb ∉ bs) : FsAt fb E rs hb w' :=
  have k : ∀ j, w'.cell? ⟨fb, j, none⟩ = w.cell? ⟨fb, j, none⟩ := fun j => ha.cell (p := ⟨fb, j, none⟩) h.lt hn
  ⟨(k 0).trans h.c0, (k 1).trans h.c1, (k 2).trans h.c2, (k 3).trans h.c3, (k 4).trans h.c4, (k 5).trans h.c5, (k 6).trans h.c6, (k 7).trans h.c7, (ha.frozen (p := ⟨fb, 7, none⟩) h.lt hn).trans h.f7⟩
theorem FsAt.below (h : FsAt fb E rs hb w) (hB : Below w.heap.size w w') : FsAt fb E rs hb w' := h.keep (Apart.of_below (bs := []) hB) (by simp)
def FsAt.Far (fb : Nat) (E : TE) : Prop := fb ≠ E.mb /\ fb ≠ E.d /\ fb ≠ E.g /\ fb ≠ E.jb /\ fb ≠ E.cb /\ fb ≠ E.ab /\ fb ≠ E.tb /\ E.w0.heap.size <= fb
theorem below_apart {B : Nat} {w0 : World} {bs : List Nat} (h : Below B w0 w) (hB : B <= w0.heap.size) (ha : Apart bs w w') (hb : ∀ b ∈ bs, B <= b) : Below B w0 w' :=
  ⟨ha.os.trans h.os, ha.tape.trans h.tape, ha.output.trans h.output, Nat.le_trans h.size ha.size, fun k hk => (ha.block k (by have := h.size; omega) (fun hm => by have := hb k hm; omega)).trans (h.block k hk)⟩
theorem TE.St.keepA {mem : Nat -> Int} {writes : Int} {M : Chg} {bs : List Nat} (h : E.St mem writes M w) (ha : Apart bs w w') (hn : E.d ∉ bs /\ E.g ∉ bs /\ E.jb ∉ bs /\ E.cb ∉ bs /\ E.mb ∉ bs /\ E.ab ∉ bs /\ E.tb ∉ bs) (hb : ∀ b ∈ bs, E.w0.heap.size <= b) : E.St mem writes M w' := by
  obtain ⟨n1, n2, n3, n4, n5, n6, n7⟩ := hn
  have hc := h.c
  exact ⟨⟨⟨hc.sys.base, hc.sys.disk.apart_of ha n1 n2, below_apart hc.sys.below (Nat.le_refl _) ha hb, hc.sys.hd, hc.sys.hg⟩, hc.jat.keep ha n3, hc.cat.keep ha n4, hc.map.keep ha n5, hc.jd, hc.cd, hc.md, hc.mj, hc.new⟩, h.m.keep ha n6, h.t.keep ha n7, h.keys⟩
theorem S8z.keepF (h : S8z E K D f u lim w) (ha : Apart [fb] w w') (hf : FsAt.Far fb E) : S8z E K D f u lim w' := by
  obtain ⟨mem, writes, N, h1, h2⟩ := h
  unfold FsAt.Far at hf
  exact ⟨mem, writes, N, h1.keepA ha (by simp; omega) (fun b hb => by rw [List.mem_singleton.1 hb]; omega), h2⟩
theorem S8.mapNo (h : S8 E K D f u lim w) (j : Nat) : w.cell? ⟨E.mb, j, none⟩ = none := by
  obtain ⟨mem, wr, M, N, q1, -⟩ := h
  obtain ⟨es, clock, hm, -⟩ := q1.c.map.own
  unfold World.cell?
  simp [hm]
theorem step_ok {fc : FuncId} {caps : Array Value} {P : World -> Prop} (hent : ∀ (args : Array Value) (w : World), (callFunc fc args).run Tryz.prog w = .ok (.enter fc args) w) (hF : FsAt fb E rs hb w) (hfar : FsAt.Far fb E) (ok : E.Ok) (far : E.Far) (hleft : E.left = -1) (hm : 1 <= E.most /\ E.most <= 200) (hlim : lim <= 300000000)
    (kD : Calls Tryz.prog fc caps w fun e w1 => e = .returned .nilIface /\ P w1 /\ FsAt fb E rs hb w1 /\ S8 E K D f u lim w1) :
    Calls Tryz.prog 54 #[ptr fb, .func (.func fc) #[] caps] w fun e w2 => e = .returned .nilIface /\ ∃ w1, P w1 /\ FsAt fb E rs hb w2 /\ S8z E K D f u (lim + 1000) w2 /\ Apart [E.d, E.g, E.mb] w1 w2 := by
  have d7 := hF.c7
  have hlt := hF.lt
  replace kD := hidden kD
  have kFl := hidden (fun (wx : World) (hx : S8 E K D f u lim wx) => S8.flushz ok far hleft hm hx hlim)
  replace hfar := hidden hfar
  clear hF ok far hm
  go_enter Tryz.func54, Tryz.ntmps54
  go_wp2_with fail
  refine (kD.out).mono ?_
  rintro ev w1 ⟨rfl, hP, hF1, hS1⟩
  have d0 := hF1.c0
  have hlt1 := hF1.lt
  have kF2 := hidden (kFl.out _ hS1)
  have hE1 := hidden (And.intro hP hF1)
  clear hP hF1 hS1 kFl kD
  go_wp2_with fail
  refine (kF2.out).mono ?_
  rintro ev w2 ⟨rfl, hS2, hA2⟩
  have hE := hidden (show ∃ w1, P w1 /\ FsAt fb E rs hb w2 /\ S8z E K D f u (lim + 1000) w2 /\ Apart [E.d, E.g, E.mb] w1 w2 from ⟨w1, hE1.out.1, hE1.out.2.keep hA2 (by have := hfar.out; unfold FsAt.Far at this; simp; omega), hS2, hA2⟩)
  clear hS2 hA2 kF2
  go_wp2
  go_ret
  exact ⟨rfl, hE.out⟩
theorem step_err {fc : FuncId} {caps : Array Value} {P : World -> Value -> Prop} {m : Int} (hm50 : (m == 50) = false) (hent : ∀ (args : Array Value) (w : World), (callFunc fc args).run Tryz.prog w = .ok (.enter fc args) w) (hF : FsAt fb E rs hb w) (hfar : FsAt.Far fb E) (ok : E.Ok)
    (kD : Calls Tryz.prog fc caps w fun e w1 => ∃ l ev, e = .returned ev /\ Chain w1 l (num m) ev /\ P w1 ev /\ FsAt fb E rs hb w1 /\ S8z E K D f u lim w1) :
    Calls Tryz.prog 54 #[ptr fb, .func (.func fc) #[] caps] w fun e w2 => ∃ l ev w1, e = .returned ev /\ Chain w2 l (num m) ev /\ P w1 ev /\ FsAt fb E rs hb w2 /\ S8z E K D f u lim w2 /\ Apart [E.mb, fb] w1 w2 := by
  have d7 := hF.c7
  have hlt := hF.lt
  replace kD := hidden kD
  have kDr := hidden (fun (wx : World) (hx : S8z E K D f u lim wx) => S8z.drop ok hx)
  replace hfar := hidden hfar
  clear hF ok
  go_enter Tryz.func54, Tryz.ntmps54
  go_wp2_with fail
  refine (kD.out).mono ?_
  rintro ev w1 ⟨l, er, rfl, hc, hP, hF1, hS1⟩
  have d0 := hF1.c0
  have hlt1 := hF1.lt
  have kD2 := hidden (kDr.out _ hS1)
  obtain ⟨ut, uv, hev⟩ := Chain.held hc (Or.inr ⟨_, _, rfl⟩)
  have hno := hidden (fun b (hb' : b ∈ [E.mb, fb]) (s : ByteArray) => show w1.cell? ⟨b, 0, none⟩ ≠ some (.string s) from by
    simp only [List.mem_cons, List.not_mem_nil, or_false] at hb'
    rcases hb' with rfl | rfl
    · rw [hS1.to.mapNo 0]; exact fun e => by cases e
    · rw [hF1.c0]; exact fun e => by cases e)
  have hE1 := hidden (And.intro hP (And.intro hF1 (And.intro hc hS1)))
  clear hP hF1 hS1 kDr kD hc
  subst hev
  go_wp2_with fail
  refine (kD2.out).mono ?_
  rintro ev w2 ⟨rfl, hS2, hA2⟩
  have hF2 := hE1.out.2.1.keep hA2 (by have := hfar.out; unfold FsAt.Far at this; simp; omega)
  have e7 := hF2.c7
  have g7 := hF2.f7
  have hlt2 := hF2.lt
  have hc2 := Chain.apart hA2 (fun b hb' s => hno.out b (by simp only [List.mem_singleton] at hb'; simp [hb']) s) l _ _ hE1.out.2.2.1
  have kIs := is_chain m 50 w2 l _ hc2
  rw [hm50] at kIs
  replace kIs := hidden kIs
  have hE2 := hidden (And.intro hS2 (And.intro hF2 (And.intro hc2 hA2)))
  clear hS2 hA2 kD2 hF2 hc2
  go_wp2_with fail
  refine (kIs.out).mono ?_
  rintro ev w3 ⟨rfl, hw3⟩
  subst w3
  have hset : Apart [fb] w2 (w2.setCell ⟨fb, 7, none⟩ (.bool false)) := (Apart.refl [fb] w2).setCell (p := ⟨fb, 7, none⟩) (by simp) _
  have hE := hidden (show Chain (w2.setCell ⟨fb, 7, none⟩ (.bool false)) l (num m) (.iface ut uv) /\ P w1 (.iface ut uv) /\ FsAt fb E rs hb (w2.setCell ⟨fb, 7, none⟩ (.bool false)) /\ S8z E K D f u lim (w2.setCell ⟨fb, 7, none⟩ (.bool false)) /\ Apart [E.mb, fb] w1 (w2.setCell ⟨fb, 7, none⟩ (.bool false)) from by
    obtain ⟨q1, q2, q3, q4⟩ := hE2.out
    have o : ∀ j, j ≠ 7 -> (w2.setCell ⟨fb, 7, none⟩ (.bool false)).cell? ⟨fb, j, none⟩ = w2.cell? ⟨fb, j, none⟩ := fun j hj => World.cell?_setCell_other _ _ _ _ (by simp <;> omega)
    refine ⟨Chain.apart hset (fun b hb' s => ?_) l _ _ q3, hE1.out.1, ⟨(o 0 (by omega)).trans q2.c0, (o 1 (by omega)).trans q2.c1, (o 2 (by omega)).trans q2.c2, (o 3 (by omega)).trans q2.c3, (o 4 (by omega)).trans q2.c4, (o 5 (by omega)).trans q2.c5, (o 6 (by omega)).trans q2.c6, World.cell?_setCell_same' _ _ _ (by rw [q2.c7]; rfl), by simpa using q2.f7⟩, q1.keepF hset hfar.out, (q4.mono (fun x hx _ => by simp at hx ⊢; exact Or.inl hx)).trans (hset.mono (fun x hx _ => by simp at hx ⊢; exact Or.inr hx))⟩
    rw [List.mem_singleton.1 hb', q2.c0]
    exact fun e => by cases e)
  clear hE1 hE2 hset kIs hno
  go_wp2
  go_ret
  exact ⟨l, _, w1, rfl, hE.out⟩
end
abbrev fnV (i k : Int) : Value := .agg #[.int .i64 i, .int .i64 k]
structure FnAt (w : World) (b : Nat) (i k : Int) : Prop where
  c0 : w.cell? ⟨b, 0, none⟩ = some (.int .i64 i)
  c1 : w.cell? ⟨b, 1, none⟩ = some (.int .i64 k)
  f0 : w.frozen? ⟨b, 0, none⟩ = false
  f1 : w.frozen? ⟨b, 1, none⟩ = false
theorem fn_new (w : World) (i k : Int) : FnAt (w.alloc (Obj.cells #[.int .i64 i, .int .i64 k] 105)) w.heap.size i k := ⟨by simp, by simp, by simp, by simp⟩
theorem FnAt.lt {w : World} {b : Nat} {i k : Int} (h : FnAt w b i k) : b < w.heap.size := lt_of_cell (a := ⟨b, 0, none⟩) h.c0
theorem FnAt.keep {w w' : World} {b : Nat} {i k : Int} {bs : List Nat} (h : FnAt w b i k) (ha : Apart bs w w') (hn : b ∉ bs) : FnAt w' b i k :=
  ⟨(ha.cell (p := ⟨b, 0, none⟩) h.lt hn).trans h.c0, (ha.cell (p := ⟨b, 1, none⟩) h.lt hn).trans h.c1, (ha.frozen (p := ⟨b, 0, none⟩) h.lt hn).trans h.f0, (ha.frozen (p := ⟨b, 1, none⟩) h.lt hn).trans h.f1⟩
theorem FnAt.below {w w' : World} {b : Nat} {i k : Int} (h : FnAt w b i k) (hb : Below w.heap.size w w') : FnAt w' b i k := h.keep (Apart.of_below (bs := []) hb) (by simp)
theorem load_fnode {w : World} {b : Nat} {i k : Int} (h : FnAt w b i k) : (loadVar 105 ⟨b, 0, none⟩).run Tryz.prog w = .ok (fnV i k) w := by
  have c0 := h.c0
  have c1 := h.c1
  clear h
  go_simp
theorem fn_stored {w : World} {b : Nat} {i k i' k' : Int} (h : FnAt w b i k) : FnAt ((w.setCell ⟨b, 0, none⟩ (.int .i64 i')).setCell ⟨b, 1, none⟩ (.int .i64 k')) b i' k' := by
  have e1 : (w.setCell ⟨b, 0, none⟩ (.int .i64 i')).cell? ⟨b, 1, none⟩ = some (.int .i64 k) := (World.cell?_setCell_other _ _ _ _ (by simp)).trans h.c1
  exact ⟨(World.cell?_setCell_other _ _ _ _ (by simp)).trans (World.cell?_setCell_same' _ _ _ (by rw [h.c0]; rfl)), World.cell?_setCell_same' _ _ _ (by rw [e1]; rfl), by simpa using h.f0, by simpa using h.f1⟩
theorem fn_apart (w : World) (b : Nat) (x y : Value) : Apart [b] w ((w.setCell ⟨b, 0, none⟩ x).setCell ⟨b, 1, none⟩ y) := ((Apart.refl [b] w).setCell (p := ⟨b, 0, none⟩) (by simp) x).setCell (p := ⟨b, 1, none⟩) (by simp) y
theorem ret_fnode {fn : Func} {p u : Tmp} (h : fn.results = #[.cell p 105, .tmp u]) {tmps : Array Value} {w : World} {b : Nat} {i k : Int} (hp : tmps.getD p undef = ptr b) (hn : FnAt w b i k) :
    (results fn tmps).run Tryz.prog w = .ok (.tuple #[fnV i k, tmps.getD u undef]) w := by
  rw [results_cell_tmp h, hp]
  simp [asAddr, Result.andThen, load_fnode hn]
theorem fn_end {w w4 : World} {b : Nat} {i k i' k' : Int} (hN : FnAt w4 b i k) (hB : Below w.heap.size w w4) (hwb : w.heap.size <= b) :
    FnAt ((w4.setCell ⟨b, 0, none⟩ (.int .i64 i')).setCell ⟨b, 1, none⟩ (.int .i64 k')) b i' k' /\ Below w.heap.size w ((w4.setCell ⟨b, 0, none⟩ (.int .i64 i')).setCell ⟨b, 1, none⟩ (.int .i64 k')) :=
  ⟨fn_stored hN, hB.trans ((fn_apart w4 b _ _).below (by simp; exact hwb) hB.size)⟩
def bkL (n : Nat) : Nat := (blk ((32 * n : Nat) : Int)).toNat
theorem bkL_eq (n : Nat) : (bkL n : Int) = blk ((32 * n : Nat) : Int) := by
  have := blk_range ((32 * n : Nat) : Int)
  unfold bkL
  omega
theorem upd_self {α : Type} (D : Nat -> α) (p : Nat) : upd D p (D p) = D := by
  funext j
  unfold upd
  split
  · rename_i h; rw [h]
  · rfl
def dx (E : TE) (p : Nat) (K : Nat -> Nat) (D : Nat -> List Int) (n f u lim : Nat) : DX := ⟨E, p, K, D, f + bkL n, bkL n, u, lim⟩
section
variable {fb rs hb : Nat} {E : TE} {w w' : World} {K : Nat -> Nat} {D : Nat -> List Int} {f u lim : Nat}
structure DirAt (E : TE) (db p : Nat) (w : World) : Prop where
  d0 : w.cell? ⟨db, 0, none⟩ = some (ptr E.tb)
  d1 : w.cell? ⟨db, 1, none⟩ = some (.int .i64 (p : Nat))
theorem DirAt.lt {db p : Nat} (h : DirAt E db p w) : db < w.heap.size := lt_of_cell (a := ⟨db, 0, none⟩) h.d0
theorem DirAt.keep {db p : Nat} {bs : List Nat} (h : DirAt E db p w) (ha : Apart bs w w') (hn : db ∉ bs) : DirAt E db p w' := ⟨(ha.cell (p := ⟨db, 0, none⟩) h.lt hn).trans h.d0, (ha.cell (p := ⟨db, 1, none⟩) h.lt hn).trans h.d1⟩
theorem DirAt.below {db p : Nat} (h : DirAt E db p w) (hB : Below w.heap.size w w') : DirAt E db p w' := h.keep (Apart.of_below (bs := []) hB) (by simp)
theorem DirAt.ne {db p : Nat} (h : DirAt E db p w) (hs : S8 E K D f u lim w) : db ≠ E.mb := by
  rintro rfl
  have := h.d0
  rw [hs.mapNo 0] at this
  cases this
theorem S8.dl (h : S8 E K D f u lim w) {p db : Nat} {L : List Rec} (hD : D p = recsL L) (hg : GoodL L) (hd : DirAt E db p w) : DL (dx E p K D L.length f u lim) db L w := by
  have hl := recsL_len hg.each
  have hb := bkL_eq L.length
  refine ⟨⟨⟨f, u, ?_, ?_, fun _ => ?_⟩, hd.d0, hd.d1, hd.ne h⟩, hg⟩
  · show S8 E K (upd D p (recsL L)) f u lim w
    rw [<- hD, upd_self]
    exact h
  · rw [hl]
    show (f : Int) + blk ((32 * L.length : Nat) : Int) = ((f + bkL L.length : Nat) : Int)
    omega
  · rw [hl]
    show (bkL L.length : Int) + (u : Int) <= (u : Int) + blk ((32 * L.length : Nat) : Int)
    omega
theorem DL.s8 {p n db : Nat} {L : List Rec} (h : DL (dx E p K D n f u lim) db L w) : ∃ f' u', S8 E K (upd D p (recsL L)) f' u' lim w /\ f' + bkL L.length = f + bkL n /\ (bkL n <= bkL L.length -> bkL n + u <= u' + bkL L.length) := by
  obtain ⟨f', u', h1, h2, h3⟩ := h.b.s
  have hl := recsL_len h.g.each
  have hb := bkL_eq L.length
  rw [hl] at h2 h3
  have e2 : (f' : Int) + blk ((32 * L.length : Nat) : Int) = ((f + bkL n : Nat) : Int) := h2
  have e3 : ((bkL n : Nat) : Int) <= blk ((32 * L.length : Nat) : Int) -> ((bkL n : Nat) : Int) + (u : Int) <= (u' : Int) + blk ((32 * L.length : Nat) : Int) := h3
  exact ⟨f', u', h1, by omega, fun hx => by have := e3 (by omega); omega⟩
theorem eok (ok : E.Ok) {p : Nat} (p1 : 1 <= p) (p2 : p <= E.tn) (hk : K p = 2) (n : Nat) : EOk (dx E p K D n f u lim) := ⟨ok, p1, p2, hk⟩
theorem child_none (h : S8 E K D f u lim w) (ok : E.Ok) {p db : Nat} {L : List Rec} (p1 : 1 <= p) (p2 : p <= E.tn) (hk : K p = 2) (hD : D p = recsL L) (hg : GoodL L) (hd : DirAt E db p w) (s : List UInt8) (hs : okB s = true) (hno : ∀ r ∈ L, r.s ≠ s) :
    Calls Tryz.prog 61 #[ptr fb, ptr db, .string (mkB s)] w fun e w' => ∃ b, e = .returned (.tuple #[fnV 0 0, flt b]) /\ Chain w' [(sDir, mkB s)] (num 11) (flt b) /\ Below w.heap.size w w' := by
  have hBa : Below w.heap.size w (w.alloc (Obj.cells #[.int .i64 0, .int .i64 0] 105)) := (Below.refl _ _).alloc (Nat.le_refl _) _
  have hNa := fn_new w 0 0
  have hdl := (h.more hBa).dl hD hg (hd.below hBa)
  have kF := hidden (dFind_err (dfind_none hdl (eok ok p1 p2 hk _) s hs hno))
  have hsa : (w.alloc (Obj.cells #[.int .i64 0, .int .i64 0] 105)).heap.size = w.heap.size + 1 := by simp
  generalize hwa : w.alloc (Obj.cells #[.int .i64 0, .int .i64 0] 105) = wa at *
  replace hBa := hidden hBa
  replace hNa := hidden hNa
  clear h ok hdl hd hno
  go_enter Tryz.func61, Tryz.ntmps61
  go_wp2_with fail
  refine (kF.out).mono ?_
  rintro ev w4 ⟨bk, rfl, hc, hB4⟩
  have hN4 := hNa.out.below hB4
  have r0 := hN4.c0
  have r1 := hN4.c1
  have f0 := hN4.f0
  have f1 := hN4.f1
  have hlt4 := hN4.lt
  have hE := hidden (And.intro hc (And.intro hN4 (hBa.out.trans (hB4.mono hBa.out.size))))
  clear hc hN4 hB4 hwa kF
  go_wp2
  (try simp only [Exit.inBlock, Exit.then])
  obtain ⟨e1, e2, e3⟩ := hE.out
  obtain ⟨q1, q2⟩ := fn_end (i' := 0) (k' := 0) e2 e3 (Nat.le_refl _)
  exact bodyPost_ret (ret_fnode rfl rfl q1) rfl ⟨bk, rfl, Chain.apart (fn_apart w4 w.heap.size _ _) (fun b hb' s => by rw [List.mem_singleton.1 hb', e2.c0]; exact fun e => by cases e) _ _ _ e1, q2⟩
theorem child_at (hF : FsAt fb E rs hb w) (h : S8 E K D f u lim w) (ok : E.Ok) {p db : Nat} {L : List Rec} (p1 : 1 <= p) (p2 : p <= E.tn) (hk : K p = 2) (hD : D p = recsL L) (hg : GoodL L) (hd : DirAt E db p w) {i : Nat} {r : Rec} (hr : L[i]? = some r) (hr2 : r.id <= E.tn) (hrk : K r.id ≠ 0) :
    Calls Tryz.prog 61 #[ptr fb, ptr db, .string (mkB r.s)] w fun e w' => e = .returned (.tuple #[fnV (r.id : Nat) (K r.id : Nat), .nilIface]) /\ Below w.heap.size w w' := by
  have hBa : Below w.heap.size w (w.alloc (Obj.cells #[.int .i64 0, .int .i64 0] 105)) := (Below.refl _ _).alloc (Nat.le_refl _) _
  have hNa := fn_new w 0 0
  have hdl := (h.more hBa).dl hD hg (hd.below hBa)
  have kF := hidden (dFind_at hdl (eok ok p1 p2 hk _) hr)
  have hr1 : 1 <= r.id := (hg.each r (List.mem_of_getElem? hr)).lo
  have kK := hidden (fun (wx : World) (hx : Below w.heap.size w wx) => S8.kind ok (h.more hx) hr1 hr2)
  have kC2 := hidden (fun (wx : World) (hx : Below w.heap.size w wx) => (hF.below hx).c2)
  have kIn := hidden (fun (wx : World) => is_nil 1 wx)
  have hlt := hF.lt
  have hkk : ¬ ((K r.id : Nat) : Int) = 0 := by omega
  generalize ((K r.id : Nat) : Int) = KK at *
  generalize hwa : w.alloc (Obj.cells #[.int .i64 0, .int .i64 0] 105) = wa at *
  replace hBa := hidden hBa
  replace hNa := hidden hNa
  clear hF h ok hdl hd hr
  go_enter Tryz.func61, Tryz.ntmps61
  go_wp2_with fail
  refine (kF.out).mono ?_
  rintro ev w4 ⟨rfl, hB4⟩
  have hb4 := hidden (hBa.out.trans (hB4.mono hBa.out.size))
  have hN4 := hidden (hNa.out.below hB4)
  have t2 := kC2.out _ hb4.out
  have kK4 := hidden (kK.out _ hb4.out)
  have hlt4 : fb < w4.heap.size := lt_of_cell (a := ⟨fb, 2, none⟩) t2
  clear hB4 hwa kF kK
  go_wp2_with fail
  refine (kK4.out).mono ?_
  rintro ev w5 ⟨rfl, hB5⟩
  have hb5 := hidden (hb4.out.trans (hB5.mono hb4.out.size))
  have hN5 := hN4.out.below hB5
  have r0 := hN5.c0
  have r1 := hN5.c1
  have f0 := hN5.f0
  have f1 := hN5.f1
  have hlt5 := hN5.lt
  have hE := hidden (And.intro hN5 hb5.out)
  clear hB5 hN5 hb5 kK4 hb4 hN4 t2 kC2
  go_wp2_with fail
  refine (kIn.out _).mono ?_
  rintro ev w6 ⟨rfl, hw6⟩
  subst w6
  go_wp2
  (try simp only [Exit.inBlock, Exit.then])
  obtain ⟨e2, e3⟩ := hE.out
  obtain ⟨q1, q2⟩ := fn_end (i' := ((r.id : Nat) : Int)) (k' := KK) e2 e3 (Nat.le_refl _)
  exact bodyPost_ret (ret_fnode rfl rfl q1) rfl ⟨rfl, q2⟩
end
structure TreeOk (tn : Nat) (K : Nat -> Nat) (D : Nat -> List Int) (T : Nat -> List Rec) : Prop where
  root : K 1 = 2
  recs : ∀ p, 1 <= p -> p <= tn -> K p = 2 -> D p = recsL (T p) /\ GoodL (T p)
  used : ∀ p, 1 <= p -> p <= tn -> K p = 2 -> ∀ r ∈ T p, r.id <= tn /\ K r.id ≠ 0
def lookT (L : List Rec) (s : List UInt8) : Option Rec := L.find? fun q => q.s == s
theorem lookT_some {L : List Rec} {s : List UInt8} {r : Rec} (h : lookT L s = some r) : r.s = s /\ ∃ i : Nat, L[i]? = some r := by
  have h1 := List.find?_some h
  have h2 := List.mem_of_find?_eq_some h
  obtain ⟨i, hi, e⟩ := List.getElem_of_mem h2
  exact ⟨by simpa using h1, i, by rw [List.getElem?_eq_getElem hi, e]⟩
theorem lookT_none {L : List Rec} {s : List UInt8} (h : lookT L s = none) : ∀ r ∈ L, r.s ≠ s := fun r hr e => by
  have := List.find?_eq_none.1 h r hr
  simp [e] at this
def walkT (K : Nat -> Nat) (T : Nat -> List Rec) : Nat -> List (List UInt8) -> Except Int Nat
  | p, [] => .ok p
  | p, s :: r => if K p = 2 then match lookT (T p) s with
    | none => .error 11
    | some q => walkT K T q.id r
    else .error 14
section
variable {fb rs hb : Nat} {E : TE} {w w' : World} {K : Nat -> Nat} {D : Nat -> List Int} {T : Nat -> List Rec} {f u lim : Nat}
def WalkAns (K : Nat -> Nat) (x : Except Int Nat) (w : World) (e : Ending) : Prop :=
  (∃ q, x = .ok q /\ e = .returned (.tuple #[fnV (q : Nat) (K q : Nat), .nilIface])) \/ (∃ m b nm, x = .error m /\ (m = 11 \/ m = 14) /\ e = .returned (.tuple #[fnV 0 0, flt b]) /\ Chain w [(sDir, nm)] (num m) (flt b))
theorem fwalk_calls (hF : FsAt fb E rs hb w) (h : S8 E K D f u lim w) (ok : E.Ok) (ht : TreeOk E.tn K D T) (htn : 1 <= E.tn) {v : Value} {l : List (List UInt8)} (hv : TxtsAt w v l) (hl : l.length <= 1000) (hok : ∀ s ∈ l, okB s = true) :
    Calls Tryz.prog 115 #[ptr fb, v] w fun e w' => WalkAns K (walkT K T 1 l) w' e /\ Below w.heap.size w w' := by
  have hroot := ht.root
  have kS := hidden (fun (wx : World) (hx : Below w.heap.size w wx) => h.more hx)
  have kF := hidden (fun (wx : World) (hx : Below w.heap.size w wx) => hF.below hx)
  have kT := hidden (fun (wx : World) (hx : Below w.heap.size w wx) => hv.below hx)
  replace ok := hidden ok
  replace ht := hidden ht
  replace hok := hidden hok
  have hlt := hF.lt
  obtain ⟨a, cap, rfl, hlc, hcs⟩ := hv
  have hsz0 : w.heap.size <= w.heap.size + 1 := by omega
  obtain ⟨w1, hw1, hB1, hN1, hN2, hs1⟩ : ∃ w1, (w.alloc (Obj.cells #[.int .i64 0, .int .i64 0] 105)).alloc (Obj.cells #[.int .i64 1, .int .i64 2] 105) = w1 /\ Below w.heap.size w w1 /\ FnAt w1 w.heap.size 0 0 /\ FnAt w1 (w.heap.size + 1) 1 2 /\ w1.heap.size = w.heap.size + 2 := by
    generalize e1 : w.alloc (Obj.cells #[.int .i64 0, .int .i64 0] 105) = W1
    have a1 : FnAt W1 w.heap.size 0 0 := by rw [<- e1]; exact fn_new w 0 0
    have s1 : W1.heap.size = w.heap.size + 1 := by rw [<- e1]; simp
    have b1 : Below w.heap.size w W1 := by rw [<- e1]; exact (Below.refl _ _).alloc (Nat.le_refl _) _
    have hBx : Below W1.heap.size W1 (W1.alloc (Obj.cells #[.int .i64 1, .int .i64 2] 105)) := (Below.refl _ _).alloc (Nat.le_refl _) _
    exact ⟨_, rfl, b1.trans (hBx.mono b1.size), a1.below hBx, by rw [<- s1]; exact fn_new W1 1 2, by simp [s1]⟩
  have hI1 := hidden (And.intro hN1 (And.intro hN2 hB1))
  clear hF h hcs hN1 hN2 hB1
  generalize hLL : l.length = LL at *
  go_enter Tryz.func115, Tryz.ntmps115
  go_upto_region 2 with fail
  clear hw1
  go_wp2_with fail
  go_loopg [14] (LL + 1) (fun gk q wr => ∃ (j p : Nat), j <= LL /\ gk = LL + 1 - j /\ q = .int .i64 j /\ Hid (walkT K T 1 l = walkT K T p (l.drop j) /\ (1 <= p /\ p <= E.tn) /\ FnAt wr w.heap.size 0 0 /\ FnAt wr (w.heap.size + 1) (p : Nat) (K p : Nat) /\ Below w.heap.size w wr))
  case atStart => exact ⟨0, 1, by omega, rfl, rfl, hidden ⟨by rw [List.drop_zero], ⟨Nat.le_refl _, htn⟩, hI1.out.1, by rw [hroot]; exact hI1.out.2.1, hI1.out.2.2⟩⟩
  case round =>
    obtain ⟨j, p, hj, hgk, rfl, hI⟩ := hrel
    replace hgk := hidden hgk
    clear hI1
    by_cases hlt' : j < LL
    · obtain ⟨s, hs⟩ : ∃ s, l[j]? = some s := ⟨_, List.getElem?_eq_getElem (by omega)⟩
      obtain ⟨i1, ⟨p1, p2⟩, i3, i4, i5⟩ := hI.out
      obtain ⟨a', cap', hv', -, hcs'⟩ := kT.out wr i5
      obtain ⟨rfl, -, -⟩ := Value.slice.inj hv'
      obtain ⟨tb, toff, rfl, -, hx⟩ := hcs' (by intro e; rw [e] at hs; simp at hs)
      have cs := hx j s hs
      have hso := hok.out s (List.mem_of_getElem? hs)
      have hji : (j : Int) < (LL : Int) := by omega
      have hdrop : l.drop j = s :: l.drop (j + 1) := by
        rw [List.drop_eq_getElem_cons (by omega)]
        congr 1
        exact (List.getElem?_eq_some_iff.1 hs).2
      rw [hdrop] at i1
      have x0 := i4.c0
      have x1 := i4.c1
      have g0 := i4.f0
      have g1 := i4.f1
      have r0 := i3.c0
      have r1 := i3.c1
      have h0 := i3.f0
      have h1 := i3.f1
      have t2 := (kF.out wr i5).c2
      have hltw : fb < wr.heap.size := (kF.out wr i5).lt
      have hI' := hidden (And.intro i1 (And.intro i3 (And.intro i4 i5)))
      by_cases hkp : K p = 2
      · have kO := hidden (fun (wx : World) (hx : Below wr.heap.size wr wx) => of_ok ok.out (kS.out wx (i5.trans (hx.mono i5.size))) p1 p2 hkp)
        have hTp := hidden (ht.out.recs p p1 p2 hkp)
        have hUp := hidden (ht.out.used p p1 p2 hkp)
        have hwalk : walkT K T p (s :: l.drop (j + 1)) = match lookT (T p) s with | none => .error 11 | some q => walkT K T q.id (l.drop (j + 1)) := by
          rw [walkT, if_pos hkp]
        rw [hwalk] at i1
        replace i1 := hidden i1
        clear hwalk i3 i4 hdrop hx hcs' hv' hI
        go_upto_region 5 with fail
        go_region_with (go_at_call 101; refine (kO.out _ (below_drew1 wr)).mono ?_; rintro ev w4 ⟨db, rfl, hdb, d0, d1, hB4⟩)
        all_goals
          have hb4 : Below wr.heap.size wr w4 := (below_drew1 wr).trans hB4
          have hbw4 : Below w.heap.size w w4 := i5.trans (hb4.mono i5.size)
          have hN4 := hidden (And.intro (hI'.out.2.1.below hb4) (hI'.out.2.2.1.below hb4))
          have hD4 : DirAt E db p w4 := ⟨d0, d1⟩
          cases hlk : lookT (T p) s with
          | none =>
            rw [hlk] at i1
            have kC := hidden (child_none (fb := fb) (kS.out w4 hbw4) ok.out p1 p2 hkp hTp.out.1 hTp.out.2 hD4 s hso (lookT_none hlk))
            go_wp2_with fail
            refine (kC.out).mono ?_
            rintro ev w5 ⟨bk, rfl, hc, hB5⟩
            have hR5 := hN4.out.1.below hB5
            have hX5 := hN4.out.2.below hB5
            have x0' := hX5.c0
            have x1' := hX5.c1
            have g0' := hX5.f0
            have g1' := hX5.f1
            have r0' := hR5.c0
            have r1' := hR5.c1
            have h0' := hR5.f0
            have h1' := hR5.f1
            have hlX := hX5.lt
            have hlR := hR5.lt
            have hE := hidden (And.intro hc (And.intro hR5 (And.intro hX5 (hbw4.trans (hB5.mono hbw4.size)))))
            clear hc hR5 hX5 hB5 kC hN4 hI' x0 x1 r0 r1 g0 g1 h0 h1 hD4 d0 d1
            go_wp2
            (try simp only [Exit.inBlock, Exit.then])
            obtain ⟨e1, e2, e3, e4⟩ := hE.out
            have hA1 := fn_apart w5 (w.heap.size + 1) (.int .i64 0) (.int .i64 0)
            have e2' := e2.keep hA1 (by simp)
            have hc1 := Chain.apart hA1 (fun b hb' s => by rw [List.mem_singleton.1 hb', e3.c0]; exact fun e => by cases e) _ _ _ e1
            obtain ⟨q1, q2⟩ := fn_end (w := w) (i' := 0) (k' := 0) e2' (e4.trans (hA1.below (by simp) e4.size)) (Nat.le_refl _)
            exact bodyPost_ret (ret_fnode rfl rfl q1) rfl ⟨Or.inr ⟨11, bk, _, i1.out, Or.inl rfl, rfl, Chain.apart (fn_apart _ w.heap.size _ _) (fun b hb' s => by rw [List.mem_singleton.1 hb', e2'.c0]; exact fun e => by cases e) _ _ _ hc1⟩, q2⟩
          | some q =>
            rw [hlk] at i1
            obtain ⟨hqs, iq, hiq⟩ := lookT_some hlk
            subst hqs
            obtain ⟨hq2, hqk⟩ := hUp.out q (List.mem_of_getElem? hiq)
            have hq1 : 1 <= q.id := (hTp.out.2.each q (List.mem_of_getElem? hiq)).lo
            have kC := hidden (child_at (kF.out w4 hbw4) (kS.out w4 hbw4) ok.out p1 p2 hkp hTp.out.1 hTp.out.2 hD4 hiq hq2 hqk)
            go_wp2_with fail
            refine (kC.out).mono ?_
            rintro ev w5 ⟨rfl, hB5⟩
            have hR5 := hN4.out.1.below hB5
            have hX5 := hN4.out.2.below hB5
            have x0' := hX5.c0
            have x1' := hX5.c1
            have g0' := hX5.f0
            have g1' := hX5.f1
            have r0' := hR5.c0
            have r1' := hR5.c1
            have h0' := hR5.f0
            have h1' := hR5.f1
            have hlX := hX5.lt
            have hlR := hR5.lt
            have hE := hidden (And.intro hR5 (And.intro hX5 (hbw4.trans (hB5.mono hbw4.size))))
            clear hR5 hX5 hB5 kC hN4 hI' x0 x1 r0 r1 g0 g1 h0 h1 hD4 d0 d1
            have hqq := hidden (And.intro hq1 hq2)
            clear hq1 hq2 hqk
            go_wp2
            go_roundg (LL + 1 - (j + 1))
            case measure => rw [hgk.out]; omega
            case rel =>
              obtain ⟨e2, e3, e4⟩ := hE.out
              have hA1 := fn_apart w5 (w.heap.size + 1) (.int .i64 ((q.id : Nat) : Int)) (.int .i64 ((K q.id : Nat) : Int))
              exact ⟨j + 1, q.id, by omega, rfl, by go_num, hidden ⟨i1.out, hqq.out, e2.keep hA1 (by simp), fn_stored e3, e4.trans (hA1.below (by simp) e4.size)⟩⟩
      · have kO := hidden (fun (wx : World) (hx : Below wr.heap.size wr wx) => of_kind ok.out (kS.out wx (i5.trans (hx.mono i5.size))) p1 p2 hkp)
        rw [walkT, if_neg hkp] at i1
        replace i1 := hidden i1
        clear i3 i4 hdrop hx hcs' hv' hI
        go_upto_region 5 with fail
        go_region_with (go_at_call 101; refine (kO.out _ (below_drew1 wr)).mono ?_; rintro ev w4 ⟨bk, rfl, hc, hB4⟩)
        all_goals
          have hb4 : Below wr.heap.size wr w4 := (below_drew1 wr).trans hB4
          have hbw4 : Below w.heap.size w w4 := i5.trans (hb4.mono i5.size)
          have hR5 := hI'.out.2.1.below hb4
          have hX5 := hI'.out.2.2.1.below hb4
          have x0' := hX5.c0
          have x1' := hX5.c1
          have g0' := hX5.f0
          have g1' := hX5.f1
          have r0' := hR5.c0
          have r1' := hR5.c1
          have h0' := hR5.f0
          have h1' := hR5.f1
          have hlX := hX5.lt
          have hlR := hR5.lt
          have hE := hidden (And.intro hc (And.intro hR5 hbw4))
          clear hc hR5 hX5 hB4 hb4 hbw4 kO hI' x0 x1 r0 r1 g0 g1 h0 h1
          go_wp2
          (try simp only [Exit.inBlock, Exit.then])
          obtain ⟨e1, e2, e4⟩ := hE.out
          obtain ⟨q1, q2⟩ := fn_end (w := w) (i' := 0) (k' := 0) e2 e4 (Nat.le_refl _)
          exact bodyPost_ret (ret_fnode rfl rfl q1) rfl ⟨Or.inr ⟨14, bk, _, i1.out, Or.inr rfl, rfl, Chain.apart (fn_apart _ w.heap.size _ _) (fun b hb' s => by rw [List.mem_singleton.1 hb', e2.c0]; exact fun e => by cases e) _ _ _ e1⟩, q2⟩
    · obtain rfl : j = LL := by omega
      obtain ⟨i1, ⟨p1, p2⟩, i3, i4, i5⟩ := hI.out
      rw [List.drop_of_length_le (by omega), walkT] at i1
      have x0 := i4.c0
      have x1 := i4.c1
      have r0 := i3.c0
      have r1 := i3.c1
      have h0 := i3.f0
      have h1 := i3.f1
      have hlX := i4.lt
      have hlR := i3.lt
      have hE := hidden (And.intro i1 (And.intro i3 i5))
      clear i1 i3 i4 i5 hI
      go_wp2
      (try simp only [Exit.inBlock, Exit.then])
      obtain ⟨e1, e2, e4⟩ := hE.out
      obtain ⟨q1, q2⟩ := fn_end (w := w) (i' := ((p : Nat) : Int)) (k' := ((K p : Nat) : Int)) e2 e4 (Nat.le_refl _)
      exact bodyPost_ret (ret_fnode rfl rfl q1) rfl ⟨Or.inl ⟨p, e1, rfl⟩, q2⟩
end
def dirT (K : Nat -> Nat) (T : Nat -> List Rec) (l : List (List UInt8)) : Except Int Nat := match walkT K T 1 l with
  | .ok q => if K q = 2 then .ok q else .error 14
  | .error m => .error m
theorem walkT_in {tn : Nat} {K : Nat -> Nat} {D : Nat -> List Int} {T : Nat -> List Rec} (ht : TreeOk tn K D T) : ∀ (l : List (List UInt8)) (p q : Nat), 1 <= p -> p <= tn -> K p ≠ 0 -> walkT K T p l = .ok q -> 1 <= q /\ q <= tn /\ K q ≠ 0
  | [], p, q, h1, h2, h3, h => by
    obtain rfl : p = q := by simpa [walkT] using h
    exact ⟨h1, h2, h3⟩
  | s :: r, p, q, h1, h2, h3, h => by
    rw [walkT] at h
    by_cases hk : K p = 2
    · rw [if_pos hk] at h
      cases hl : lookT (T p) s with
      | none => rw [hl] at h; cases h
      | some x =>
        rw [hl] at h
        obtain ⟨-, i, hi⟩ := lookT_some hl
        have hm := List.mem_of_getElem? hi
        obtain ⟨u1, u2⟩ := ht.used p h1 h2 hk x hm
        exact walkT_in ht r x.id q (((ht.recs p h1 h2 hk).2.each x hm).lo) u1 u2 h
    · rw [if_neg hk] at h; cases h
section
variable {fb rs hb : Nat} {E : TE} {w w' : World} {K : Nat -> Nat} {D : Nat -> List Int} {T : Nat -> List Rec} {f u lim : Nat}
theorem dirAt_calls (hF : FsAt fb E rs hb w) (h : S8 E K D f u lim w) (ok : E.Ok) (ht : TreeOk E.tn K D T) (htn : 1 <= E.tn) {v : Value} {l : List (List UInt8)} (hv : TxtsAt w v l) (hl : l.length <= 1000) (hok : ∀ s ∈ l, okB s = true) :
    Calls Tryz.prog 60 #[ptr fb, v] w fun e w' => ((∃ q db, dirT K T l = .ok q /\ e = .returned (.tuple #[ptr db, .nilIface]) /\ DirAt E db q w' /\ w.heap.size <= db /\ 1 <= q /\ q <= E.tn /\ K q = 2) \/ (∃ m b nm, dirT K T l = .error m /\ (m = 11 \/ m = 14) /\ e = .returned (.tuple #[.pointer none, flt b]) /\ Chain w' [(sDir, nm)] (num m) (flt b))) /\ Below w.heap.size w w' := by
  have kW := hidden (fwalk_calls hF h ok ht htn hv hl hok)
  have kF := hidden (fun (wx : World) (hx : Below w.heap.size w wx) => hF.below hx)
  have kS := hidden (fun (wx : World) (hx : Below w.heap.size w wx) => h.more hx)
  have hin := hidden (fun q (e : walkT K T 1 l = .ok q) => walkT_in ht l 1 q (Nat.le_refl _) htn (by rw [ht.root]; decide) e)
  obtain ⟨a, cap, rfl, -⟩ := hv
  replace ok := hidden ok
  clear hF h ht hok
  generalize l.length = LL at *
  go_enter Tryz.func60, Tryz.ntmps60
  go_wp2_with fail
  refine (kW.out).mono ?_
  rintro ev w1 ⟨(⟨q, hq, rfl⟩ | ⟨m, bk, nm, hq, hm, rfl, hc⟩), hB1⟩
  · obtain ⟨q1, q2, q3⟩ := hin.out q hq
    obtain ⟨w2, hw2, hB2, hN2⟩ : ∃ w2, w1.alloc (Obj.cells #[.int .i64 (q : Nat), .int .i64 (K q : Nat)] 105) = w2 /\ Below w1.heap.size w1 w2 /\ FnAt w2 w1.heap.size (q : Nat) (K q : Nat) := ⟨_, rfl, (Below.refl _ _).alloc (Nat.le_refl _) _, fn_new _ _ _⟩
    have hb2 : Below w.heap.size w w2 := hB1.trans (hB2.mono hB1.size)
    have c2 := (kF.out w2 hb2).c2
    have hltf := (kF.out w2 hb2).lt
    have n0 := hN2.c0
    have hltn := hN2.lt
    have hsz : w.heap.size <= w1.heap.size := hB1.size
    by_cases hk : K q = 2
    · have kO := hidden (fun (wx : World) (hx : Below w2.heap.size w2 wx) => of_ok ok.out (kS.out wx (hb2.trans (hx.mono hb2.size))) q1 q2 hk)
      have hd : Hid (dirT K T l = .ok q) := hidden (by unfold dirT; rw [hq]; show (if K q = 2 then _ else _) = _; rw [if_pos hk])
      have hbh := hidden hb2
      have hsz2 : w.heap.size <= w2.heap.size := hb2.size
      clear kW hB1 hB2 hN2 hb2 hin kF kS hq
      generalize ((K q : Nat) : Int) = KQ at *
      go_upto_region 4 with fail
      go_region_with (go_at_call 101; refine (kO.out _ (below_drew1 w2)).mono ?_; rintro ev w4 ⟨db, rfl, hdb, d0, d1, hB4⟩)
      all_goals
        have hE := hidden (And.intro (show DirAt E db q w4 from ⟨d0, d1⟩) (And.intro (show w.heap.size <= db from Nat.le_trans hsz2 hdb) (hbh.out.trans (((below_drew1 w2).trans hB4).mono hbh.out.size))))
        clear d0 d1 hdb hB4 kO
        go_wp2
        go_ret2
        exact ⟨Or.inl ⟨q, db, hd.out, rfl, hE.out.1, hE.out.2.1, q1, q2, hk⟩, hE.out.2.2⟩
    · have kO := hidden (fun (wx : World) (hx : Below w2.heap.size w2 wx) => of_kind ok.out (kS.out wx (hb2.trans (hx.mono hb2.size))) q1 q2 hk)
      have hd : Hid (dirT K T l = .error 14) := hidden (by unfold dirT; rw [hq]; show (if K q = 2 then _ else _) = _; rw [if_neg hk])
      have hbh := hidden hb2
      clear kW hB1 hB2 hN2 hb2 hin kF kS hq
      generalize ((K q : Nat) : Int) = KQ at *
      go_upto_region 4 with fail
      go_region_with (go_at_call 101; refine (kO.out _ (below_drew1 w2)).mono ?_; rintro ev w4 ⟨bk, rfl, hc, hB4⟩)
      all_goals
        have hE := hidden (And.intro hc (hbh.out.trans (((below_drew1 w2).trans hB4).mono hbh.out.size)))
        clear hc hB4 kO
        go_wp2
        go_ret2
        exact ⟨Or.inr ⟨14, bk, _, hd.out, Or.inr rfl, rfl, hE.out.1⟩, hE.out.2⟩
  · have hBa : Below w1.heap.size w1 (w1.alloc (Obj.cells #[.int .i64 0, .int .i64 0] 105)) := (Below.refl _ _).alloc (Nat.le_refl _) _
    have hd : dirT K T l = .error m := by unfold dirT; rw [hq]
    have hE := hidden (And.intro hd (And.intro hm (And.intro (Chain.below hBa _ _ _ hc) (hB1.trans (hBa.mono hB1.size)))))
    clear kW hc hB1 hBa hd hm hq hin
    go_wp2
    go_ret2
    exact ⟨Or.inr ⟨m, bk, nm, hE.out.1, hE.out.2.1, rfl, hE.out.2.2.1⟩, hE.out.2.2.2⟩
theorem fmay_calls (hF : FsAt fb E rs hb w) (h : S8 E K D f u lim w) (ok : E.Ok) (hkk : E.kk = E.k) (need : Int) (all : Bool) {yes : Bool} (kM : ∀ wx : World, Calls Tryz.prog 167 #[.int .i64 (f : Nat), .int .i64 (rs : Nat), .int .i64 need, .bool all] wx fun e w' => e = .returned (.bool yes) /\ w' = wx) :
    Calls Tryz.prog 119 #[ptr fb, .int .i64 need, .bool all] w fun e w' => e = .returned (if yes then .nilIface else num 15) /\ Below w.heap.size w w' := by
  have kF := hidden (S8.mfree ok hkk h)
  have c1 := hF.c1
  have hlt := hF.lt
  have kc4 := hidden (fun (wx : World) (hx : Below w.heap.size w wx) => (hF.below hx).c4)
  replace kM := hidden kM
  clear hF h ok
  go_enter Tryz.func119, Tryz.ntmps119
  go_wp2_with fail
  refine (kF.out).mono ?_
  rintro ev w1 ⟨rfl, hB1⟩
  have c4 := kc4.out _ hB1
  have hlt1 : fb < w1.heap.size := lt_of_cell (a := ⟨fb, 4, none⟩) c4
  replace hB1 := hidden hB1
  clear kF c1 kc4
  go_wp2_with fail
  refine (kM.out _).mono ?_
  rintro ev w2 ⟨rfl, hw2⟩
  subst w2
  cases yes
  · go_wp2
    go_ret
    exact ⟨rfl, hB1.out⟩
  · go_wp2
    go_ret
    exact ⟨rfl, hB1.out⟩
end
def TE.at (E : TE) (A : List Nat) (U R W : Nat -> Prop) (ku : Nat) : TE := { E with A := A, U := U, R := R, W := W, ku := ku }
structure TE.Pl (E : TE) : Prop where
  fit : Fits E.n E.blocks E.ma E.fr E.kk
  kk : E.k = E.kk
  live : E.left = -1
  abm : E.ab ≠ E.mb
  tbm : E.tb ≠ E.mb
  most : E.most = 87
  rlow : ∀ id, 1 <= id -> id <= E.tn -> E.ta + id - 1 < E.n /\ ((E.ta + id - 1 : Nat) : Int) < E.blocks
  dlow : ∀ i, i < E.k -> E.fr + i < E.n /\ ((E.fr + i : Nat) : Int) < E.blocks
  hout : ∀ i, i < E.k -> E.Out (homeA E.ma i)
  rout : ∀ id, 1 <= id -> id <= E.tn -> E.Out (E.ta + id - 1)
  dout : ∀ i, i < E.k -> E.Out (E.fr + i)
  room : E.at_ + needN E.most <= E.n
  hd : ∀ i j, i < E.k -> j < E.k -> homeA E.ma i ≠ E.fr + j
  hr : ∀ i id, i < E.k -> 1 <= id -> id <= E.tn -> homeA E.ma i ≠ E.ta + id - 1
  dr : ∀ i id, i < E.k -> 1 <= id -> id <= E.tn -> E.fr + i ≠ E.ta + id - 1
  ta : E.ta <= 100000
  tn : E.tn <= 200
  tn1 : 1 <= E.tn
  fr : E.fr + E.k <= 1000000
  far : E.Far
def homesL (E : TE) : List Nat := [E.ma] ++ if 1024 < E.k then [E.ma + 1] else []
theorem homes_mem {E : TE} (h : E.Pl) {i : Nat} (hi : i < E.k) : homeA E.ma i ∈ homesL E := by
  have h2 := h.fit.k2
  have h3 := h.kk
  unfold homeA homesL
  rcases Nat.lt_or_ge i 1024 with h1 | h1
  · rw [show i / 1024 = 0 by omega]; simp
  · rw [show i / 1024 = 1 by omega, if_pos (by omega)]; simp
theorem homes_in {E : TE} (h : E.Pl) {a : Nat} (ha : a ∈ homesL E) : ∃ i, i < E.k /\ a = homeA E.ma i := by
  have h1 := h.fit.k1
  have h3 := h.kk
  unfold homesL at ha
  rcases List.mem_append.1 ha with ha | ha
  · exact ⟨0, by omega, by simp at ha; simp [homeA, ha]⟩
  · split at ha
    · exact ⟨1024, by assumption, by simp at ha; simp [homeA, ha]⟩
    · cases ha
theorem homes_len (E : TE) : (homesL E).length <= 2 := by
  unfold homesL
  split <;> simp
theorem TE.Pl.ok {E : TE} (h : E.Pl) {A : List Nat} {U R W : Nat -> Prop} {ku : Nat} (hku : ku <= E.k) (few : A.length <= 87) (hin : ∀ a ∈ A, (∃ i, i < E.k /\ a = homeA E.ma i) \/ (∃ id, 1 <= id /\ id <= E.tn /\ a = E.ta + id - 1) \/ ∃ i, i < E.k /\ a = E.fr + i)
    (home : ∀ i, i < E.k -> homeA E.ma i ∈ A) (recs : ∀ id, 1 <= id -> id <= E.tn -> R id -> E.ta + id - 1 ∈ A) (data : ∀ i, i < E.k -> U i -> E.fr + i ∈ A) : (E.at A U R W ku).Ok where
  fit := h.fit
  le := Nat.le_of_eq h.kk
  kuk := hku
  live := by show E.left ≠ 0; rw [h.live]; decide
  abm := h.abm
  tbm := h.tbm
  few := by show A.length <= E.most; rw [h.most]; exact few
  most := by show E.most <= 1000; rw [h.most]; omega
  low := fun a ha => by
    show a < E.n /\ (a : Int) < E.blocks
    rcases hin a ha with ⟨i, i1, rfl⟩ | ⟨id, i1, i2, rfl⟩ | ⟨i, i1, rfl⟩
    · exact h.fit.home (by rw [<- h.kk]; exact i1)
    · exact h.rlow id i1 i2
    · exact h.dlow i i1
  home := home
  recs := recs
  data := data
  rlow := h.rlow
  dlow := h.dlow
  hout := h.hout
  rout := h.rout
  dout := h.dout
  aout := fun a ha => by
    show E.Out a
    rcases hin a ha with ⟨i, i1, rfl⟩ | ⟨id, i1, i2, rfl⟩ | ⟨i, i1, rfl⟩
    · exact h.hout i i1
    · exact h.rout id i1 i2
    · exact h.dout i i1
  room := h.room
  hd := h.hd
  hr := h.hr
  dr := h.dr
  ta := h.ta
  tn := h.tn
  fr := h.fr
  k := by
    show E.k <= 2100
    have := h.fit.k2
    have := h.kk
    omega
theorem freeN_reach (S : Nat -> Bool) : ∀ (k c : Nat), c <= freeN S k -> ∃ j, j <= k /\ freeN S j = c
  | 0, c, h => ⟨0, Nat.le_refl _, by simp [freeN] at h ⊢; omega⟩
  | k + 1, c, h => by
    rcases Nat.lt_or_ge (freeN S k) c with hl | hl
    · refine ⟨k + 1, Nat.le_refl _, ?_⟩
      have := freeN_succ S k
      split at this <;> omega
    · obtain ⟨j, h1, h2⟩ := freeN_reach S k c hl
      exact ⟨j, by omega, h2⟩
def freeL (S : Nat -> Bool) (fr ku : Nat) : List Nat := ((List.range ku).filter fun i => !S i).map fun i => fr + i
theorem freeL_len (S : Nat -> Bool) (fr ku : Nat) : (freeL S fr ku).length = freeN S ku := by
  unfold freeL freeN
  rw [List.length_map, List.countP_eq_length_filter]
def sumL (D : Nat -> List Int) : List Nat -> Nat
  | [] => 0
  | id :: r => (blk ((D id).length : Int)).toNat + sumL D r
section
variable {E : TE} {w w' : World} {K : Nat -> Nat} {D : Nat -> List Int} {f u lim : Nat}
theorem S8z.re (h : S8z E K D f u lim w) (hp : E.Pl) (rs ws : List Nat) (hrs : ∀ id ∈ rs, 1 <= id /\ id <= E.tn) (hws : ∀ id ∈ ws, 1 <= id /\ id <= E.tn) (c : Nat) (hc : c <= f) (hlen : 2 + rs.length + sumL D ws + c <= 87) :
    ∃ A U ku, (E.at A U (· ∈ rs) (· ∈ ws) ku).Ok /\ (c = 0 -> ku = 0) /\ S8z (E.at A U (· ∈ rs) (· ∈ ws) ku) K D f c lim w := by
  obtain ⟨mem, wr, N, q1, q2, q3, q4, q5, q6, q7, q8⟩ := h
  obtain ⟨ku, hk1, hk2, hk0⟩ : ∃ ku, ku <= E.k /\ freeN (bitM mem [] E.ma) ku = c /\ (c = 0 -> ku = 0) := by
    by_cases h0 : c = 0
    · exact ⟨0, Nat.zero_le _, by rw [h0]; rfl, fun _ => rfl⟩
    · obtain ⟨j, h1, h2⟩ := freeN_reach (bitM mem [] E.ma) E.k c (by rw [q6]; exact hc)
      exact ⟨j, h1, h2, fun e => absurd e h0⟩
  let U : Nat -> Prop := fun i => (i < ku /\ bitM mem [] E.ma i = false) \/ ∃ id ∈ ws, ((E.fr + i : Nat) : Int) ∈ (N id).list
  let A : List Nat := homesL E ++ (rs.map (fun id => E.ta + id - 1) ++ ((ws.flatMap fun id => (N id).list.map Int.toNat) ++ freeL (bitM mem [] E.ma) E.fr ku))
  have hfl : ∀ l : List Nat, (∀ id ∈ l, 1 <= id /\ id <= E.tn) -> (l.flatMap fun id => (N id).list.map Int.toNat).length = sumL D l := by
    intro l
    induction l with
    | nil => intro _; rfl
    | cons id r ih =>
      intro hl
      have hb := hl id (by simp)
      have h1 := (q2.says id hb.1 hb.2).1.2.2.1
      have hd : (D id).length = (N id).size := by rw [<- q2.data id hb.1 hb.2, bytesF_len]
      rw [List.flatMap_cons, List.length_append, ih (fun x hx => hl x (by simp [hx])), List.length_map, sumL, hd]
      omega
  have hAlen : A.length <= 87 := by
    show (homesL E ++ (rs.map (fun id => E.ta + id - 1) ++ ((ws.flatMap fun id => (N id).list.map Int.toNat) ++ freeL (bitM mem [] E.ma) E.fr ku))).length <= 87
    rw [List.length_append, List.length_append, List.length_append, List.length_map, hfl ws hws, freeL_len, hk2]
    have := homes_len E
    omega
  have hUk : ∀ i, U i -> i < E.k := fun i hi => by
    rcases hi with hi | ⟨id, h1, h2⟩
    · omega
    · obtain ⟨j, j1, j2, -⟩ := q2.mine id (hws id h1).1 (hws id h1).2 _ h2
      omega
  have hok : (E.at A U (· ∈ rs) (· ∈ ws) ku).Ok := by
    refine hp.ok hk1 hAlen (fun a ha => ?_) (fun i hi => List.mem_append.2 (Or.inl (homes_mem hp hi))) (fun id _ _ hr => ?_) (fun i hi hu => ?_)
    · rcases List.mem_append.1 ha with ha | ha
      · exact Or.inl (homes_in hp ha)
      · rcases List.mem_append.1 ha with ha | ha
        · obtain ⟨id, h1, rfl⟩ := List.mem_map.1 ha
          exact Or.inr (Or.inl ⟨id, (hrs id h1).1, (hrs id h1).2, rfl⟩)
        · rcases List.mem_append.1 ha with ha | ha
          · obtain ⟨id, h1, h2⟩ := List.mem_flatMap.1 ha
            obtain ⟨z, h3, rfl⟩ := List.mem_map.1 h2
            obtain ⟨j, j1, j2, -⟩ := q2.mine id (hws id h1).1 (hws id h1).2 z h3
            exact Or.inr (Or.inr ⟨j, j1, by omega⟩)
          · obtain ⟨j, h1, rfl⟩ := List.mem_map.1 ha
            have := List.mem_range.1 (List.mem_filter.1 h1).1
            exact Or.inr (Or.inr ⟨j, by omega, rfl⟩)
    · exact List.mem_append.2 (Or.inr (List.mem_append.2 (Or.inl (List.mem_map.2 ⟨id, hr, rfl⟩))))
    · refine List.mem_append.2 (Or.inr (List.mem_append.2 (Or.inr (List.mem_append.2 ?_))))
      rcases hu with ⟨h1, h2⟩ | ⟨id, h1, h2⟩
      · exact Or.inr (List.mem_map.2 ⟨i, List.mem_filter.2 ⟨List.mem_range.2 h1, by simp [h2]⟩, rfl⟩)
      · exact Or.inl (List.mem_flatMap.2 ⟨id, h1, List.mem_map.2 ⟨_, h2, by omega⟩⟩)
  refine ⟨A, U, ku, hok, hk0, mem, wr, N, ⟨q1.c, q1.m, q1.t, fun p hp => by cases hp⟩, ⟨q2.says, q2.nodup, q2.mine, q2.apart, q2.rest, q2.data⟩, q3, q4, q5, q6, Nat.le_of_eq hk2.symm, ⟨fun i hi hb => Or.inl ⟨hi, hb⟩, fun id h1 h2 hW z hz => ?_, q8.cov⟩⟩
  obtain ⟨j, j1, j2, -⟩ := q2.mine id h1 h2 z hz
  exact ⟨j, ⟨j1, Or.inr ⟨id, hW, by rw [show ((E.fr + j : Nat) : Int) = z by omega]; exact hz⟩⟩, j2⟩
def TE.rest (E : TE) : TE := E.at (homesL E) (fun _ => False) (fun _ => False) (fun _ => False) 0
theorem S8z.rest (h : S8z E K D f u lim w) : S8z E.rest K D f 0 lim w := by
  obtain ⟨mem, wr, N, q1, q2, q3, q4, q5, q6, q7, q8⟩ := h
  exact ⟨mem, wr, N, ⟨q1.c, q1.m, q1.t, fun p hp => by cases hp⟩, ⟨q2.says, q2.nodup, q2.mine, q2.apart, q2.rest, q2.data⟩, q3, q4, q5, q6, Nat.zero_le _, ⟨fun i hi => absurd hi (Nat.not_lt_zero _), fun _ _ _ hW => hW.elim, q8.cov⟩⟩
theorem TE.Pl.rest_ok (h : E.Pl) : E.rest.Ok := h.ok (Nat.zero_le _) (by have := homes_len E; omega) (fun a ha => Or.inl (homes_in h ha)) (fun i hi => homes_mem h hi) (fun _ _ _ hr => hr.elim) (fun _ _ hu => hu.elim)
theorem FsAt.at {fb rs hb : Nat} (h : FsAt fb E rs hb w) (A : List Nat) (U R W : Nat -> Prop) (ku : Nat) : FsAt fb (E.at A U R W ku) rs hb w := ⟨h.c0, h.c1, h.c2, h.c3, h.c4, h.c5, h.c6, h.c7, h.f7⟩
theorem TE.Pl.at (h : E.Pl) (A : List Nat) (U R W : Nat -> Prop) (ku : Nat) : (E.at A U R W ku).Pl := ⟨h.fit, h.kk, h.live, h.abm, h.tbm, h.most, h.rlow, h.dlow, h.hout, h.rout, h.dout, h.room, h.hd, h.hr, h.dr, h.ta, h.tn, h.tn1, h.fr, h.far⟩
end
end Go.Proofs.YtpofmiecjkghgaaGreatDoor
