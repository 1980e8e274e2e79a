/- fault's walk down a chain: to the number at its bottom; the search's list of what is still to be gone into stays as it was. -/
import Derived.Test.YtiaplgdplenedaaDoorAl
namespace Go.Proofs.YtiaplgdplenedaaDoor
open Go.RowKit Go.Extern.Stop Go.Stop Go.Extern
set_option maxRecDepth 100000

theorem Tryd.askedFault (v : Value) (xT : TypeId) (w : World) : (Instr.typeAssert (.iface 43 v) xT 113 true).run Tryd.prog w = .ok (.tuple #[.nilIface, .bool false]) w := run_typeAssert_lacksB Tryd.underlying113 (by kernel_rfl) (by kernel_rfl) v xT w
theorem own_fault (b : Nat) (w : World) :
    Calls Tryd.prog 44 #[flt b] w fun e w' => e = .returned (.tuple #[.int .i64 0, .bool false]) ∧ w' = w := by
  have hA := Tryd.askedFault
  go_enter Tryd.func44, Tryd.ntmps44
  go_wp2
  go_ret2
  exact ⟨rfl, rfl⟩

abbrev endW (w : World) (bs : Nat) : World := w.alloc (.cells #[.pointer (some ⟨bs, 0, none⟩)] 97)
theorem endW_below (w : World) (bs : Nat) : Below w.heap.size w (endW w bs) := (Below.refl _ _).alloc (Nat.le_refl _) _
theorem end_of (e : Value) (bs : Nat) (n : Int) (ok : Bool) (w : World)
    (hJ : Hid (Calls Tryd.prog 48 #[e] (endW w bs) fun ev w' => ev = .returned (.slice none 0 0) ∧ Below (endW w bs).heap.size (endW w bs) w'))
    (hA : Hid (∀ w1, Below w.heap.size w w1 → Calls Tryd.prog 49 #[e] w1 fun ev w' => ev = .returned (.tuple #[.int .i64 n, .bool ok]) ∧ Below w1.heap.size w1 w')) :
    Calls Tryd.prog 43 #[.pointer (some ⟨bs, 0, none⟩), e] w fun ev w' => ev = .returned (.tuple #[.int .i64 n, .bool ok]) ∧ Below w.heap.size w w' := by
  go_enter Tryd.func43, Tryd.ntmps43
  go_wp2_with fail
  refine (hJ.out).mono ?_
  rintro ev w1 ⟨rfl, hB1⟩
  replace hB1 := (endW_below w bs).trans (hB1.mono (endW_below w bs).size)
  have hA1 := hidden (hA.out w1 hB1)
  go_wp2_with fail
  refine (hA1.out).mono ?_
  rintro ev w2 ⟨rfl, hB2⟩
  go_wp2
  go_ret2
  exact ⟨rfl, hB1.trans (hB2.mono hB1.size)⟩
theorem end_num (n : Int) (bs : Nat) (w : World) (hg : GT w) :
    Calls Tryd.prog 43 #[.pointer (some ⟨bs, 0, none⟩), num n] w fun ev w' => ev = .returned (.tuple #[.int .i64 n, .bool true]) ∧ Below w.heap.size w w' :=
  end_of (num n) bs n true w (hidden (joined_num n _)) (hidden fun w1 h1 => alone_chain n w1 [] _ rfl (hg.below h1))
theorem end_raw (b : Nat) (op nm : ByteArray) (bs : Nat) (w : World) (hc : Chain w [(op, nm)] .nilIface (flt b)) (hg : GT w) :
    Calls Tryd.prog 43 #[.pointer (some ⟨bs, 0, none⟩), flt b] w fun ev w' => ev = .returned (.tuple #[.int .i64 0, .bool false]) ∧ Below w.heap.size w w' := by
  have hcc := hc
  obtain ⟨b', e', he, hb, -, -, -, h2, hr⟩ := hcc
  have he' : e' = .nilIface := hr
  subst he'
  have hbb : b = b' := by simpa using he
  subst hbb
  exact end_of (flt b) bs 0 false w (hidden (joined_raw b _ (Nat.lt_of_lt_of_le hb (endW_below w bs).size) (((endW_below w bs).cell (p := ⟨b, 2, none⟩) hb).trans h2))) (hidden fun w1 h1 => alone_raw b op nm w1 (hc.below h1) (hg.below h1))

theorem next_any (b : Nat) (e' : Value) (he : e' = .nilIface ∨ ∃ u v, e' = .iface u v) (w : World) (hb : b < w.heap.size) (h2 : w.cell? ⟨b, 2, none⟩ = some e') :
    Calls Tryd.prog 28 #[flt b] w fun e w' => e = .returned e' ∧ Below w.heap.size w w' := by
  rcases he with rfl | ⟨u, v, rfl⟩
  · exact (next_last b w hb h2).mono fun _ _ h => ⟨h.1, by rw [h.2]; exact ((Below.refl _ _).alloc (Nat.le_refl _) _).setCell (Nat.le_refl _) _⟩
  · exact (next_fault b u v w hb h2).mono fun _ _ h => ⟨h.1, by rw [h.2]; exact ((Below.refl _ _).alloc (Nat.le_refl _) _).setCell (Nat.le_refl _) _⟩
theorem next_num' (n : Int) (w : World) :
    Calls Tryd.prog 28 #[num n] w fun e w' => e = .returned .nilIface ∧ Below w.heap.size w w' :=
  (next_num n w).mono fun _ _ h => ⟨h.1, by rw [h.2]; exact ((Below.refl _ _).alloc (Nat.le_refl _) _).setCell (Nat.le_refl _) _⟩

/-- The search's own cells, as far as a walk down turns them. -/
structure Search (bs : Nat) (left : Int) (todo : Value) (w : World) : Prop where
  todo0 : w.cell? ⟨bs, 0, none⟩ = some todo
  left2 : w.cell? ⟨bs, 2, none⟩ = some (.int .i64 left)
  free2 : w.frozen? ⟨bs, 2, none⟩ = false
theorem Search.apart {bs : Nat} {left : Int} {todo : Value} {w w' : World} {cs : List Nat} (h : Search bs left todo w) (ha : Apart cs w w') (hn : bs ∉ cs) : Search bs left todo w' := by
  have hlt : bs < w.heap.size := lt_of_cell (a := ⟨bs, 0, none⟩) h.todo0
  exact ⟨(ha.cell (p := ⟨bs, 0, none⟩) hlt hn).trans h.todo0, (ha.cell (p := ⟨bs, 2, none⟩) hlt hn).trans h.left2, (ha.frozen (p := ⟨bs, 2, none⟩) hlt hn).trans h.free2⟩

/-- What the watch's mark says in a walk down a chain of which 'k' Faults are left: it is none of these. -/
def Marked (w0 : World) (bot : Value) (k : Nat) (mk : Option Addr) : Prop := mk = none ∨ ∃ m lm, mk = some ⟨m, 0, none⟩ ∧ Chain w0 lm bot (flt m) ∧ k < lm.length

theorem Marked.apart {w0 : World} {n : Int} {k : Nat} {mk : Option Addr} {b : Nat} {l : List (ByteArray × ByteArray)} {w : World} (h : Marked w0 (num n) k mk) (hl : l.length = k) (hc : Chain w0 l (num n) (flt b)) (hB : Below w0.heap.size w0 w) :
    mk = none ∨ ∃ m, mk = some ⟨m, 0, none⟩ ∧ m ≠ b ∧ Solid w m := by
  rcases h with h | ⟨m, lm, h, hm, hk⟩
  · exact Or.inl h
  · refine Or.inr ⟨m, h, ?_, ?_⟩
    · rintro rfl
      have := Chain.same (by intro b h; cases h) _ _ _ hm hc
      omega
    · match lm, hm with
      | (_, _) :: _, hm =>
        obtain ⟨b', e', he, hb, ⟨cs, t, hs⟩, _⟩ := hm
        have hbb : m = b' := by simpa using he
        subst hbb
        exact ⟨cs, t, (hB.block _ hb).trans hs⟩

abbrev rW (w : World) : World := w.alloc (.cells #[.pointer none, .int .i64 0] 58)
theorem rW_watch (w : World) : Watch w.heap.size none (rW w) := ⟨by simp, ⟨0, by simp⟩, by simp, by simp⟩

/-- What holds of the walk down at each round's head: 'k' Faults are left. -/
structure DownRel (n : Int) (w0 w : World) (bs : Nat) (todo : Value) (k : Nat) (e : Value) (wr : World) : Prop where
  left : ∃ rest q mk, Chain w0 rest (num n) e ∧ rest.length = k ∧ (k : Int) < q ∧ q < 1000000000 ∧ Search bs q todo wr ∧ Watch w.heap.size mk wr ∧ Marked w0 (num n) k mk
  apart : Apart [bs] w wr
  below : Below w0.heap.size w0 wr
  more : w.heap.size < wr.heap.size

set_option maxHeartbeats 2000000 in
theorem down_chain (n : Int) (w0 w : World) (bs : Nat) (left : Int) (todo : Value) (l : List (ByteArray × ByteArray)) (e : Value) (hB : Below w0.heap.size w0 w) (hbs : w0.heap.size ≤ bs) (hS : Search bs left todo w)
    (hc : Chain w0 l (num n) e) (hl : (l.length : Int) < left) (hl2 : left < 1000000000) (hg : GT w0) :
    Calls Tryd.prog 34 #[.pointer (some ⟨bs, 0, none⟩), e] w fun ev w' => ev = .returned (.tuple #[.int .i64 n, .bool true]) ∧ Apart [bs] w w' ∧ w'.cell? ⟨bs, 0, none⟩ = some todo := by
  have hlt : bs < w.heap.size := lt_of_cell (a := ⟨bs, 0, none⟩) hS.todo0
  have hne : w.heap.size ≠ bs := by omega
  have hA0 : Apart [bs] w (rW w) := (Apart.refl _ _).alloc _
  have R0 : DownRel n w0 w bs todo l.length e (rW w) := ⟨⟨l, left, none, hc, rfl, hl, hl2, hS.apart (cs := []) ((Apart.refl _ _).alloc _) (by simp), rW_watch w, Or.inl rfl⟩, hA0, hB.trans (((Below.refl _ _).alloc (Nat.le_refl _) _).mono hB.size), by simp⟩
  replace R0 := hidden R0
  clear hc hS hl hl2 hB hA0
  go_enter Tryd.func34, Tryd.ntmps34
  go_wp2_with fail
  go_loopg [1] l.length (fun k e wr => DownRel n w0 w bs todo k e wr)
  case atStart => exact R0.out
  case round =>
    obtain ⟨⟨rest, q, mk, hch, hk, hq, hq2, hS, hW, hM⟩, hA, hB, hmore⟩ := hrel
    have hS2 := hS.left2
    have hSf := hS.free2
    have hq0 : 0 < q := by omega
    replace hS := hidden hS
    -- the world behind 's.left--'
    have hA1 : Apart [bs] w (wr.setCell ⟨bs, 2, none⟩ (.int .i64 (q - 1))) := hA.setCell (by simp) _
    have hB1 : Below w0.heap.size w0 (wr.setCell ⟨bs, 2, none⟩ (.int .i64 (q - 1))) := hB.setCell hbs _
    have hS1 : Search bs (q - 1) todo (wr.setCell ⟨bs, 2, none⟩ (.int .i64 (q - 1))) :=
      ⟨(World.cell?_setCell_other _ _ _ _ (by intro h; simp at h)).trans hS.out.todo0, World.cell?_setCell_same' _ _ _ (by rw [hS2]; rfl), by simp [hSf]⟩
    have hW1 : Watch w.heap.size mk (wr.setCell ⟨bs, 2, none⟩ (.int .i64 (q - 1))) := hW.apart ((Apart.refl [bs] _).setCell (by simp) _) (by simp; exact hne)
    have hm1 : w.heap.size < (wr.setCell ⟨bs, 2, none⟩ (.int .i64 (q - 1))).heap.size := by simpa [World.setCell] using hmore
    replace hS1 := hidden hS1
    replace hW1 := hidden hW1
    replace hA1 := hidden hA1
    replace hB1 := hidden hB1
    replace hM := hidden hM
    replace hk := hidden hk
    clear hS hW hA hB hmore
    cases rest with
    | nil =>
      have he : _ = num n := hch
      subst he
      clear R0
      go_wp2_with fail
      generalize wr.setCell ⟨bs, 2, none⟩ (.int .i64 (q - 1)) = w1 at hm1 hS1 hW1 hA1 hB1 ⊢
      clear hS2 hSf
      refine (itself_num n _).mono ?_
      rintro ev w1 ⟨rfl, rfl⟩
      go_wp2_with fail
      refine (next_num' n _).mono ?_
      rintro ev w2 ⟨rfl, hB2⟩
      have hg2 := hidden ((hg.below hB1.out).below hB2)
      go_wp2_with fail
      refine (end_num n bs _ hg2.out).mono ?_
      rintro ev w3 ⟨rfl, hB3⟩
      have hE : Apart [bs] w w3 ∧ w3.cell? ⟨bs, 0, none⟩ = some todo := by
        have h12 := (Apart.of_below (bs := []) hB2).trans (Apart.of_below hB3)
        exact ⟨hA1.out.trans (h12.mono (by simp)), (hS1.out.apart h12 (by simp)).todo0⟩
      clear hB2 hB3
      go_wp2
      go_ret2
      exact ⟨rfl, hE⟩
    | cons p r =>
      obtain ⟨op, nm⟩ := p
      have hchH := hidden hch
      obtain ⟨b, e', rfl, hb, hs, h0, h1, h2, hr⟩ := hch
      have hshape := hidden (hr.held (Or.inr ⟨_, _, rfl⟩))
      obtain ⟨u, v, rfl⟩ := hshape.out
      replace hr := hidden hr
      replace hb := hidden hb
      replace hs := hidden hs
      replace h2 := hidden h2
      clear h0 h1 R0
      go_wp2_with fail
      generalize wr.setCell ⟨bs, 2, none⟩ (.int .i64 (q - 1)) = w1 at hm1 hS1 hW1 hA1 hB1 ⊢
      clear hS2 hSf
      refine (itself_fault b _).mono ?_
      rintro ev w1 ⟨rfl, rfl⟩
      have hsol : Solid w1 b := by obtain ⟨cs, t, h⟩ := hs.out; exact ⟨cs, t, (hB1.out.block b hb.out).trans h⟩
      have hcl := hidden (closed_no w.heap.size b mk w1 hW1.out hsol (hM.out.apart hk.out hchH.out hB1.out))
      clear hsol
      go_wp2_with fail
      refine (hcl.out).mono ?_
      rintro ev w2 ⟨rfl, hA2, mk', hmk', hW2⟩
      have hb0 : w0.heap.size ≤ w.heap.size := by omega
      have hB2 : Below w0.heap.size w0 w2 := hB1.out.trans (hA2.below (by simp; omega) (Nat.le_trans hb0 (Nat.le_of_lt hm1)))
      have hm2 : w.heap.size < w2.heap.size := Nat.lt_of_lt_of_le hm1 hA2.size
      have hS2 := hS1.out.apart hA2 (by simp; omega)
      have hA2' : Apart [bs] w w2 := hA1.out.trans' hA2
      have hM2 : Marked w0 (num n) r.length mk' := by
        have hkk := hk.out
        simp only [List.length_cons] at hkk
        rcases hmk' with rfl | rfl
        · rcases hM.out with h | ⟨m, lm, h1, h2, h3⟩
          · exact Or.inl h
          · exact Or.inr ⟨m, lm, h1, h2, by omega⟩
        · exact Or.inr ⟨b, _, rfl, hchH.out, by simp⟩
      have hn2 := hidden (next_any b (.iface u v) (Or.inr ⟨_, _, rfl⟩) w2 (Nat.lt_of_lt_of_le hb.out hB2.size) ((hB2.cell (p := ⟨b, 2, none⟩) hb.out).trans h2.out))
      have P := hidden (And.intro hB2 (And.intro hS2 (And.intro hA2' (And.intro hM2 hW2))))
      clear hB2 hS2 hA2' hM2 hW2 hA2 hcl
      go_wp2_with fail
      refine (hn2.out).mono ?_
      rintro ev w3 ⟨rfl, hB3⟩
      go_wp2_with fail
      refine (own_fault b _).mono ?_
      rintro ev w3 ⟨rfl, rfl⟩
      go_wp2
      go_roundg r.length
      case measure => rw [← hk.out]; simp
      case rel =>
        obtain ⟨hB2, hS2, hA2, hM2, hW2⟩ := P.out
        have h3 : ∀ bs, Apart bs w2 w3 := fun _ => Apart.of_below hB3
        have hkk := hk.out
        simp only [List.length_cons] at hkk
        exact ⟨⟨r, q - 1, mk', hr.out, rfl, by omega, by omega, hS2.apart (h3 []) (by simp), hW2.apart (h3 []) (by simp), hM2⟩, hA2.trans (h3 _), hB2.trans (hB3.mono hB2.size), Nat.lt_of_lt_of_le hm2 hB3.size⟩
end Go.Proofs.YtiaplgdplenedaaDoor
