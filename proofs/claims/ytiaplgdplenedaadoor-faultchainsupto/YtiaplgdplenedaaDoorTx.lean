/- fault.Depth: how many Faults a chain has (below 1,000,000). -/
import Derived.Test.YtiaplgdplenedaaDoorBd
namespace Go.Proofs.YtiaplgdplenedaaDoor
open Go.RowKit Go.Extern.Stop Go.Stop Go.Extern
set_option maxRecDepth 100000

theorem Marked.apart' {w0 : World} {bot : Value} (hbot : ∀ b, bot ≠ flt b) {k : Nat} {mk : Option Addr} {b : Nat} {l : List (ByteArray × ByteArray)} {w : World} (h : Marked w0 bot k mk) (hl : l.length = k) (hc : Chain w0 l bot (flt b)) (hB : Below w0.heap.size w0 w) :
    mk = none ∨ ∃ m, mk = some ⟨m, 0, none⟩ ∧ m ≠ b ∧ Solid w m := by
  rcases h with h | ⟨m, lm, h, hm, hk⟩
  · exact Or.inl h
  · refine Or.inr ⟨m, h, ?_, ?_⟩
    · rintro rfl
      have := Chain.same hbot _ _ _ hm hc
      omega
    · match lm, hm with
      | (_, _) :: _, hm =>
        obtain ⟨b', e', he, hb, ⟨cs, t, hs⟩, _⟩ := hm
        have hbb : m = b' := by simpa using he
        subst hbb
        exact ⟨cs, t, (hB.block _ hb).trans hs⟩

/-- What holds of Depth's loop: 'k' rounds at most are to come. -/
def DepthRel (w : World) (l : List (ByteArray × ByteArray)) (bot : Value) (k : Nat) (c e i : Value) (wr : World) : Prop :=
  Below w.heap.size w wr ∧
  ((∃ l1 rest mk, l.length = l1 + rest.length ∧ Chain w rest bot e ∧ (∃ q : Int, i = .int .i64 q ∧ c = .int .i64 q ∧ q = (l1 : Int)) ∧ k = rest.length + 1 ∧ Watch w.heap.size mk wr ∧ Marked w bot rest.length mk) ∨
   (e = .nilIface ∧ k = 0 ∧ (∃ q : Int, i = .int .i64 q ∧ q = (l.length : Int) + 1) ∧ (∃ q : Int, c = .int .i64 q ∧ q = (l.length : Int))))

set_option maxHeartbeats 2000000 in
theorem depth_of (w : World) (l : List (ByteArray × ByteArray)) (bot e : Value) (hbot : bot = .nilIface ∨ ∃ n, bot = num n) (hc : Chain w l bot e) (hl : l.length < 1000000) :
    Calls Tryd.prog 15 #[e] w fun ev w' => ev = .returned (.int .i64 (l.length : Int)) ∧ Below w.heap.size w w' := by
  have hbot' : ∀ b, bot ≠ flt b := by
    rintro b rfl
    rcases hbot with h | ⟨n, h⟩ <;> cases h
  have R0 : DepthRel w l bot (l.length + 1) (.int .i64 0) e (.int .i64 0) (rW w) := ⟨(Below.refl _ _).alloc (Nat.le_refl _) _, Or.inl ⟨0, l, none, by simp, hc, ⟨0, rfl, rfl, rfl⟩, rfl, rW_watch w, Or.inl rfl⟩⟩
  replace R0 := hidden R0
  replace hc := hidden hc
  go_enter Tryd.func15, Tryd.ntmps15
  go_wp2_with fail
  go_loopg [3, 5, 9] (l.length + 1) (fun k c e i wr => DepthRel w l bot k c e i wr)
  case atStart => exact R0.out
  case round =>
    obtain ⟨hB, ⟨l1, rest, mk, hll, hch, ⟨q, rfl, rfl, hq⟩, hk, hW, hM⟩ | ⟨rfl, hk, ⟨q, rfl, hq⟩, ⟨q2, rfl, hq2⟩⟩⟩ := hrel
    · have hq1 : q < 1000000 := by omega
      have hq0 : 0 ≤ q := by omega
      replace hq := hidden hq
      replace hll := hidden hll
      replace hk := hidden hk
      replace hW := hidden hW
      replace hM := hidden hM
      replace hB := hidden hB
      clear R0
      cases rest with
      | nil =>
        have he : _ = bot := hch
        subst he
        rcases hbot with rfl | ⟨n, rfl⟩
        · go_wp2
          go_ret
          refine ⟨?_, hB.out⟩
          have h1 := hll.out
          have h2 := hq.out
          simp at h1
          rw [h1, ← h2]
          rfl
        · go_wp2_with fail
          refine (itself_num n _).mono ?_
          rintro ev w1 ⟨rfl, rfl⟩
          go_wp2_with fail
          refine (next_num' n _).mono ?_
          rintro ev w2 ⟨rfl, hB2⟩
          replace hB2 := hidden hB2
          go_wp2
          go_roundg 0
          case measure => rw [hk.out]; simp
          case rel =>
            have h1 := hll.out
            have h2 := hq.out
            simp at h1
            exact ⟨hB.out.trans (hB2.out.mono hB.out.size), Or.inr ⟨rfl, rfl, ⟨_, rfl, by omega⟩, ⟨_, rfl, by omega⟩⟩⟩
      | cons p r =>
        obtain ⟨op, nm⟩ := p
        have hchH := hidden hch
        obtain ⟨b, e', rfl, hb, hs, -, -, h2, hr⟩ := hch
        have hsh : e' = .nilIface ∨ ∃ u v, e' = .iface u v := by
          obtain ⟨bs, hbs⟩ := hr.blocks
          exact hbs.shape hbot
        replace hr := hidden hr
        replace hb := hidden hb
        replace h2 := hidden h2
        have hsol : Solid wr b := by obtain ⟨cs, t, h⟩ := hs; exact ⟨cs, t, (hB.out.block b hb.out).trans h⟩
        have hcl := hidden (closed_no w.heap.size b mk wr hW.out hsol (hM.out.apart' hbot' rfl hchH.out hB.out))
        clear hsol hs
        go_wp2_with fail
        refine (itself_fault b _).mono ?_
        rintro ev wr ⟨rfl, rfl⟩
        go_wp2_with fail
        refine (hcl.out).mono ?_
        rintro ev w2 ⟨rfl, hA2, mk', hmk', hW2⟩
        have hm1 : w.heap.size < wr.heap.size := lt_of_cell (a := ⟨w.heap.size, 0, none⟩) hW.out.mark
        have hB2 : Below w.heap.size w w2 := hB.out.trans (hA2.below (by simp) (by omega))
        have hM2 : Marked w bot r.length mk' := by
          rcases hmk' with rfl | rfl
          · rcases hM.out with h | ⟨m, lm, h1, h2, h3⟩
            · exact Or.inl h
            · exact Or.inr ⟨m, lm, h1, h2, by simp at h3; omega⟩
          · exact Or.inr ⟨b, _, rfl, hchH.out, by simp⟩
        have hn2 := hidden (next_any b e' hsh w2 (Nat.lt_of_lt_of_le hb.out hB2.size) ((hB2.cell (p := ⟨b, 2, none⟩) hb.out).trans h2.out))
        have P := hidden (And.intro hB2 (And.intro hM2 hW2))
        clear hB2 hM2 hW2 hA2 hcl
        go_wp2_with fail
        refine (hn2.out).mono ?_
        rintro ev w3 ⟨rfl, hB3⟩
        replace hB3 := hidden hB3
        go_wp2
        go_roundg (r.length + 1)
        case measure => rw [hk.out]; simp
        case rel =>
          obtain ⟨hB2, hM2, hW2⟩ := P.out
          have h1 := hll.out
          have h2 := hq.out
          simp only [List.length_cons] at h1
          exact ⟨hB2.trans (hB3.out.mono hB2.size), Or.inl ⟨l1 + 1, r, mk', by omega, hr.out, ⟨_, rfl, rfl, by omega⟩, rfl, hW2.apart (Apart.of_below (bs := []) hB3.out) (by simp), hM2⟩⟩
    · have h1 : q < 1000001 := by omega
      have h2 : 0 ≤ q := by omega
      replace hq := hidden hq
      replace hq2 := hidden hq2
      replace hk := hidden hk
      clear R0
      go_wp2
      go_ret
      refine ⟨?_, hB⟩
      rw [← hq2.out]
      rfl
theorem depth_chain (n : Int) (w : World) (l : List (ByteArray × ByteArray)) (e : Value) (hc : Chain w l (num n) e) (hl : l.length < 1000000) :
    Calls Tryd.prog 15 #[e] w fun ev w' => ev = .returned (.int .i64 (l.length : Int)) ∧ Below w.heap.size w w' :=
  depth_of w l (num n) e (Or.inr ⟨n, rfl⟩) hc hl
theorem depth_nil (w : World) : Calls Tryd.prog 15 #[.nilIface] w fun ev w' => ev = .returned (.int .i64 0) ∧ Below w.heap.size w w' :=
  depth_of w [] .nilIface .nilIface (Or.inl rfl) rfl (by decide)
theorem depth_raw (b : Nat) (op nm : ByteArray) (w : World) (hc : Chain w [(op, nm)] .nilIface (flt b)) :
    Calls Tryd.prog 15 #[flt b] w fun ev w' => ev = .returned (.int .i64 1) ∧ Below w.heap.size w w' :=
  depth_of w [(op, nm)] .nilIface (flt b) (Or.inl rfl) hc (by simp)
end Go.Proofs.YtiaplgdplenedaaDoor
