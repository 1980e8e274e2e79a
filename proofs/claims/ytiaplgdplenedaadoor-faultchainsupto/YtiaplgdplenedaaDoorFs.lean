/- fault's helper faults: of a chain of fewer than 1,000,000 Faults it gives the first hundred, in new memory. -/
import Derived.Test.YtiaplgdplenedaaDoorBm
namespace Go.Proofs.YtiaplgdplenedaaDoor
open Go.RowKit Go.Extern.Stop Go.Stop Go.Extern
set_option maxRecDepth 100000

/-- A chain, with the blocks of its Faults. -/
def ChainB (w : World) : List (ByteArray × ByteArray) → List Nat → Value → Value → Prop
  | [], [], bot, e => e = bot
  | (op, nm) :: r, b :: bs, bot, e => e = flt b ∧ b < w.heap.size ∧ w.cell? ⟨b, 0, none⟩ = some (.string op) ∧ w.cell? ⟨b, 1, none⟩ = some (.string nm) ∧ ∃ e', w.cell? ⟨b, 2, none⟩ = some e' ∧ ChainB w r bs bot e'
  | _, _, _, _ => False
theorem Chain.blocks {w : World} : ∀ {l : List (ByteArray × ByteArray)} {bot e : Value}, Chain w l bot e → ∃ bs, ChainB w l bs bot e
  | [], _, _, h => ⟨[], h⟩
  | (_, _) :: _, _, _, h => by
    obtain ⟨b, e', he, hb, -, h0, h1, h2, hr⟩ := h
    obtain ⟨bs, hbs⟩ := hr.blocks
    exact ⟨b :: bs, he, hb, h0, h1, e', h2, hbs⟩
theorem ChainB.len {w : World} : ∀ {l : List (ByteArray × ByteArray)} {bs : List Nat} {bot e : Value}, ChainB w l bs bot e → bs.length = l.length
  | [], [], _, _, _ => rfl
  | (_, _) :: _, _ :: _, _, _, h => by
    obtain ⟨_, _, _, _, e', _, hr⟩ := h
    simp [hr.len]

theorem ChainB.below {w w' : World} (hw : Below w.heap.size w w') : ∀ {l : List (ByteArray × ByteArray)} {bs : List Nat} {bot e : Value}, ChainB w l bs bot e → ChainB w' l bs bot e
  | [], [], _, _, h => h
  | (_, _) :: _, _ :: _, _, _, h => by
    obtain ⟨he, hb, h0, h1, e', h2, hr⟩ := h
    exact ⟨he, Nat.lt_of_lt_of_le hb hw.size, (hw.cell (p := ⟨_, 0, none⟩) hb).trans h0, (hw.cell (p := ⟨_, 1, none⟩) hb).trans h1, e', (hw.cell (p := ⟨_, 2, none⟩) hb).trans h2, ChainB.below hw hr⟩

abbrev pts (bs : List Nat) : List Value := bs.map fun b => .pointer (some ⟨b, 0, none⟩)
theorem Tryd.infoF : (Tryd.prog.info? 43).map (fun i => (i.zero, i.size, i.bytes)) = some (some (.pointer none), 1, 8) := by kernel_rfl

theorem ChainB.shape {w : World} {l : List (ByteArray × ByteArray)} {bs : List Nat} {bot e : Value} (hc : ChainB w l bs bot e) (hbot : bot = .nilIface ∨ ∃ n, bot = num n) : e = .nilIface ∨ ∃ u v, e = .iface u v := by
  match l, bs, hc with
  | [], [], h =>
    have h : e = bot := h
    subst h
    rcases hbot with h | ⟨n, h⟩
    · exact Or.inl h
    · exact Or.inr ⟨_, _, h⟩
  | (_, _) :: _, _ :: _, h => exact Or.inr ⟨_, _, h.1⟩
theorem owned_shape {w : World} {base : Nat} {e : TypeId} {v : Value} {n : Nat} {xs : List Value} (h : w.ownsRow base e 1 v n xs) : ∃ a cap, v = .slice a n cap := by
  rcases h.2 with ⟨rfl, rfl⟩ | ⟨g, cap, cur, rfl, _⟩
  · exact ⟨_, _, rfl⟩
  · exact ⟨_, _, rfl⟩
theorem own_block_ge {w : World} {base : Nat} {e : TypeId} {v : Value} {n : Nat} {xs : List Value} (h : w.ownsRow base e 1 v n xs) : ∀ k, v.ownBlock = some k → base ≤ k := by
  intro k hk
  rcases h.2 with ⟨rfl, rfl⟩ | ⟨g, cap, cur, rfl, hg, _⟩
  · simp [Value.ownBlock] at hk
  · simp [Value.ownBlock] at hk; omega
/-- An owned row stays owned while nothing below the heap's end is turned. -/
theorem ownsRow_below {w w' : World} {base : Nat} {e : TypeId} {v : Value} {n : Nat} {xs : List Value} (h : w.ownsRow base e 1 v n xs) (hb : Below w.heap.size w w') : w'.ownsRow base e 1 v n xs := by
  obtain ⟨h1, h2⟩ := h
  refine ⟨h1, ?_⟩
  rcases h2 with h2 | ⟨g, cap, cur, hv, hg, hh, rest⟩
  · exact Or.inl h2
  · have hlt : g < w.heap.size := by
      rcases Nat.lt_or_ge g w.heap.size with h | h
      · exact h
      · rw [Array.getElem?_eq_none h] at hh; cases hh
    exact Or.inr ⟨g, cap, cur, hv, hg, (hb.block g hlt).trans hh, rest⟩

/-- What holds of the loop of faults: 'k' rounds at most are to come. -/
def FaultsRel (w : World) (l : List (ByteArray × ByteArray)) (bs : List Nat) (bot : Value) (k : Nat) (e v i : Value) (wr : World) : Prop :=
  Below w.heap.size w wr ∧
  ((∃ l1 l2 b1 b2, l = l1 ++ l2 ∧ bs = b1 ++ b2 ∧ b1.length = l1.length ∧ l1.length ≤ 100 ∧ ChainB w l2 b2 bot e ∧ (∃ q : Int, i = .int .i64 q ∧ q = (l1.length : Int)) ∧ k = l2.length + 1 ∧ wr.ownsRow w.heap.size 43 1 v l1.length (pts b1)) ∨
   (e = .nilIface ∧ i = .int .i64 ((l.length + 1 : Nat) : Int) ∧ k = 0 ∧ l.length < 100 ∧ wr.ownsRow w.heap.size 43 1 v l.length (pts bs)))

set_option maxHeartbeats 2000000 in
theorem faults_chain (w : World) (l : List (ByteArray × ByteArray)) (bs : List Nat) (bot e : Value) (hbot : bot = .nilIface ∨ ∃ n, bot = num n) (hc : ChainB w l bs bot e) (hl : l.length < 1000000) :
    Calls Tryd.prog 22 #[e] w fun ev w' => ∃ v, ev = .returned v ∧ w'.ownsRow w.heap.size 43 1 v (min l.length 100) (pts (bs.take 100)) ∧ Below w.heap.size w w' := by
  have hC := hidden hc
  have hlen := hidden hc.len
  obtain ⟨i0, hi, hz0, hz1, hz2⟩ := info_parts Tryd.infoF
  clear hc
  go_enter Tryd.func22, Tryd.ntmps22
  go_wp2_with fail
  go_loopg [0, 3, 5] (l.length + 1) (fun k e v i wr => FaultsRel w l bs bot k e v i wr)
  case atStart =>
    exact ⟨Below.refl _ _, Or.inl ⟨[], l, [], bs, rfl, rfl, rfl, Nat.zero_le _, hC.out, ⟨0, rfl, rfl⟩, rfl, World.ownsRow_nil _ _ _ _⟩⟩
  case round =>
    obtain ⟨hB, ⟨l1, l2, b1, b2, rfl, rfl, hbl, hll, hch, ⟨q, rfl, hq⟩, hk, hown⟩ | ⟨rfl, rfl, hk, hlt, hown⟩⟩ := hrel
    · have hl' : l1.length + l2.length < 1000000 := by simpa using hl
      have hq1 : q < 1000000 := by omega
      have hq0 : 0 ≤ q := by omega
      have hqH := hidden hq
      clear hq hl
      have hsz := hB.size
      obtain ⟨sa, cap, hv⟩ := owned_shape hown
      replace hown := hidden hown
      replace hk := hidden hk
      replace hbl := hidden hbl
      clear hC hlen
      cases l2 with
      | nil =>
       cases b2 with
       | cons b b2 => exact hch.elim
       | nil =>
        have he : _ = bot := hch
        subst he
        rcases hbot with rfl | ⟨n, rfl⟩
        · go_wp2
          go_ret
          refine ⟨_, rfl, ?_, hB⟩
          simp only [List.append_nil]
          rw [Nat.min_eq_left hll, List.take_of_length_le (by rw [hbl.out]; omega)]
          exact hown.out
        · subst hv
          by_cases hfull : l1.length = 100
          · have hf : ((l1.length : Int) == (100 : Int)) = true := by simp [hfull]
            have hfull := hidden hfull
            go_wp2
            go_ret
            refine ⟨_, rfl, ?_, hB⟩
            simp only [List.append_nil]
            rw [Nat.min_eq_left hll, List.take_of_length_le (by rw [hbl.out]; omega)]
            exact hown.out
          · have hf : ((l1.length : Int) == (100 : Int)) = false := by simp; omega
            have hfull := hidden hfull
            go_wp2_with (first
              | (go_at_call 26; refine (itself_num n _).mono ?_; rintro ev wr ⟨rfl, rfl⟩)
              | (go_at_call 28; refine (next_num' n _).mono ?_; rintro ev w1 ⟨rfl, hB1⟩))
            go_roundg 0
            case measure => rw [hk.out]; simp
            case rel =>
              refine ⟨hB.trans (hB1.mono hsz), Or.inr ⟨rfl, by rw [hqH.out]; simp, rfl, ?_, ?_⟩⟩
              · have := hfull.out; simp; omega
              · simp only [List.append_nil]; exact ownsRow_below hown.out hB1
      | cons p r =>
       obtain ⟨op, nm⟩ := p
       cases b2 with
       | nil => exact hch.elim
       | cons b bs' =>
        obtain ⟨rfl, hb, h0, h1, e', h2, hr⟩ := hch
        subst hv
        have h2 := (hB.cell (p := ⟨b, 2, none⟩) hb).trans h2
        have hb' : b < wr.heap.size := by omega
        by_cases hfull : l1.length = 100
        · have hf : ((l1.length : Int) == (100 : Int)) = true := by simp [hfull]
          have hfull := hidden hfull
          clear h0 h1 hr h2
          go_wp2
          go_ret
          refine ⟨_, rfl, ?_, hB⟩
          have h3 : min (l1 ++ (op, nm) :: r).length 100 = l1.length := by rw [← hfull.out]; simp
          have h4 : (b1 ++ b :: bs').take 100 = b1 := by rw [← hfull.out, ← hbl.out]; simp
          rw [h3, h4]
          exact hown.out
        · have hf : ((l1.length : Int) == (100 : Int)) = false := by simp; omega
          have hfull := hidden hfull
          have hshape := hidden (hr.shape hbot)
          have hr := hidden hr
          clear h0 h1
          go_wp2_with (first
            | (go_at_call 26; refine (itself_fault b _).mono ?_; rintro ev wr ⟨rfl, rfl⟩)
            | (at_builtin; refine wpList_append_own _ rfl _ _ 47 rfl w.heap.size 43 i0 (.pointer none) 1 8 Tryd.underlying47 hi hz0 hz1 hz2 rfl (by decide) _ _ _ rfl (hown.out.alloc _) ⟨wr.heap.size, 0, none⟩ 1 1 [.pointer (some ⟨b, 0, none⟩)] rfl rfl ?c1 ?c2 ?c3 ?c4 ?c5 ?_))
          case c1 =>
            intro j u hj
            match j, hj with
            | 0, hj => simp at hj; subst hj; simp [Addr.add]
          case c2 => intro u hu; simp at hu; subst hu; rfl
          case c3 => unfold maxLen; omega
          case c4 => omega
          case c5 => simp; omega
          intro v' w1 hown1 hgrow _
          have hB1 : Below w.heap.size w w1 := (hB.alloc hsz _).grown hgrow (by simp; omega) (own_block_ge hown.out)
          have h2' : w1.cell? ⟨b, 2, none⟩ = some e' := (hB1.cell (p := ⟨b, 2, none⟩) hb).trans ((hB.cell (p := ⟨b, 2, none⟩) hb).symm.trans h2)
          have hb1 : b < w1.heap.size := Nat.lt_of_lt_of_le hb hB1.size
          have hown1 := hidden hown1
          clear hgrow h2
          go_wp2_with (go_at_call 28; refine (next_any b e' hshape.out _ hb1 h2').mono ?_; rintro ev w2 ⟨rfl, hB2⟩)
          go_roundg (r.length + 1)
          case measure => rw [hk.out]; simp
          case rel =>
            refine ⟨hB1.trans (hB2.mono hB1.size), Or.inl ⟨l1 ++ [(op, nm)], r, b1 ++ [b], bs', by simp, by simp, by simp [hbl.out], ?_, hr.out, ⟨_, rfl, by rw [hqH.out]; simp⟩, rfl, ?_⟩⟩
            · have := hfull.out; simp; omega
            · have := ownsRow_below hown1.out hB2
              simpa using this
    · have hk := hidden hk
      have hi : ((l.length + 1 : Nat) : Int) < 1000001 := by omega
      have hi0 : (0 : Int) ≤ ((l.length + 1 : Nat) : Int) := by omega
      generalize ((l.length + 1 : Nat) : Int) = i at hi hi0 ⊢
      go_wp2
      go_ret
      refine ⟨_, rfl, ?_, hB⟩
      rw [Nat.min_eq_left (Nat.le_of_lt hlt), List.take_of_length_le (by rw [hlen.out]; omega)]
      exact hown
end Go.Proofs.YtiaplgdplenedaaDoor
