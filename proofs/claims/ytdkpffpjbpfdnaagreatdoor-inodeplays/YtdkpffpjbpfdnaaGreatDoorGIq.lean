/- InodePlays: what the blocks come to; stands by the state. -/
import Derived.Test.YtdkpffpjbpfdnaaGreatDoorGIp
import Derived.Test.YtdkpffpjbpfdnaaGreatDoorGIk
import Derived.Test.YtdkpffpjbpfdnaaGreatDoorGIi
namespace Go.Proofs.YtdkpffpjbpfdnaaGreatDoor
open Go.RowKit Go.Extern.Stop Go.Stop Go.Extern Go.Maps Go.Sort Go.Shelf
set_option maxRecDepth 100000

/-- How many blocks the inodes ahead of j have, by their bytes. -/
def sumB (D : Nat → List Int) : Nat → Int
  | 0 => 0
  | j + 1 => sumB D j + (if 1 ≤ j then blk ((D j).length : Int) else 0)
theorem sumB_upd (D : Nat → List Int) (id : Nat) (h1 : 1 ≤ id) (x : List Int) : ∀ j, sumB (upd D id x) j = if id < j then sumB D j - blk ((D id).length : Int) + blk (x.length : Int) else sumB D j
  | 0 => by simp [sumB]
  | j + 1 => by
    have ih := sumB_upd D id h1 x j
    unfold sumB
    rw [ih]
    by_cases e : j = id
    · subst e
      rw [upd_same, if_neg (by omega), if_pos h1, if_pos h1, if_pos (by omega)]
      omega
    · rw [upd_other _ _ e]
      by_cases hlt : id < j
      · rw [if_pos hlt, if_pos (show id < j + 1 by omega)]
        omega
      · rw [if_neg hlt, if_neg (show ¬ id < j + 1 by omega)]
theorem sumB_nil : ∀ j, sumB (fun _ => []) j = 0
  | 0 => rfl
  | j + 1 => by
    unfold sumB
    rw [sumB_nil j]
    simp [blk]
section
variable {E : TE} {mem : Nat → Int} {M : Chg} {N : Nat → Nd} {D : Nat → List Int} {K : Nat → Nat} {f lim : Nat} {w w' : World}
theorem Ino.used (hI : Ino E mem M N D) : ∀ j, j ≤ E.tn + 1 → ((usedN N j : Nat) : Int) = sumB D j
  | 0, _ => rfl
  | j + 1, h => by
    have ih := hI.used j (by omega)
    unfold usedN sumB
    by_cases h1 : 1 ≤ j
    · rw [if_pos h1, if_pos h1]
      have hl := (hI.says j h1 (by omega)).1.2.2.1
      have hd : (D j).length = (N j).size := by rw [← hI.data j h1 (by omega), bytesF_len]
      rw [hd]
      omega
    · rw [if_neg h1, if_neg h1]
      omega
theorem S8.stands (ok : E.Ok) (hkk : E.kk = E.k) (h : S8 E K D f lim w) (htn : E.tn = 6) (hfr : E.fr = 20) (hk60 : E.k ≤ 60) (RV : Array Value) (T : Nat → ByteArray) (hR : ∀ id, id ≤ 6 → RV[2 * id]? = some (.int .i64 (K id : Nat)) ∧ RV[2 * id + 1]? = some (.string (T id))) (hT : ∀ id, 1 ≤ id → id ≤ 6 → K id ≠ 0 → T id = ofBytes (D id)) (hu : (f : Int) + sumB D 7 = E.k) (hGT : GT w) :
    Calls Tryz.prog 22 #[ptr E.ab, ptr E.tb, .agg RV, .int .i64 (E.k : Int)] w fun e w' => e = .returned (.bool true) ∧ Below w.heap.size w w' := by
  obtain ⟨mem, wr, M, N, q1, q2, q3, q4, q5, q6⟩ := h
  have hus := q2.used 7 (by omega)
  exact stands_calls q1 ok (hidden hkk) q2 htn hfr hk60 RV T (fun id hi => by rw [q5]; exact hR id hi) (fun id a b c => hT id a b (by rw [← q5]; exact c)) (by rw [q6]; omega) hGT q3 q4.1
end
/-- What a call answered, by the number at its bottom. -/
def AnsI (nm : ByteArray) (want : Int) (r : Value) (w : World) : Prop := (r = .nilIface ∧ want = 0) ∨ ∃ b, r = flt b ∧ Chain w [(sInode, nm)] (num want) (flt b) ∧ (want == 0) = false
theorem AnsI.below {nm : ByteArray} {want : Int} {r : Value} {w w' : World} (h : AnsI nm want r w) (hb : Below w.heap.size w w') : AnsI nm want r w' := by
  rcases h with h | ⟨b, h1, h2, h3⟩
  · exact Or.inl h
  · exact Or.inr ⟨b, h1, h2.below hb, h3⟩
theorem AnsI.is {nm : ByteArray} {want : Int} {r : Value} {w : World} (h : AnsI nm want r w) (hg : GT w) :
    Calls Tryz.prog 14 #[r, .string sInode, .string nm, .int .i64 want] w fun e w' => e = .returned (.bool true) ∧ Below w.heap.size w w' := by
  rcases h with ⟨rfl, rfl⟩ | ⟨b, rfl, h2, h3⟩
  · exact (law_is_nil sInode nm w).mono fun _ _ ⟨h1, h2⟩ => ⟨h1, by rw [h2]; exact Below.refl _ _⟩
  · exact law_is want h3 w sInode nm [] (flt b) h2 hg
end Go.Proofs.YtdkpffpjbpfdnaaGreatDoor
/- InodePlays: the errors of cut and read. -/
namespace Go.Proofs.YtdkpffpjbpfdnaaGreatDoor
open Go.RowKit Go.Extern.Stop Go.Stop Go.Extern Go.Maps Go.Sort Go.Shelf
set_option maxRecDepth 100000

theorem wrap_in (z : Int) (h0 : -9223372036854775808 ≤ z) (h1 : z ≤ 9223372036854775807) : IntKind.i64.wrap z = z := by
  simp only [IntKind.wrap, IntKind.bits, IntKind.signed]
  simp
  omega
section
variable {w w' : World}
set_option maxHeartbeats 1000000 in
theorem cut_err {tb : Nat} {id s m : Int} (hat : 0 ≤ s) (kL : Calls Tryz.prog 125 #[ptr tb, .int .i64 id] w fun e w' => e = .returned (.tuple #[nodeV 0 0 (.slice none 0 0), num m]) ∧ Below w.heap.size w w') :
    Calls Tryz.prog 71 #[ptr tb, .int .i64 id, .int .i64 s] w fun e w' => e = .returned (num m) ∧ Below w.heap.size w w' := by
  replace kL := hidden kL
  have h0 : ¬ s < 0 := by omega
  go_enter Tryz.func71, Tryz.ntmps71
  go_wp2_with fail
  refine (kL.out).mono ?_
  rintro ev w1 ⟨rfl, hB⟩
  have hE := hidden (hB.alloc hB.size (.cells #[.int .i64 0, .int .i64 0, .slice none 0 0] 110))
  clear hB
  go_wp2
  go_ret
  exact ⟨rfl, hE.out⟩
theorem cut_low {tb : Nat} {id s : Int} (hat : s < 0) :
    Calls Tryz.prog 71 #[ptr tb, .int .i64 id, .int .i64 s] w fun e w' => e = .returned (num 1) ∧ w' = w := by
  go_enter Tryz.func71, Tryz.ntmps71
  go_wp2
  go_ret
  exact ⟨rfl, rfl⟩
set_option maxHeartbeats 1000000 in
theorem cut_big {tb : Nat} {id s K S : Int} {l : List Int} (hbig : 4000 < s) (kL : Calls Tryz.prog 125 #[ptr tb, .int .i64 id] w fun e w' => ∃ v, e = .returned (.tuple #[nodeV K S v, .nilIface]) ∧ Kept w.heap.size w' v l ∧ Below w.heap.size w w') :
    Calls Tryz.prog 71 #[ptr tb, .int .i64 id, .int .i64 s] w fun e w' => e = .returned (num 5) ∧ Below w.heap.size w w' := by
  replace kL := hidden kL
  have h0 : ¬ s < 0 := by omega
  go_enter Tryz.func71, Tryz.ntmps71
  go_wp2_with fail
  refine (kL.out).mono ?_
  rintro ev w1 ⟨v, rfl, hK, hB⟩
  obtain ⟨a, c, rfl, -⟩ := hK.form
  have hE := hidden (hB.alloc hB.size (.cells #[.int .i64 K, .int .i64 S, .slice a l.length c] 110))
  clear hB hK
  go_wp2
  go_ret
  exact ⟨rfl, hE.out⟩
set_option maxHeartbeats 1000000 in
theorem read_err {tb : Nat} {id at_ n m : Int} (hat : 0 ≤ at_) (hn : 0 ≤ n) (kL : Calls Tryz.prog 125 #[ptr tb, .int .i64 id] w fun e w' => e = .returned (.tuple #[nodeV 0 0 (.slice none 0 0), num m]) ∧ Below w.heap.size w w') :
    Calls Tryz.prog 72 #[ptr tb, .int .i64 id, .int .i64 at_, .int .i64 n] w fun e w' => e = .returned (.tuple #[.slice none 0 0, num m]) ∧ Below w.heap.size w w' := by
  replace kL := hidden kL
  have h0 : ¬ at_ < 0 := by omega
  have h1 : ¬ n < 0 := by omega
  go_enter Tryz.func72, Tryz.ntmps72
  go_wp2_with fail
  refine (kL.out).mono ?_
  rintro ev w1 ⟨rfl, hB⟩
  have hE := hidden (hB.alloc hB.size (.cells #[.int .i64 0, .int .i64 0, .slice none 0 0] 110))
  clear hB
  go_wp2
  go_ret2
  exact ⟨rfl, hE.out⟩
theorem read_low {tb : Nat} {id at_ n : Int} (hat : at_ < 0 ∨ n < 0) :
    Calls Tryz.prog 72 #[ptr tb, .int .i64 id, .int .i64 at_, .int .i64 n] w fun e w' => e = .returned (.tuple #[.slice none 0 0, num 1]) ∧ w' = w := by
  by_cases h0 : at_ < 0
  · go_enter Tryz.func72, Tryz.ntmps72
    go_wp2
    go_ret2
    exact ⟨rfl, rfl⟩
  · have h1 : n < 0 := by omega
    go_enter Tryz.func72, Tryz.ntmps72
    go_wp2
    go_ret2
    exact ⟨rfl, rfl⟩
set_option maxHeartbeats 1000000 in
/-- A read far behind the bytes. -/
theorem read_far {tb : Nat} {id at_ n K S : Int} {l : List Int} (hS : 0 ≤ S ∧ S ≤ 4000) (hat : S ≤ at_) (hat2 : at_ ≤ 9223372036854775807) (hn : 0 ≤ n) (kL : Calls Tryz.prog 125 #[ptr tb, .int .i64 id] w fun e w' => ∃ v, e = .returned (.tuple #[nodeV K S v, .nilIface]) ∧ Kept w.heap.size w' v l ∧ Below w.heap.size w w') :
    Calls Tryz.prog 72 #[ptr tb, .int .i64 id, .int .i64 at_, .int .i64 n] w fun e w' => e = .returned (.tuple #[.slice none 0 0, .nilIface]) ∧ Below w.heap.size w w' := by
  replace kL := hidden kL
  have h0 : ¬ at_ < 0 := by omega
  have h1 : ¬ n < 0 := by omega
  have kP := hidden (fun (wx : World) (v : Value) (m : Int) (hm : m ≤ 0) => pieces_none (w := wx) (v := v) K S at_ m hm)
  have hw : IntKind.i64.wrap (S - at_) = S - at_ := wrap_in _ (by omega) (by omega)
  have hm0 := hidden (show min n (S - at_) ≤ 0 by omega)
  go_enter Tryz.func72, Tryz.ntmps72
  go_wp2_with fail
  refine (kL.out).mono ?_
  rintro ev w1 ⟨v, rfl, hK, hB⟩
  have hB5 : Below w1.heap.size w1 (w1.alloc (.cells #[.int .i64 K, .int .i64 S, v] 110)) := (Below.refl _ _).alloc (Nat.le_refl _) _
  have hN5 : NdAt (w1.alloc (.cells #[.int .i64 K, .int .i64 S, v] 110)) w1.heap.size K S v := ⟨by simp, by simp, by simp⟩
  have hB05 := hidden (hB.trans (hB5.mono hB.size))
  obtain ⟨a, c, rfl, -⟩ := hK.form
  generalize hw5 : w1.alloc (.cells #[.int .i64 K, .int .i64 S, .slice a l.length c] 110) = w5 at *
  have n1 := hN5.c1
  have n0 := hN5.c0
  have n2 := hN5.c2
  clear hK hB hN5 hB5 kL
  generalize l.length = KL at *
  go_wp2_with fail
  refine (kP.out _ _ _ hm0.out).mono ?_
  rintro ev w6 ⟨rfl, hB6⟩
  have hE := hidden (hB05.out.trans (hB6.mono hB05.out.size))
  clear hB6 n0 n1 n2 hw5 hB05 kP hw
  go_wp2_with fail
  go_loopg [12, 43] 1 (fun gk l q wr => l = .slice none 0 0 ∧ q = .int .i64 0 ∧ wr = w6)
  case atStart => exact ⟨rfl, rfl, rfl⟩
  case round =>
    obtain ⟨rfl, rfl, rfl⟩ := hrel
    go_wp2
    go_ret2
    exact ⟨rfl, hE.out⟩
set_option maxHeartbeats 1000000 in
theorem iRead_num {tb : Nat} {id at_ n m : Int} (hi : i64 id) (hG : Ground w)
    (kW : Calls Tryz.prog 72 #[ptr tb, .int .i64 id, .int .i64 at_, .int .i64 n] w fun e w' => e = .returned (.tuple #[.slice none 0 0, num m]) ∧ Below w.heap.size w w') :
    Calls Tryz.prog 21 #[ptr tb, .int .i64 id, .int .i64 at_, .int .i64 n] w fun e w' => ∃ b, e = .returned (.tuple #[.slice none 0 0, flt b]) ∧ Chain w' [(sInode, itoaB id)] (num m) (flt b) ∧ Below w.heap.size w w' := by
  replace kW := hidden kW
  replace hi := hidden hi
  go_enter Tryz.func21, Tryz.ntmps21
  go_wp2_with fail
  refine (kW.out).mono ?_
  rintro ev w1 ⟨rfl, hB1⟩
  have kA := hidden (about_num id hi.out m w1 (hG.below hB1))
  replace hB1 := hidden hB1
  go_wp2_with fail
  refine (kA.out).mono ?_
  rintro ev w2 ⟨b, rfl, hc, hB2⟩
  have hE := hidden (And.intro hc (hB1.out.trans (hB2.mono hB1.out.size)))
  clear hc hB2
  go_wp2
  go_ret2
  exact ⟨b, rfl, hE.out⟩
set_option maxHeartbeats 1000000 in
theorem iRead_nil {tb : Nat} {id at_ n : Int} (hi : i64 id) (hG : Ground w)
    (kW : Calls Tryz.prog 72 #[ptr tb, .int .i64 id, .int .i64 at_, .int .i64 n] w fun e w' => e = .returned (.tuple #[.slice none 0 0, .nilIface]) ∧ Below w.heap.size w w') :
    Calls Tryz.prog 21 #[ptr tb, .int .i64 id, .int .i64 at_, .int .i64 n] w fun e w' => e = .returned (.tuple #[.slice none 0 0, .nilIface]) ∧ Below w.heap.size w w' := by
  replace kW := hidden kW
  replace hi := hidden hi
  go_enter Tryz.func21, Tryz.ntmps21
  go_wp2_with fail
  refine (kW.out).mono ?_
  rintro ev w1 ⟨rfl, hB1⟩
  have kA := hidden (about_nil id hi.out w1 (hG.below hB1))
  replace hB1 := hidden hB1
  go_wp2_with fail
  refine (kA.out).mono ?_
  rintro ev w2 ⟨rfl, hB2⟩
  have hE := hidden (hB1.out.trans (hB2.mono hB1.out.size))
  clear hB2
  go_wp2
  go_ret2
  exact ⟨rfl, hE.out⟩
end
end Go.Proofs.YtdkpffpjbpfdnaaGreatDoor
/- InodePlays: each call by what it answers. -/
namespace Go.Proofs.YtdkpffpjbpfdnaaGreatDoor
open Go.RowKit Go.Extern.Stop Go.Stop Go.Extern Go.Maps Go.Sort Go.Shelf
set_option maxRecDepth 100000

/-- How many blocks are free, by what the inodes hold. -/
def frN (E : TE) (D : Nat → List Int) : Nat := ((E.k : Int) - sumB D 7).toNat
/-- The state of a round. -/
structure P8 (E : TE) (K : Nat → Nat) (D : Nat → List Int) (lim : Nat) (w : World) : Prop where
  s : S8 E K D (frN E D) lim w
  le : sumB D 7 ≤ E.k
section
variable {E : TE} {K : Nat → Nat} {D : Nat → List Int} {f lim : Nat} {w w' : World}
theorem P8.of (h : S8 E K D f lim w) (hu : (f : Int) + sumB D 7 = E.k) : P8 E K D lim w := by
  have e : frN E D = f := by unfold frN; omega
  exact ⟨by rw [e]; exact h, by omega⟩
theorem P8.fr (h : P8 E K D lim w) : ((frN E D : Nat) : Int) + sumB D 7 = E.k := by have := h.le; unfold frN; omega
theorem P8.more (h : P8 E K D lim w) (hb : Below w.heap.size w w') : P8 E K D lim w' := ⟨h.s.more hb, h.le⟩
theorem P8.over (h : P8 E K D lim w) {B : Nat} (hB : E.Ahead B) (hb : Below B w w') : P8 E K D lim w' := ⟨h.s.over hB hb, h.le⟩
/-- What a call did: its answer, the state behind it. -/
def Did (E : TE) (nm : ByteArray) (want : Int) (K : Nat → Nat) (D : Nat → List Int) (lim : Nat) (w : World) (r : Value) (w' : World) : Prop := AnsI nm want r w' ∧ P8 E K D lim w' ∧ Apart [E.mb] w w'
theorem Did.err (h : P8 E K D lim w') {nm : ByteArray} {m : Int} (hm : (m == 0) = false) {b : Nat} (hc : Chain w' [(sInode, nm)] (num m) (flt b)) (ha : Apart [E.mb] w w') : Did E nm m K D lim w (flt b) w' := ⟨Or.inr ⟨b, rfl, hc, hm⟩, h, ha⟩
theorem Did.good (h : P8 E K D lim w') {nm : ByteArray} (ha : Apart [E.mb] w w') : Did E nm 0 K D lim w .nilIface w' := ⟨Or.inl ⟨rfl, rfl⟩, h, ha⟩
theorem P8.load_bad (h : P8 E K D lim w) (htn : E.tn = 6) (id : Int) (hi : i64 id) (hb : ¬ (1 ≤ id ∧ id ≤ 6)) :
    Calls Tryz.prog 125 #[ptr E.tb, .int .i64 id] w fun e w' => e = .returned (.tuple #[nodeV 0 0 (.slice none 0 0), num 1]) ∧ Below w.heap.size w w' := by
  obtain ⟨mem, wr, M, N, q1, -⟩ := h.s
  exact load_err (fun wx hx => used_bad (q1.more hx).t id hi (by rw [htn]; exact hb))
theorem P8.load_none (ok : E.Ok) (h : P8 E K D lim w) (htn : E.tn = 6) {id : Nat} (h1 : 1 ≤ id) (h2 : id ≤ 6) (hk : K id = 0) :
    Calls Tryz.prog 125 #[ptr E.tb, .int .i64 id] w fun e w' => e = .returned (.tuple #[nodeV 0 0 (.slice none 0 0), num 11]) ∧ Below w.heap.size w w' :=
  S8.load_none ok h.s h1 (by rw [htn]; exact h2) hk
theorem P8.load_ok (ok : E.Ok) (h : P8 E K D lim w) (htn : E.tn = 6) {id : Nat} (h1 : 1 ≤ id) (h2 : id ≤ 6) (hk : K id ≠ 0) :
    ∃ l : List Int, Calls Tryz.prog 125 #[ptr E.tb, .int .i64 id] w fun e w' => ∃ v, e = .returned (.tuple #[nodeV (K id : Nat) ((D id).length : Nat) v, .nilIface]) ∧ Kept w.heap.size w' v l ∧ Below w.heap.size w w' := by
  obtain ⟨mem, wr, M, N, q1, q2, q3, q4, q5, q6⟩ := h.s
  have hd : (D id).length = (N id).size := by rw [← q2.data id h1 (by omega), bytesF_len]
  refine ⟨(N id).list, ?_⟩
  have := q1.load ok q2 id h1 (by omega) (by rw [q5]; exact hk)
  rw [q5, ← hd] at this
  exact this
theorem P8.free_err (h : P8 E K D lim w) {id : Int} (hi : i64 id) {m : Int} (hm : (m == 0) = false) (kL : ∀ wx, Below w.heap.size w wx → Calls Tryz.prog 125 #[ptr E.tb, .int .i64 id] wx fun e w' => e = .returned (.tuple #[nodeV 0 0 (.slice none 0 0), num m]) ∧ Below wx.heap.size wx w') :
    Calls Tryz.prog 15 #[ptr E.tb, .int .i64 id] w fun e w' => ∃ r, e = .returned r ∧ Did E (itoaB id) m K D lim w r w' := by
  refine (iFree_num hi h.s.ground (release_err kL)).mono ?_
  rintro e w' ⟨b, rfl, hc, hB⟩
  exact ⟨_, rfl, Did.err (h.more hB) hm hc (Apart.of_below hB)⟩
theorem P8.free_ok (ok : E.Ok) (h : P8 E K D lim w) (htn : E.tn = 6) {id : Nat} (h1 : 1 ≤ id) (h2 : id ≤ 6) (hk : K id ≠ 0) :
    Calls Tryz.prog 15 #[ptr E.tb, .int .i64 id] w fun e w' => ∃ r, e = .returned r ∧ Did E (itoaB id) 0 (upd K id 0) (upd D id []) lim w r w' := by
  obtain ⟨n, hn⟩ : ∃ n : Nat, blk ((D id).length : Int) = (n : Int) := ⟨(blk ((D id).length : Int)).toNat, by have := blk_range ((D id).length : Int); omega⟩
  refine (S8.free ok h.s h1 (by omega) hk hn).mono ?_
  rintro e w' ⟨rfl, hS, hA⟩
  refine ⟨_, rfl, Did.good (P8.of hS ?_) hA⟩
  have e := sumB_upd D id h1 [] 7
  rw [if_pos (by omega)] at e
  have h0 : blk (([] : List Int).length : Int) = 0 := by simp [blk]
  have := h.fr
  omega
theorem P8.write_num (h : P8 E K D lim w) {id at_ m : Int} (hi : i64 id) (hm : (m == 0) = false) {a : Option Addr} {L c : Nat} (kW : Calls Tryz.prog 70 #[ptr E.tb, .int .i64 id, .int .i64 at_, .slice a L c] w fun e w' => e = .returned (num m) ∧ Below w.heap.size w w') :
    Calls Tryz.prog 17 #[ptr E.tb, .int .i64 id, .int .i64 at_, .slice a L c] w fun e w' => ∃ r, e = .returned r ∧ Did E (itoaB id) m K D lim w r w' := by
  refine (iWrite_num hi (Q := fun w' => P8 E K D lim w' ∧ Apart [E.mb] w w') (fun w1 w2 q hB => ⟨q.1.more hB, q.2.trans (Apart.of_below hB)⟩) (fun w1 q => q.1.s.ground) (kW.mono fun e w' ⟨r1, r2⟩ => ⟨r1, h.more r2, Apart.of_below r2⟩) ⟨a, L, c, rfl⟩).mono ?_
  rintro e w' ⟨b, rfl, hc, hP, hA⟩
  exact ⟨_, rfl, Did.err hP hm hc hA⟩
theorem P8.write_low (h : P8 E K D lim w) {id at_ : Int} (hi : i64 id) (hat : at_ < 0) (a : Option Addr) (L c : Nat) :
    Calls Tryz.prog 17 #[ptr E.tb, .int .i64 id, .int .i64 at_, .slice a L c] w fun e w' => ∃ r, e = .returned r ∧ Did E (itoaB id) 1 K D lim w r w' :=
  h.write_num hi rfl ((Go.Proofs.YtdkpffpjbpfdnaaGreatDoor.write_low hat).mono fun e w' ⟨r1, r2⟩ => ⟨r1, by rw [r2]; exact Below.refl _ _⟩)
theorem P8.write_bad (h : P8 E K D lim w) (htn : E.tn = 6) {id at_ : Int} (hi : i64 id) (hb : ¬ (1 ≤ id ∧ id ≤ 6)) (hat : 0 ≤ at_) (a : Option Addr) (L c : Nat) :
    Calls Tryz.prog 17 #[ptr E.tb, .int .i64 id, .int .i64 at_, .slice a L c] w fun e w' => ∃ r, e = .returned r ∧ Did E (itoaB id) 1 K D lim w r w' :=
  h.write_num hi rfl (write_err hat (h.load_bad htn id hi hb))
theorem P8.write_none (ok : E.Ok) (h : P8 E K D lim w) (htn : E.tn = 6) {id : Nat} {at_ : Int} (h1 : 1 ≤ id) (h2 : id ≤ 6) (hk : K id = 0) (hat : 0 ≤ at_) (a : Option Addr) (L c : Nat) :
    Calls Tryz.prog 17 #[ptr E.tb, .int .i64 id, .int .i64 at_, .slice a L c] w fun e w' => ∃ r, e = .returned r ∧ Did E (itoaB id) 11 K D lim w r w' :=
  h.write_num ⟨by omega, by omega⟩ rfl (write_err hat (h.load_none ok htn h1 h2 hk))
theorem P8.write_big (ok : E.Ok) (h : P8 E K D lim w) (htn : E.tn = 6) {id : Nat} {at_ : Int} (h1 : 1 ≤ id) (h2 : id ≤ 6) (hk : K id ≠ 0) (hat : 0 ≤ at_) (a : Option Addr) (L c : Nat) (hL : L ≤ 100000) (hbig : 4000 < at_ + L) :
    Calls Tryz.prog 17 #[ptr E.tb, .int .i64 id, .int .i64 at_, .slice a L c] w fun e w' => ∃ r, e = .returned r ∧ Did E (itoaB id) 5 K D lim w r w' := by
  obtain ⟨l, kL⟩ := h.load_ok ok htn h1 h2 hk
  exact h.write_num ⟨by omega, by omega⟩ rfl (Go.Proofs.YtdkpffpjbpfdnaaGreatDoor.write_big hat hL hbig kL)
theorem P8.write_zero (ok : E.Ok) (h : P8 E K D lim w) (htn : E.tn = 6) {id : Nat} {at_ : Nat} (h1 : 1 ≤ id) (h2 : id ≤ 6) (hk : K id ≠ 0) (hat : at_ ≤ 4000) (a : Option Addr) (c : Nat) :
    Calls Tryz.prog 17 #[ptr E.tb, .int .i64 id, .int .i64 at_, .slice a 0 c] w fun e w' => ∃ r, e = .returned r ∧ Did E (itoaB id) 0 K D lim w r w' := by
  obtain ⟨l, kL⟩ := h.load_ok ok htn h1 h2 hk
  refine (iWrite_calls (id := (id : Int)) ⟨by omega, by omega⟩ (Q := fun w' => P8 E K D lim w' ∧ Apart [E.mb] w w') (fun w1 w2 q hB => ⟨q.1.more hB, q.2.trans (Apart.of_below hB)⟩) (fun w1 q => q.1.s.ground) ((Go.Proofs.YtdkpffpjbpfdnaaGreatDoor.write_none ⟨by omega, by omega⟩ kL).mono fun e w' ⟨r1, r2⟩ => ⟨r1, h.more r2, Apart.of_below r2⟩) ⟨a, 0, c, rfl⟩).mono ?_
  rintro e w' ⟨rfl, hP, hA⟩
  exact ⟨_, rfl, Did.good hP hA⟩
theorem P8.write_full (ok : E.Ok) (hkk : E.kk = E.k) (h : P8 E K D lim w) (htn : E.tn = 6) {id : Nat} {at_ S2 : Nat} (h1 : 1 ≤ id) (h2 : id ≤ 6) (hk : K id ≠ 0) {bv : Value} {zs : List Int} (hbv : BytesC E.mb w bv zs) (hz0 : 0 < zs.length) (hat : at_ + zs.length ≤ 4000) (hmx : max (D id).length (at_ + zs.length) = S2) (hfull : ((frN E D : Nat) : Int) < growb (D id).length S2) :
    Calls Tryz.prog 17 #[ptr E.tb, .int .i64 id, .int .i64 at_, bv] w fun e w' => ∃ r, e = .returned r ∧ Did E (itoaB id) 15 K D lim w r w' := by
  obtain ⟨n, hn⟩ : ∃ n : Nat, growb ((D id).length : Int) (S2 : Int) = (n : Int) := ⟨(growb ((D id).length : Int) (S2 : Int)).toNat, by have := growb_range ((D id).length : Int) (S2 : Int); omega⟩
  refine (S8.full ok hkk h.s h1 (by omega) hk hbv hz0 hat hmx hn (by omega)).mono ?_
  rintro e w' ⟨b, rfl, hc, hS, hA⟩
  exact ⟨_, rfl, Did.err ⟨hS, h.le⟩ rfl hc hA⟩
theorem blk_up {a b : Int} (h0 : 0 ≤ a) (h : a ≤ b) (hb : b ≤ 4000) : blk a ≤ blk b := by unfold blk; split <;> split <;> (try split) <;> (try split) <;> (try split) <;> (try split) <;> omega
theorem putD_len (d zs : List Int) (at_ S2 : Nat) : (putD d zs at_ S2).length = S2 := by simp [putD]
theorem P8.write_ok (ok : E.Ok) (h : P8 E K D lim w) (htn : E.tn = 6) {id : Nat} {at_ S2 : Nat} (h1 : 1 ≤ id) (h2 : id ≤ 6) (hk : K id ≠ 0) {bv : Value} {zs : List Int} (hbv : BytesC E.mb w bv zs) (hz0 : 0 < zs.length) (hat : at_ + zs.length ≤ 4000) (hmx : max (D id).length (at_ + zs.length) = S2) (hroom : growb (D id).length S2 ≤ ((frN E D : Nat) : Int)) :
    Calls Tryz.prog 17 #[ptr E.tb, .int .i64 id, .int .i64 at_, bv] w fun e w' => ∃ r, e = .returned r ∧ Did E (itoaB id) 0 K (upd D id (putD (D id) zs at_ S2)) lim w r w' := by
  have hlen := h.s.len h1 (by omega)
  obtain ⟨n, hn⟩ : ∃ n : Nat, growb ((D id).length : Int) (S2 : Int) = (n : Int) := ⟨(growb ((D id).length : Int) (S2 : Int)).toNat, by have := growb_range ((D id).length : Int) (S2 : Int); omega⟩
  refine (S8.write ok h.s h1 (by omega) hk hbv hz0 hat hmx hn (by omega)).mono ?_
  rintro e w' ⟨rfl, hS, hA⟩
  refine ⟨_, rfl, Did.good (P8.of hS ?_) hA⟩
  have e := sumB_upd D id h1 (putD (D id) zs at_ S2) 7
  rw [if_pos (by omega), putD_len] at e
  have hup := blk_up (a := ((D id).length : Int)) (b := (S2 : Int)) (by omega) (by omega) (by omega)
  have hg : growb ((D id).length : Int) (S2 : Int) = blk (S2 : Int) - blk ((D id).length : Int) := by unfold growb; omega
  have := h.fr
  omega
theorem P8.cut_num (h : P8 E K D lim w) {id s m : Int} (hi : i64 id) (hm : (m == 0) = false) (kW : Calls Tryz.prog 71 #[ptr E.tb, .int .i64 id, .int .i64 s] w fun e w' => e = .returned (num m) ∧ Below w.heap.size w w') :
    Calls Tryz.prog 19 #[ptr E.tb, .int .i64 id, .int .i64 s] w fun e w' => ∃ r, e = .returned r ∧ Did E (itoaB id) m K D lim w r w' := by
  refine (iCut_num hi (Q := fun w' => P8 E K D lim w' ∧ Apart [E.mb] w w') (fun w1 w2 q hB => ⟨q.1.more hB, q.2.trans (Apart.of_below hB)⟩) (fun w1 q => q.1.s.ground) (kW.mono fun e w' ⟨r1, r2⟩ => ⟨r1, h.more r2, Apart.of_below r2⟩)).mono ?_
  rintro e w' ⟨b, rfl, hc, hP, hA⟩
  exact ⟨_, rfl, Did.err hP hm hc hA⟩
theorem P8.cut_low (h : P8 E K D lim w) {id s : Int} (hi : i64 id) (hs : s < 0) :
    Calls Tryz.prog 19 #[ptr E.tb, .int .i64 id, .int .i64 s] w fun e w' => ∃ r, e = .returned r ∧ Did E (itoaB id) 1 K D lim w r w' :=
  h.cut_num hi rfl ((Go.Proofs.YtdkpffpjbpfdnaaGreatDoor.cut_low hs).mono fun e w' ⟨r1, r2⟩ => ⟨r1, by rw [r2]; exact Below.refl _ _⟩)
theorem P8.cut_bad (h : P8 E K D lim w) (htn : E.tn = 6) {id s : Int} (hi : i64 id) (hb : ¬ (1 ≤ id ∧ id ≤ 6)) (hs : 0 ≤ s) :
    Calls Tryz.prog 19 #[ptr E.tb, .int .i64 id, .int .i64 s] w fun e w' => ∃ r, e = .returned r ∧ Did E (itoaB id) 1 K D lim w r w' :=
  h.cut_num hi rfl (cut_err hs (h.load_bad htn id hi hb))
theorem P8.cut_none (ok : E.Ok) (h : P8 E K D lim w) (htn : E.tn = 6) {id : Nat} {s : Int} (h1 : 1 ≤ id) (h2 : id ≤ 6) (hk : K id = 0) (hs : 0 ≤ s) :
    Calls Tryz.prog 19 #[ptr E.tb, .int .i64 id, .int .i64 s] w fun e w' => ∃ r, e = .returned r ∧ Did E (itoaB id) 11 K D lim w r w' :=
  h.cut_num ⟨by omega, by omega⟩ rfl (cut_err hs (h.load_none ok htn h1 h2 hk))
theorem P8.cut_big (ok : E.Ok) (h : P8 E K D lim w) (htn : E.tn = 6) {id : Nat} {s : Int} (h1 : 1 ≤ id) (h2 : id ≤ 6) (hk : K id ≠ 0) (hs : 4000 < s) :
    Calls Tryz.prog 19 #[ptr E.tb, .int .i64 id, .int .i64 s] w fun e w' => ∃ r, e = .returned r ∧ Did E (itoaB id) 5 K D lim w r w' := by
  obtain ⟨l, kL⟩ := h.load_ok ok htn h1 h2 hk
  exact h.cut_num ⟨by omega, by omega⟩ rfl (Go.Proofs.YtdkpffpjbpfdnaaGreatDoor.cut_big hs kL)
theorem P8.cut_full (ok : E.Ok) (hkk : E.kk = E.k) (h : P8 E K D lim w) (htn : E.tn = 6) {id S2 : Nat} (h1 : 1 ≤ id) (h2 : id ≤ 6) (hk : K id ≠ 0) (hS2 : S2 ≤ 4000) (hfull : ((frN E D : Nat) : Int) < growb (D id).length S2) :
    Calls Tryz.prog 19 #[ptr E.tb, .int .i64 id, .int .i64 S2] w fun e w' => ∃ r, e = .returned r ∧ Did E (itoaB id) 15 K D lim w r w' := by
  have hlen := h.s.len h1 (by omega)
  obtain ⟨n, hn⟩ : ∃ n : Nat, growb ((D id).length : Int) (S2 : Int) = (n : Int) := ⟨(growb ((D id).length : Int) (S2 : Int)).toNat, by have := growb_range ((D id).length : Int) (S2 : Int); omega⟩
  have hge : (D id).length ≤ S2 := by
    rcases Nat.lt_or_ge S2 (D id).length with hlt | hge
    · have := blk_up (a := (S2 : Int)) (b := ((D id).length : Int)) (by omega) (by omega) (by omega)
      unfold growb at hfull
      omega
    · exact hge
  refine (S8.cutfull ok hkk h.s h1 (by omega) hk hge hS2 hn (by omega)).mono ?_
  rintro e w' ⟨b, rfl, hc, hS, hA⟩
  exact ⟨_, rfl, Did.err ⟨hS, h.le⟩ rfl hc hA⟩
theorem P8.cut_ok (ok : E.Ok) (h : P8 E K D lim w) (htn : E.tn = 6) {id S2 : Nat} (h1 : 1 ≤ id) (h2 : id ≤ 6) (hk : K id ≠ 0) (hS2 : S2 ≤ 4000) (hroom : growb (D id).length S2 ≤ ((frN E D : Nat) : Int)) :
    Calls Tryz.prog 19 #[ptr E.tb, .int .i64 id, .int .i64 S2] w fun e w' => ∃ r, e = .returned r ∧ Did E (itoaB id) 0 K (upd D id (cutL (D id) S2)) lim w r w' := by
  refine (S8.cut ok h.s h1 (by omega) hk hS2 (by unfold growb at hroom; omega)).mono ?_
  rintro e w' ⟨rfl, ⟨f', hf, hS⟩, hA⟩
  refine ⟨_, rfl, Did.good (P8.of hS ?_) hA⟩
  have e := sumB_upd D id h1 (cutL (D id) S2) 7
  rw [if_pos (by omega), cutL_len] at e
  have := h.fr
  omega
theorem P8.read_num (h : P8 E K D lim w) {id at_ n m : Int} (hi : i64 id) (hm : (m == 0) = false) (kW : Calls Tryz.prog 72 #[ptr E.tb, .int .i64 id, .int .i64 at_, .int .i64 n] w fun e w' => e = .returned (.tuple #[.slice none 0 0, num m]) ∧ Below w.heap.size w w') :
    Calls Tryz.prog 21 #[ptr E.tb, .int .i64 id, .int .i64 at_, .int .i64 n] w fun e w' => ∃ r, e = .returned (.tuple #[.slice none 0 0, r]) ∧ AnsI (itoaB id) m r w' ∧ Below w.heap.size w w' := by
  refine (iRead_num hi h.s.ground kW).mono ?_
  rintro e w' ⟨b, rfl, hc, hB⟩
  exact ⟨_, rfl, Or.inr ⟨b, rfl, hc, hm⟩, hB⟩
theorem P8.read_low (h : P8 E K D lim w) {id at_ n : Int} (hi : i64 id) (hs : at_ < 0 ∨ n < 0) :
    Calls Tryz.prog 21 #[ptr E.tb, .int .i64 id, .int .i64 at_, .int .i64 n] w fun e w' => ∃ r, e = .returned (.tuple #[.slice none 0 0, r]) ∧ AnsI (itoaB id) 1 r w' ∧ Below w.heap.size w w' :=
  h.read_num hi rfl ((Go.Proofs.YtdkpffpjbpfdnaaGreatDoor.read_low hs).mono fun e w' ⟨r1, r2⟩ => ⟨r1, by rw [r2]; exact Below.refl _ _⟩)
theorem P8.read_bad (h : P8 E K D lim w) (htn : E.tn = 6) {id at_ n : Int} (hi : i64 id) (hb : ¬ (1 ≤ id ∧ id ≤ 6)) (hs : 0 ≤ at_) (hn : 0 ≤ n) :
    Calls Tryz.prog 21 #[ptr E.tb, .int .i64 id, .int .i64 at_, .int .i64 n] w fun e w' => ∃ r, e = .returned (.tuple #[.slice none 0 0, r]) ∧ AnsI (itoaB id) 1 r w' ∧ Below w.heap.size w w' :=
  h.read_num hi rfl (read_err hs hn (h.load_bad htn id hi hb))
theorem P8.read_none (ok : E.Ok) (h : P8 E K D lim w) (htn : E.tn = 6) {id : Nat} {at_ n : Int} (h1 : 1 ≤ id) (h2 : id ≤ 6) (hk : K id = 0) (hs : 0 ≤ at_) (hn : 0 ≤ n) :
    Calls Tryz.prog 21 #[ptr E.tb, .int .i64 id, .int .i64 at_, .int .i64 n] w fun e w' => ∃ r, e = .returned (.tuple #[.slice none 0 0, r]) ∧ AnsI (itoaB id) 11 r w' ∧ Below w.heap.size w w' :=
  h.read_num ⟨by omega, by omega⟩ rfl (read_err hs hn (h.load_none ok htn h1 h2 hk))
theorem P8.read_ok (ok : E.Ok) (h : P8 E K D lim w) (htn : E.tn = 6) {id : Nat} (at_ n : Nat) (h1 : 1 ≤ id) (h2 : id ≤ 6) (hk : K id ≠ 0) (hat : (at_ : Int) ≤ 9223372036854775807) (hn : (n : Int) ≤ 9223372036854775807) :
    Calls Tryz.prog 21 #[ptr E.tb, .int .i64 id, .int .i64 at_, .int .i64 n] w fun e w' => ∃ v, e = .returned (.tuple #[v, .nilIface]) ∧ OwnV w.heap.size w' v (((D id).drop at_).take n) ∧ Below w.heap.size w w' := by
  have hlen := h.s.len h1 (by omega)
  by_cases hfar : at_ ≤ 100000
  · exact S8.read ok h.s h1 (by omega) hk at_ n hfar hn
  · obtain ⟨l, kL⟩ := h.load_ok ok htn h1 h2 hk
    refine (iRead_nil (id := (id : Int)) ⟨by omega, by omega⟩ h.s.ground (read_far (at_ := (at_ : Int)) (n := (n : Int)) ⟨by omega, by omega⟩ (by omega) hat (by omega) kL)).mono ?_
    rintro e w' ⟨rfl, hB⟩
    refine ⟨_, rfl, ?_, hB⟩
    rw [List.drop_of_length_le (by omega), List.take_nil]
    exact OwnV.nil _ _
theorem P8.make_bad (h : P8 E K D lim w) {kind : Int} (h1 : ¬ kind = 1) (h2 : ¬ kind = 2) :
    Calls Tryz.prog 13 #[ptr E.tb, .int .i64 kind] w fun e w' => ∃ r, e = .returned (.tuple #[.int .i64 0, r]) ∧ Did E sNone 1 K D lim w r w' := by
  refine (Go.Proofs.YtdkpffpjbpfdnaaGreatDoor.make_bad E.tb kind h1 h2).mono ?_
  rintro e w' ⟨b, rfl, hc, hB⟩
  exact ⟨_, rfl, Did.err (h.more hB) rfl hc (Apart.of_below hB)⟩
theorem P8.make_none (ok : E.Ok) (h : P8 E K D lim w) (htn : E.tn = 6) {kind : Int} (hk : kind = 1 ∨ kind = 2) (hall : ∀ id, 1 ≤ id → id ≤ 6 → K id ≠ 0) :
    Calls Tryz.prog 13 #[ptr E.tb, .int .i64 kind] w fun e w' => ∃ r, e = .returned (.tuple #[.int .i64 0, r]) ∧ Did E sNone 16 K D lim w r w' := by
  refine (S8.make_none ok h.s kind hk (fun id a b => hall id a (by omega))).mono ?_
  rintro e w' ⟨b, rfl, hc, hB⟩
  exact ⟨_, rfl, Did.err (h.more hB) rfl hc (Apart.of_below hB)⟩
theorem P8.make_ok (ok : E.Ok) (h : P8 E K D lim w) (htn : E.tn = 6) {kind id : Nat} (hk : kind = 1 ∨ kind = 2) (h1 : 1 ≤ id) (h2 : id ≤ 6) (hfree : K id = 0) (hlow : ∀ i, 1 ≤ i → i < id → K i ≠ 0) :
    Calls Tryz.prog 13 #[ptr E.tb, .int .i64 kind] w fun e w' => e = .returned (.tuple #[.int .i64 id, .nilIface]) ∧ P8 E (upd K id kind) D lim w' ∧ Apart [E.mb] w w' :=
  (S8.make ok h.s kind hk id h1 (by omega) hfree hlow).mono fun _ _ ⟨a, b, c⟩ => ⟨a, ⟨b, h.le⟩, c⟩
end
end Go.Proofs.YtdkpffpjbpfdnaaGreatDoor
/- InodePlays: texts. -/
namespace Go.Proofs.YtdkpffpjbpfdnaaGreatDoor
open Go.RowKit Go.Extern.Stop Go.Stop Go.Extern Go.Maps Go.Sort Go.Shelf
set_option maxRecDepth 100000

/-- So many bytes by a number. -/
def textI (n : Int) (long : Nat) : List Int := (List.range long).map fun (i : Nat) => (n + 3 * (i : Int)) % 256
theorem textI_len (n : Int) (long : Nat) : (textI n long).length = long := by simp [textI]
theorem textI_range (n : Int) (long : Nat) : ∀ z ∈ textI n long, 0 ≤ z ∧ z ≤ 255 := by
  intro z hz
  obtain ⟨i, -, rfl⟩ := List.mem_map.1 hz
  omega
theorem textI_succ (n : Int) (j : Nat) : textI n (j + 1) = textI n j ++ [(n + 3 * (j : Int)) % 256] := by simp [textI, List.range_succ]
set_option maxHeartbeats 1000000 in
theorem textI_calls (n : Int) (long : Nat) (hl : long ≤ 100000) (w : World) :
    Calls Tryz.prog 18 #[.int .i64 n, .int .i64 long] w fun e w' => e = .returned (.string (ofBytes (textI n long))) ∧ Below w.heap.size w w' := by
  have hmk := make_bytes long (by omega) w
  have hO := hidden (ownB_zero w w.heap.size (Nat.le_refl _) long (by omega))
  have hB0 : Hid (Below w.heap.size w (w.alloc (.cells (Array.replicate long (.int .u8 0)) 5))) := hidden ((Below.refl _ _).alloc (Nat.le_refl _) _)
  generalize w.alloc (.cells (Array.replicate long (.int .u8 0)) 5) = wa at *
  go_enter Tryz.func18, Tryz.ntmps18
  go_wp2_with fail
  go_loopg [11] (long + 1) (fun gk q wr => ∃ j : Nat, j ≤ long ∧ gk = long + 1 - j ∧ q = .int .i64 j ∧ Hid (OwnB w.heap.size wr w.heap.size long long (layL (List.replicate long 0) 0 (textI n j)) ∧ Below w.heap.size w wr))
  case atStart => exact ⟨0, by omega, rfl, rfl, hidden ⟨by rw [show textI n 0 = [] from rfl, layL_nil]; exact hO.out, hB0.out⟩⟩
  case round =>
    obtain ⟨j, hj, hgk, rfl, hI⟩ := hrel
    replace hgk := hidden hgk
    clear hmk
    by_cases hlt : j < long
    · have hcl := hI.out.1.cell j hlt
      have hfz := hI.out.1.row.frozenAt j
      have hE := hidden (fun (y : Int) (hy : y = ((n + 3 * (j : Int)) % 256)) => show OwnB w.heap.size (wr.setCell ⟨w.heap.size, j, none⟩ (.int .u8 y)) w.heap.size long long (layL (List.replicate long 0) 0 (textI n (j + 1))) ∧ Below w.heap.size w (wr.setCell ⟨w.heap.size, j, none⟩ (.int .u8 y)) from by
        subst hy
        have h1 := hI.out.1.stored j ((n + 3 * (j : Int)) % 256) (by omega)
        have h2 := layL_set (List.replicate long 0) (textI n j) 0 ((n + 3 * (j : Int)) % 256) (by rw [textI_len, List.length_replicate]; omega)
        rw [textI_len, Nat.zero_add] at h2
        rw [h2, ← textI_succ] at h1
        exact And.intro h1 (hI.out.2.setCell (p := ⟨w.heap.size, j, none⟩) (Nat.le_refl _) (.int .u8 ((n + 3 * (j : Int)) % 256))))
      have hjb : j < 100000 := by omega
      clear hI
      go_wp2
      go_roundg (long + 1 - (j + 1))
      case measure => rw [hgk.out]; omega
      case rel => exact ⟨j + 1, by omega, rfl, by go_num, hidden (hE.out _ (by unfold wrap64; omega))⟩
    · obtain rfl : j = long := by omega
      have hfull : layL (List.replicate j (0 : Int)) 0 (textI n j) = textI n j := by
        unfold layL
        rw [textI_len, List.drop_of_length_le (by rw [List.length_replicate]; omega)]
        simp
      rw [hfull] at hI
      have hcv := conv_bytes _ _ _ hI.out.1.bytes
      obtain ⟨TX, hTX⟩ : ∃ TX, TX = ofBytes (textI n j) := ⟨_, rfl⟩
      rw [← hTX] at hcv
      replace hTX := hidden hTX
      have hE := hidden hI.out.2
      clear hI
      go_wp2
      go_ret
      exact ⟨by rw [← hTX.out]; rfl, hE.out⟩
/-- What a Write lays, by texts cut and joined. -/
theorem putD_cat (d zs : List Int) (at_ S2 : Nat) (hz : 0 < zs.length) (hS : max d.length (at_ + zs.length) = S2) : (grownL d S2).take at_ ++ zs ++ (grownL d S2).drop (at_ + zs.length) = putD d zs at_ S2 := by
  have hgl : (grownL d S2).length = S2 := by unfold grownL; rw [List.length_append, List.length_replicate]; omega
  apply List.ext_getElem?
  intro j
  unfold putD
  rw [List.getElem?_map]
  by_cases hj : j < S2
  · rw [List.getElem?_range hj]
    by_cases ha : j < at_
    · rw [List.append_assoc, List.getElem?_append_left (by rw [List.length_take]; omega), List.getElem?_take, if_pos ha]
      simp only [Option.map_some]
      rw [if_neg (by omega)]
      unfold grownL
      by_cases hd : j < d.length
      · rw [List.getElem?_append_left hd, List.getD_eq_getElem?_getD, List.getElem?_eq_getElem hd]; rfl
      · rw [List.getElem?_append_right (by omega), List.getElem?_replicate, if_pos (by omega), List.getD_eq_getElem?_getD, List.getElem?_eq_none (by omega)]; rfl
    · by_cases hb : j < at_ + zs.length
      · rw [List.getElem?_append_left (by rw [List.length_append, List.length_take]; omega), List.getElem?_append_right (by rw [List.length_take]; omega), List.length_take, hgl, show min at_ S2 = at_ by omega]
        simp only [Option.map_some]
        rw [if_pos (by omega), List.getD_eq_getElem?_getD, List.getElem?_eq_getElem (by omega)]
        rfl
      · rw [List.getElem?_append_right (by rw [List.length_append, List.length_take]; omega), List.length_append, List.length_take, hgl, List.getElem?_drop, show at_ + zs.length + (j - (min at_ S2 + zs.length)) = j by omega]
        simp only [Option.map_some]
        rw [if_neg (by omega)]
        unfold grownL
        by_cases hd : j < d.length
        · rw [List.getElem?_append_left hd, List.getD_eq_getElem?_getD, List.getElem?_eq_getElem hd]; rfl
        · rw [List.getElem?_append_right (by omega), List.getElem?_replicate, if_pos (by omega), List.getD_eq_getElem?_getD, List.getElem?_eq_none (by omega)]; rfl
  · rw [List.getElem?_eq_none (l := List.range S2) (by rw [List.length_range]; omega), List.getElem?_eq_none (by rw [List.length_append, List.length_append, List.length_take, List.length_drop]; omega)]
    rfl
end Go.Proofs.YtdkpffpjbpfdnaaGreatDoor
/- InodePlays, cut into declarations: what they share. -/
namespace Go.Proofs.YtdkpffpjbpfdnaaGreatDoor
open Go.RowKit Go.Extern.Stop Go.Stop Go.Extern Go.Maps Go.Sort Go.Shelf
set_option maxRecDepth 100000

/-- The rows of the statement, as they lie in memory: kind and text by turns. -/
structure RwAt (rb : Nat) (K : Nat → Nat) (D : Nat → List Int) (w : World) : Prop where
  k : ∀ id, id ≤ 6 → w.cell? ⟨rb, id * 2, none⟩ = some (.int .i64 (K id : Nat))
  t : ∀ id, id ≤ 6 → w.cell? ⟨rb, id * 2 + 1, none⟩ = some (.string (ofBytes (D id)))
  free : ∀ i, i < 14 → w.frozen? ⟨rb, i, none⟩ = false
theorem RwAt.lt {rb : Nat} {K : Nat → Nat} {D : Nat → List Int} {w : World} (h : RwAt rb K D w) : rb < w.heap.size := lt_of_cell (h.k 0 (by omega))
theorem RwAt.keep {rb : Nat} {K : Nat → Nat} {D : Nat → List Int} {w w' : World} {bs : List Nat} (h : RwAt rb K D w) (ha : Apart bs w w') (hn : rb ∉ bs) : RwAt rb K D w' :=
  ⟨fun id hi => (ha.cell (p := ⟨rb, id * 2, none⟩) h.lt hn).trans (h.k id hi), fun id hi => (ha.cell (p := ⟨rb, id * 2 + 1, none⟩) h.lt hn).trans (h.t id hi), fun i hi => (ha.frozen (p := ⟨rb, i, none⟩) h.lt hn).trans (h.free i hi)⟩
theorem RwAt.setT {rb : Nat} {K : Nat → Nat} {D : Nat → List Int} {w : World} (h : RwAt rb K D w) {id : Nat} (hi : id ≤ 6) (d : List Int) : RwAt rb K (upd D id d) (w.setCell ⟨rb, id * 2 + 1, none⟩ (.string (ofBytes d))) := by
  refine ⟨fun j hj => ?_, fun j hj => ?_, fun i hi => by simp [h.free i hi]⟩
  · rw [World.cell?_setCell_other _ _ _ _ (by intro e; have := congrArg Addr.off e; simp at this; omega)]; exact h.k j hj
  · by_cases e : j = id
    · subst e; rw [upd_same]; exact World.cell?_setCell_same' _ _ _ (by rw [h.t j hj]; rfl)
    · rw [upd_other _ _ e, World.cell?_setCell_other _ _ _ _ (by intro x; have := congrArg Addr.off x; simp at this; omega)]; exact h.t j hj
theorem RwAt.setK {rb : Nat} {K : Nat → Nat} {D : Nat → List Int} {w : World} (h : RwAt rb K D w) {id : Nat} (hi : id ≤ 6) (n : Nat) : RwAt rb (upd K id n) D (w.setCell ⟨rb, id * 2, none⟩ (.int .i64 (n : Nat))) := by
  refine ⟨fun j hj => ?_, fun j hj => ?_, fun i hi => by simp [h.free i hi]⟩
  · by_cases e : j = id
    · subst e; rw [upd_same]; exact World.cell?_setCell_same' _ _ _ (by rw [h.k j hj]; rfl)
    · rw [upd_other _ _ e, World.cell?_setCell_other _ _ _ _ (by intro x; have := congrArg Addr.off x; simp at this; omega)]; exact h.k j hj
  · rw [World.cell?_setCell_other _ _ _ _ (by intro e; have := congrArg Addr.off e; simp at this; omega)]; exact h.t j hj
/-- What holds in a round. -/
structure R8 (E : TE) (rb : Nat) (K : Nat → Nat) (D : Nat → List Int) (lim : Nat) (w : World) : Prop where
  p : P8 E K D lim w
  r : RwAt rb K D w
  z : ∀ id, 1 ≤ id → id ≤ 6 → K id = 0 → D id = []
  a : E.Ahead rb
theorem R8.more {E : TE} {rb : Nat} {K : Nat → Nat} {D : Nat → List Int} {lim : Nat} {w w' : World} (h : R8 E rb K D lim w) (hb : Below w.heap.size w w') : R8 E rb K D lim w' := ⟨h.p.more hb, h.r.keep (Apart.of_below (bs := []) hb) (by simp), h.z, h.a⟩
theorem R8.ne {E : TE} {rb : Nat} {K : Nat → Nat} {D : Nat → List Int} {lim : Nat} {w : World} (h : R8 E rb K D lim w) : rb ∉ [E.mb] := by
  have := h.a
  unfold TE.Ahead at this
  simp
  omega
structure Q8 (E : TE) (rb : Nat) (lim : Nat) (w : World) : Prop where
  ex : ∃ K D, R8 E rb K D lim w
/-- The call of a round, as it lies in memory. -/
structure O5 (ob : Nat) (kind id at_ long n : Int) (w : World) : Prop where
  o0 : w.cell? ⟨ob, 0, none⟩ = some (.int .i64 kind)
  o1 : w.cell? ⟨ob, 1, none⟩ = some (.int .i64 id)
  o2 : w.cell? ⟨ob, 2, none⟩ = some (.int .i64 at_)
  o3 : w.cell? ⟨ob, 3, none⟩ = some (.int .i64 long)
  o4 : w.cell? ⟨ob, 4, none⟩ = some (.int .i64 n)
theorem O5.keep {ob : Nat} {kind id at_ long n : Int} {w w' : World} {bs : List Nat} (h : O5 ob kind id at_ long n w) (ha : Apart bs w w') (hn : ob ∉ bs) : O5 ob kind id at_ long n w' :=
  ⟨(ha.cell (p := ⟨ob, 0, none⟩) (lt_of_cell h.o0) hn).trans h.o0, (ha.cell (p := ⟨ob, 1, none⟩) (lt_of_cell h.o1) hn).trans h.o1, (ha.cell (p := ⟨ob, 2, none⟩) (lt_of_cell h.o2) hn).trans h.o2, (ha.cell (p := ⟨ob, 3, none⟩) (lt_of_cell h.o3) hn).trans h.o3, (ha.cell (p := ⟨ob, 4, none⟩) (lt_of_cell h.o4) hn).trans h.o4⟩
/-- Behind a call that changed nothing but the cache's own. -/
theorem R8.err {E : TE} {rb : Nat} {K : Nat → Nat} {D : Nat → List Int} {lim : Nat} {w w' : World} (h : R8 E rb K D lim w) (hp : P8 E K D lim w') (ha : Apart [E.mb] w w') : R8 E rb K D lim w' := ⟨hp, h.r.keep ha h.ne, h.z, h.a⟩
theorem first_row (K : Nat → Nat) : ∃ f, 1 ≤ f ∧ f ≤ 7 ∧ (∀ j, 1 ≤ j → j < f → K j ≠ 0) ∧ (f ≤ 6 → K f = 0) := by
  have key : ∀ n, (∀ j, 1 ≤ j → j < n + 1 → K j ≠ 0) ∨ ∃ f, 1 ≤ f ∧ f ≤ n ∧ (∀ j, 1 ≤ j → j < f → K j ≠ 0) ∧ K f = 0 := by
    intro n
    induction n with
    | zero => exact Or.inl (fun j h1 h2 => by omega)
    | succ n ih =>
      rcases ih with ih | ⟨f, h1, h2, h3, h4⟩
      · by_cases hz : K (n + 1) = 0
        · exact Or.inr ⟨n + 1, by omega, Nat.le_refl _, fun j h1 h2 => ih j h1 h2, hz⟩
        · refine Or.inl (fun j h1 h2 => ?_)
          by_cases e : j = n + 1
          · rw [e]; exact hz
          · exact ih j h1 (by omega)
      · exact Or.inr ⟨f, h1, by omega, h3, h4⟩
  rcases key 6 with h | ⟨f, h1, h2, h3, h4⟩
  · exact ⟨7, by omega, Nat.le_refl _, fun j h1 h2 => h j h1 h2, fun h => by omega⟩
  · exact ⟨f, h1, by omega, h3, fun _ => h4⟩
theorem upd_self {α : Type} {D : Nat → α} {r : Nat} {x : α} (h : D r = x) : upd D r x = D := by
  funext j
  by_cases e : j = r
  · subst e; rw [upd_same, h]
  · rw [upd_other _ _ e]
end Go.Proofs.YtdkpffpjbpfdnaaGreatDoor
