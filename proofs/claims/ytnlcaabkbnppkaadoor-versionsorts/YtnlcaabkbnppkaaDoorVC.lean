/- The document's own Compare. -/
import Derived.Test.YtnlcaabkbnppkaaDoorVB
import Derived.Test.YtnlcaabkbnppkaaDoorV6
import Derived.Laws.Cover1
namespace Go.Proofs.YtnlcaabkbnppkaaDoor
open Go Go.RowKit
set_option maxRecDepth 100000

theorem order_calls (a b : Int) (w : World) : Calls Tryd.prog 20 #[.int .i64 a, .int .i64 b] w fun e w' => e = .returned (.int .i64 (Lib.compareInt a b)) ∧ w' = w := by
  unfold Lib.compareInt
  by_cases h1 : a < b
  · rw [if_pos h1]
    go_enter Tryd.func20, Tryd.ntmps20
    go_wp2
    go_ret
    exact ⟨rfl, rfl⟩
  · rw [if_neg h1]
    by_cases h2 : b < a
    · rw [if_pos h2]
      go_enter Tryd.func20, Tryd.ntmps20
      go_wp2
      go_ret
      exact ⟨rfl, rfl⟩
    · rw [if_neg h2]
      go_enter Tryd.func20, Tryd.ntmps20
      go_wp2
      go_ret
      exact ⟨rfl, rfl⟩
theorem less_cb : ∀ a b : List UInt8, Op.bytesLess a b = decide (Lib.compareBytes a b = -1)
  | [], [] => rfl
  | _ :: _, [] => rfl
  | [], _ :: _ => rfl
  | a :: r, b :: s => by
    have ih := less_cb r s
    rw [Op.bytesLess, ih, Lib.compareBytes]
    by_cases h1 : a < b
    · simp [h1]
    · by_cases h2 : b < a
      · have hne : ¬ a = b := fun e => by subst e; exact h1 h2
        simp [h1, h2, hne]
      · have he : a = b := by rw [u8_lt] at h1 h2; exact UInt8.toNat_inj.1 (by omega)
        subst he
        simp [h1]
theorem texts_calls (x y : List UInt8) (w : World) : Calls Tryd.prog 21 #[.string (mkB x), .string (mkB y)] w fun e w' => e = .returned (.int .i64 (Lib.compareBytes x y)) ∧ w' = w := by
  have h1 := less_cb x y
  have h2 := less_cb y x
  rw [cb_anti x y] at h2
  have hr := cb_rng x y
  have hx := mk_toList x
  have hy := mk_toList y
  have he : (x == y) = decide (Lib.compareBytes x y = 0) := by
    by_cases h : Lib.compareBytes x y = 0
    · rw [cb_eq x y h, cb_self]; simp
    · have hn : ¬ x = y := fun e => h (by rw [e, cb_self])
      simp [h, hn]
  generalize Lib.compareBytes x y = z at *
  rcases hr with rfl | rfl | rfl
  · replace h1 : Op.bytesLess x y = true := h1
    clear h2 he
    go_enter Tryd.func21, Tryd.ntmps21
    go_wp2
    go_ret
    exact ⟨rfl, rfl⟩
  · replace h1 : Op.bytesLess x y = false := h1
    replace h2 : Op.bytesLess y x = false := h2
    replace he : (x == y) = true := he
    go_enter Tryd.func21, Tryd.ntmps21
    go_wp2
    go_ret
    exact ⟨rfl, rfl⟩
  · replace h1 : Op.bytesLess x y = false := h1
    replace h2 : Op.bytesLess y x = true := h2
    replace he : (x == y) = false := he
    go_enter Tryd.func21, Tryd.ntmps21
    go_wp2
    go_ret
    exact ⟨rfl, rfl⟩
def endT : Tok := (1, [])
theorem results_cell1 {fn : Func} {p : Tmp} {ty : TypeId} (h : fn.results = #[.cell p ty]) (tmps : Array Value) (P : Program) (w : World) :
    (results fn tmps).run P w = ((asAddr (tmps.getD p undef)).run P w).andThen fun a w1 => (loadVar ty a).run P w1 := by
  simp only [results, h]
  simp [Sem.run_bind, Result.andThen]
theorem ret_tk1 {fn : Func} {p : Tmp} (h : fn.results = #[.cell p 32]) {tmps : Array Value} {w : World} {b : Nat} {t : Tok} (hp : tmps.getD p undef = .pointer (some ⟨b, 0, none⟩)) (hn : TkAt w b t) :
    (results fn tmps).run Tryd.prog w = .ok (tokV t) w := by
  rw [results_cell1 h, hp]
  simp [asAddr, Result.andThen, load_tk hn]
set_option maxHeartbeats 4000000 in
theorem at_calls (v : Value) (L : List Tok) (i : Nat) (w : World) (hv : TksAt w v L) : Calls Tryd.prog 19 #[v, .int .i64 (i : Int)] w fun e w' => e = .returned (tokV (L.getD i endT)) ∧ Below w.heap.size w w' := by
  have hB := hidden (fun (o : Obj) => (Below.refl w.heap.size w).alloc (Nat.le_refl _) o)
  obtain ⟨a, cap, rfl, hcap, hc⟩ := hv
  by_cases hi : i < L.length
  · have hne : L ≠ [] := by rintro rfl; simp at hi
    obtain ⟨b, off, rfl, hb, hx⟩ := hc hne
    obtain ⟨t, ht⟩ : ∃ t, L[i]? = some t := ⟨_, List.getElem?_eq_getElem hi⟩
    obtain ⟨c0, c1⟩ := hx i t ht
    have hval : L.getD i endT = t := by rw [List.getD_eq_getElem?_getD, ht]; rfl
    rw [hval]
    obtain ⟨k, s⟩ := t
    dsimp only at c0 c1
    have hi' : (i : Int) < (L.length : Int) := by omega
    have hal := (Below.refl w.heap.size w).alloc (Nat.le_refl _) (Obj.cells #[Value.int .i64 0, Value.string ⟨#[]⟩] 32)
    have d0 := (hal.cell (p := ⟨b, off + i * 2, none⟩) hb).trans c0
    have d1 := (hal.cell (p := ⟨b, off + i * 2 + 1, none⟩) hb).trans c1
    clear hal hx hc ht hval c0 c1 hne
    go_enter Tryd.func19, Tryd.ntmps19
    go_wp2
    refine bodyPost_ret (ret_tk1 (b := w.heap.size) (t := (k, s)) rfl rfl ⟨by simp, by simp⟩) rfl ?_
    exact ⟨rfl, hB.out _⟩
  · have hi' : ¬ (i : Int) < (L.length : Int) := by omega
    have hval : L.getD i endT = endT := by rw [List.getD_eq_getElem?_getD, List.getElem?_eq_none (by omega)]; rfl
    rw [hval]
    clear hc hval
    go_enter Tryd.func19, Tryd.ntmps19
    go_wp2
    refine bodyPost_ret (ret_tk1 (b := w.heap.size) (t := endT) rfl rfl ⟨by simp; rfl, by simp; rfl⟩) rfl ?_
    exact ⟨rfl, hB.out _⟩
theorem at_none {x : List Tok} {i : Nat} (h : ¬ i < x.length) : x.getD i endT = endT ∧ x.drop i = [] := by
  refine ⟨?_, List.drop_eq_nil_of_le (by omega)⟩
  rw [List.getD_eq_getElem?_getD, List.getElem?_eq_none (by omega)]; rfl
theorem at_some {x : List Tok} {i : Nat} (h : i < x.length) : x.drop i = x.getD i endT :: x.drop (i + 1) ∧ x.getD i endT ∈ x := by
  have e : x.getD i endT = x[i] := by rw [List.getD_eq_getElem?_getD, List.getElem?_eq_getElem h]; rfl
  rw [e]
  exact ⟨List.drop_eq_getElem_cons h, List.getElem_mem h⟩
theorem at_step (x y : List Tok) (hx : ∀ t ∈ x, t.1 ≠ 1) (hy : ∀ t ∈ y, t.1 ≠ 1) (i : Nat) (h : i < x.length ∨ i < y.length) :
    cmpL (x.drop i) (y.drop i) = if holdB (x.getD i endT) (y.getD i endT) = 0 then cmpL (x.drop (i + 1)) (y.drop (i + 1)) else holdB (x.getD i endT) (y.getD i endT) := by
  by_cases h1 : i < x.length
  · obtain ⟨e1, m1⟩ := at_some h1
    have k1 := hx _ m1
    generalize x.getD i endT = p at *
    by_cases h2 : i < y.length
    · obtain ⟨e2, -⟩ := at_some h2
      generalize y.getD i endT = q at *
      rw [e1, e2, cmpL]
    · obtain ⟨e2, e3⟩ := at_none h2
      have hh : holdB p endT = Lib.compareInt (p.1 : Int) 1 := by rw [holdB, if_pos (by show _ ≠ 1; exact k1)]; rfl
      have hn : ¬ Lib.compareInt (p.1 : Int) 1 = 0 := fun e => by have := cI_eq.1 e; omega
      rw [e1, e2, e3, hh, if_neg hn, cmpL]
  · have h2 : i < y.length := by omega
    obtain ⟨e2, m2⟩ := at_some h2
    have k2 := hy _ m2
    generalize y.getD i endT = q at *
    obtain ⟨e1, e3⟩ := at_none h1
    have hh : holdB endT q = Lib.compareInt 1 (q.1 : Int) := by rw [holdB, if_pos (by show 1 ≠ _; omega)]; rfl
    have hn : ¬ Lib.compareInt 1 (q.1 : Int) = 0 := fun e => by have := cI_eq.1 e; omega
    rw [e1, e2, e3, hh, if_neg hn, cmpL]
end Go.Proofs.YtnlcaabkbnppkaaDoor
