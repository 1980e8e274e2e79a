/- conf.take of any line. -/
import Derived.Test.YtfoamhkgdlebdaaGreatDoorX8
import Derived.Test.YtfoamhkgdlebdaaGreatDoorX8b
import Derived.Test.YtfoamhkgdlebdaaGreatDoorX8c
namespace Go.Proofs.YtfoamhkgdlebdaaGreatDoor
open Go.RowKit Go.Extern.Stop Go.Stop Go.Extern
set_option maxRecDepth 100000

theorem take_calls (B b : Nat) (x : En) (v : Value) (w : World) (h : ESt B w b x v) (line : List UInt8) (hl : line.length ≤ 100000) :
    Calls Tryz.prog 26 #[.pointer (some ⟨b, 0, none⟩), .string (mkB line)] w fun e w' => e = .returned (.bool (takeL x line).isSome) ∧ TakeEnd B b w w' (takeL x line) := by
  cases line with
  | nil => exact (take_empty b w).mono fun e w' ⟨he, hb⟩ => ⟨he, TakeEnd.same h hb (fun y hy => by simp [takeL] at hy; exact hy.symm)⟩
  | cons c l =>
    have hl' : l.length < 100000 := by simp at hl; omega
    by_cases hc : c = 35
    · subst hc
      exact (take_note b l w hl').mono fun e w' ⟨he, hb⟩ => ⟨he, TakeEnd.same h hb (fun y hy => by simp [takeL] at hy; exact hy.symm)⟩
    · have e1 : takeL x (c :: l) = takeW x (cutSp (c :: l)).1 (cutSp (c :: l)).2 := by rw [takeL, if_neg (by simpa using hc)]
      rw [e1]
      unfold takeW
      by_cases h1 : (cutSp (c :: l)).1 = kwE ∧ x.ex.length < 8
      · rw [if_pos (by simp [h1.1, h1.2])]
        refine (take_ext B b x v w h c l _ _ hc hl' rfl rfl h1.1 h1.2).mono fun e w' ⟨he, hq⟩ => ⟨by rw [he]; simp, hq⟩
      · rw [if_neg (by simpa using h1)]
        by_cases h2 : (cutSp (c :: l)).1 = kwK
        · rw [if_pos (by simp [h2])]
          refine (take_ker B b x v w h c l _ _ hc hl' rfl rfl h2).mono fun e w' ⟨he, hq⟩ => ⟨by rw [he]; simp, hq⟩
        · rw [if_neg (by simpa using h2)]
          by_cases h3 : (cutSp (c :: l)).1 = kwV
          · rw [if_pos (by simp [h3])]
            refine (take_ver B b x v w h c l _ _ hc hl' rfl rfl h3).mono fun e w' ⟨he, hq⟩ => ⟨by rw [he]; split <;> simp_all, hq⟩
          · rw [if_neg (by simpa using h3)]
            by_cases h4 : (cutSp (c :: l)).1 = kwO
            · rw [if_pos (by simp [h4])]
              refine (take_opt B b x v w h c l _ _ hc hl' rfl rfl h4).mono fun e w' ⟨he, hq⟩ => ⟨by rw [he]; split <;> simp_all, hq⟩
            · rw [if_neg (by simpa using h4)]
              exact (take_no B b x v w h c l _ _ hc hl' rfl rfl h1 h2 h3 h4).mono fun e w' ⟨he, hb⟩ => ⟨he, TakeEnd.same h hb (fun y hy => by cases hy)⟩
end Go.Proofs.YtfoamhkgdlebdaaGreatDoor
