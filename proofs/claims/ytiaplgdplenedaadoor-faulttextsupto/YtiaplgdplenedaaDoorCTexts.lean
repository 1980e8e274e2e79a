/- Proved: for every input whose arguments count together at most 1048576 values and letters FaultTexts (wrapping an error puts its Op and Name ahead of its text, and changes nothing behind it) returns true and leaves its arguments as they were; the listed library variables hold what the program's text lays (the card ties them to it). -/
import Derived.Test.YtiaplgdplenedaaDoorUpt
namespace Go.Proofs.YtiaplgdplenedaaDoor
open Go.ChangeShapes Go.WideShapes Go.ChangeAt Go.RowKit
open Go.ChangeMaps (open_string shut_string)
set_option maxRecDepth 100000

theorem faultTextsUpto_contract (H : Type) (enc : TypeId × Value → H) (W : World) (base : Nat) (args : Array Value) (ds gs : List (DataW H)) (before : List MemPlace)
    (hval : ∀ (j : Nat) t v, Tryd.f3.params[j]? = some t → args[j]? = some v → Value.okWide Tryd.prog W .any base t v)
    (hW : DataW.Whole enc Tryd.prog Tryd.f3.params.toList Rows.faultTextsSpec.vars false W args.toList ds gs before) (hL : laidMetH Tryd.prog Rows.faultNilsRow.laid W) (hk : Rows.uptoSmall H (ds ++ gs) = true) :
    Calls Tryd.prog 3 args W fun e W' => ∃ v, e = .returned v ∧ Rows.faultTextsSpec.post enc Tryd.prog Tryd.f3 false true false false W args v W' := by
  have hW' := hW
  obtain ⟨p, q, hA0, hV, rfl, hfz, hnd⟩ := hW
  have hA : DataW.TrodAll enc Tryd.prog W 0 (fun _ => true) true Tryd.f3.params.toList args.toList ds p := hA0
  rw [Tryd.params3] at hA hval
  obtain ⟨v0, vs0, d0, ds0, p0, q0, hargs, rfl, rfl, h0, r0⟩ := trodAll_cons hA
  obtain ⟨v1, vs1, d1, ds1, p1, q1, rfl, rfl, rfl, h1, r1⟩ := trodAll_cons r0
  obtain ⟨v2, vs2, d2, ds2, p2, q2, rfl, rfl, rfl, h2, r2⟩ := trodAll_cons r1
  obtain ⟨v3, vs3, d3, ds3, p3, q3, rfl, rfl, rfl, h3, r3⟩ := trodAll_cons r2
  obtain ⟨v4, vs4, d4, ds4, p4, q4, rfl, rfl, rfl, h4, r4⟩ := trodAll_cons r3
  obtain ⟨rfl, rfl, rfl⟩ := trodAll_nil r4
  obtain rfl : args = #[v0, v1, v2, v3, v4] := Array.ext' hargs
  obtain ⟨rfl, rfl⟩ := trodVars_none hV
  obtain ⟨op, rfl, rfl, rfl, w_op⟩ := open_string Tryd.underlying9 (hval 0 9 v0 rfl rfl) h0
  obtain ⟨nm, rfl, rfl, rfl, w_nm⟩ := open_string Tryd.underlying9 (hval 1 9 v1 rfl rfl) h1
  obtain ⟨n, rfl, rfl, rfl, w_n⟩ := open_int Tryd.underlying23 (hval 4 23 v4 rfl rfl) h4
  obtain ⟨a0, c0, os, rfl, hos, bos⟩ := open_texts (hval 2 22 v2 rfl rfl) h2
  obtain ⟨a1, c1, ns, rfl, hns, bns⟩ := open_texts (hval 3 22 v3 rfl rfl) h3
  clear hA0
  simp only [List.append_nil, List.nil_append] at hW'
  obtain ⟨lo, hi⟩ := wf_bounds w_n
  have hb : Rows.uptoBulkAll ([.lit (.string op.data.toList), .lit (.string nm.data.toList), d2, d3, .lit (.int .i64 n)] ++ []) ≤ 1048576 := of_decide_eq_true hk
  have hb2 : (op.data.toList.length + 1) + ((nm.data.toList.length + 1) + (Rows.uptoBulk d2 + (Rows.uptoBulk d3 + (1 + 0)))) ≤ 1048576 := hb
  have o1 : op.data.toList.length = op.size := by simp
  have o2 : nm.data.toList.length = nm.size := by simp
  have hlen : (chainText ((op, nm) :: (os.zip ns).take (min (min os.length ns.length) 30))).length ≤ 1099511627776 := by
    have e1 : (chainText ((op, nm) :: (os.zip ns).take (min (min os.length ns.length) 30))).length = (faultText (op, nm)).length + (chainText ((os.zip ns).take (min (min os.length ns.length) 30))).length := by simp [chainText]
    have e2 := faultText_le (op, nm)
    have e3 := chainText_take_le os ns (min (min os.length ns.length) 30)
    simp only at e2
    omega
  refine (texts_calls op nm a0 a1 c0 c1 os ns n W (handle_of_laid hL) (table_of_laid hL) hos hns lo hi hlen).mono fun e W' ⟨he, hB⟩ => ?_
  subst he
  have l2 : ∀ x ∈ p2, x.block < W.heap.size := fun x hx => by simpa using hW'.lt x (by simp [hx])
  have l3 : ∀ x ∈ p3, x.block < W.heap.size := fun x hx => by simpa using hW'.lt x (by simp [hx])
  refine ⟨_, rfl, _, _, _, [], p2 ++ p3, [], hW', ?_, ?_, ?_, hB.frame _, fun h => by cases h⟩
  · exact trodAll_cons_mk (shut_bool Tryd.underlying4 _) trodAll_mk0
  · have hx := trodAll_cons_mk (shut_string Tryd.underlying9 w_op) (trodAll_cons_mk (shut_string Tryd.underlying9 w_nm) (trodAll_cons_mk (Below.trod laidOut (by kernel_rfl) (of_decide_eq_true (by kernel_rfl)) h2 hB l2) (trodAll_cons_mk (Below.trod laidOut (by kernel_rfl) (of_decide_eq_true (by kernel_rfl)) h3 hB l3) (trodAll_cons_mk (shut_int Tryd.underlying23 w_n) trodAll_mk0))))
    simp only [List.append_nil, List.nil_append] at hx
    exact hx
  · rfl

theorem faultTextsUpto_reads (os : Os) {H : Type} (enc : TypeId × Value → H) : ∃ places, DataW.whole enc Tryd.prog ((layWorld (World.holding Tryd.prog os ⟨#[], #[], []⟩)).forCall (fun _ _ => 0) ⟨#[], #[.string ⟨#[]⟩, .string ⟨#[]⟩, .slice none 0 0, .slice none 0 0, .int .i64 0], []⟩).memory Tryd.f3.params.toList Rows.faultTextsSpec.vars false (#[.string ⟨#[]⟩, .string ⟨#[]⟩, .slice none 0 0, .slice none 0 0, .int .i64 0] : Array Value).toList 8 = some ([.lit (.string []), .lit (.string []), .nil, .nil, .lit (.int .i64 0)], [], places) :=
  ⟨[], by kernel_rfl⟩
theorem faultTextsUpto_lifted (os : Os) (started : os.Started) (H : Type) (enc : TypeId × Value → H) (F : Stop.Interp) :
    ReturnsInHanded {} Tryd.checked os 3 .any ((Rows.OpenSpec.upto Rows.faultTextsSpec).preRow enc Tryd.prog Tryd.f3 Rows.faultTextsUptoRow.domain false Rows.faultTextsUptoRow.laid) (((Rows.OpenSpec.upto Rows.faultTextsSpec).at F).post enc Tryd.prog Tryd.f3 false true false false) := by
  obtain ⟨places, hx⟩ := faultTextsUpto_reads os enc
  refine returnsInHanded_of_row (C := Tryd.checked) (s := (Rows.OpenSpec.upto Rows.faultTextsSpec)) own started (by kernel_rfl) Tryd.func3
    (witness_row_at (enc := enc) (C := Tryd.checked) false (layWorld (World.holding Tryd.prog os ⟨#[], #[], []⟩)) #[.string ⟨#[]⟩, .string ⟨#[]⟩, .slice none 0 0, .slice none 0 0, .int .i64 0] rfl (by kernel_rfl) (by kernel_rfl) (by kernel_rfl)
      (OpenSpec.preRow_of_cond 8 hx (by kernel_rfl) (fun k hk => by cases hk; kernel_rfl) (by kernel_rfl) (lay_met os _))) ?_
  intro W base args ds gs before hval hW _ hcond _ hL _ _
  exact faultTextsUpto_contract H enc W base args ds gs before hval hW hL (hcond _ rfl)
theorem faultTextsUpto_said : Rows.FaultTextsUptoSaid :=
  OpenClaim.holds_of_cond 3 Tryd.f3 rfl rfl rfl rfl rfl rfl rfl ⟨rfl, rfl, rfl, rfl, rfl⟩ rfl rfl rfl rfl rfl (by kernel_rfl) Tryd.func3 (by kernel_rfl)
    (of_decide_eq_true (by kernel_rfl)) (by unfold Func.isWrapper; first | (rw [if_pos (by decide +kernel)]; kernel_rfl) | (rw [if_neg (by decide +kernel)]; exact ⟨rfl, rfl⟩))
    (fun os started H enc _ F => by rw [OpenClaim.pre_eq_preRow]; exact faultTextsUpto_lifted os started H enc F)
theorem faultTexts_plain (f : FuncId) (fn : Func) (hf : Tryd.pinned.checked.prog.funcNamed "credenza/credenzalaw1.FaultTexts" = some f) (hfn : Tryd.pinned.checked.prog.funcs[f]? = some fn) :
    true = Tryd.pinned.checked.prog.looks [] ∧ ∀ (j : Nat) t, fn.params[j]? = some t → Tryd.pinned.checked.prog.wantsStandIn t = false := by
  obtain rfl : f = 3 := Option.some.inj ((show Tryd.prog.funcNamed "credenza/credenzalaw1.FaultTexts" = some 3 by kernel_rfl).symm.trans hf) |>.symm
  obtain rfl : fn = Tryd.f3 := (Option.some.inj (Tryd.func3.symm.trans hfn)).symm
  refine ⟨by kernel_rfl, fun j t ht => ?_⟩
  rw [Tryd.params3] at ht
  have hall : (#[9, 9, 22, 22, 23] : Array TypeId).all (fun t => !(Tryd.prog.wantsStandIn t)) = true := by kernel_rfl
  have h1 := (Array.all_eq_true_iff_forall_mem.1 hall) t (Array.mem_of_getElem? ht)
  have h2 : Tryd.prog.wantsStandIn t = false := by simpa using h1
  exact h2
/-- The card. -/
theorem faultTextsUpto_card : Rows.FaultTextsUptoCardSaid :=
  Claim7.holds_tied_plain_at .later [] _ _ _ _ faultTextsUpto_said (fun _ h => by cases h) (by kernel_rfl) (fun _ h => by cases h) faultTextsUpto_row_tie rfl ⟨rfl, rfl⟩ (by kernel_rfl) rfl faultTexts_plain (by kernel_rfl)
end Go.Proofs.YtiaplgdplenedaaDoor
