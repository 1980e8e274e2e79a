/- Proved: for every input whose arguments count together at most 1048576 values and letters FaultChains (however often an error is wrapped, its Ops and Names are told from the outmost on, and its number is at the bottom) returns true and leaves its arguments as they were; the listed library variables hold what the program's text lays (the card ties them to it). -/
import Derived.Test.YtiaplgdplenedaaDoorUpt
import Derived.Test.YtiaplgdplenedaaDoorChn
namespace Go.Proofs.YtiaplgdplenedaaDoor
open Go.ChangeShapes Go.WideShapes Go.ChangeAt Go.RowKit
set_option maxRecDepth 100000

theorem faultChainsUpto_contract (H : Type) (enc : TypeId × Value → H) (W : World) (base : Nat) (args : Array Value) (ds gs : List (DataW H)) (before : List MemPlace)
    (hval : ∀ (j : Nat) t v, Tryd.f6.params[j]? = some t → args[j]? = some v → Value.okWide Tryd.prog W .any base t v)
    (hW : DataW.Whole enc Tryd.prog Tryd.f6.params.toList Rows.faultChainsSpec.vars false W args.toList ds gs before) (hL : laidMetH Tryd.prog Rows.faultNilsRow.laid W) (hk : Rows.uptoSmall H (ds ++ gs) = true) :
    Calls Tryd.prog 6 args W fun e W' => ∃ v, e = .returned v ∧ Rows.faultChainsSpec.post enc Tryd.prog Tryd.f6 false true false false W args v W' := by
  have hW' := hW
  obtain ⟨p, q, hA0, hV, rfl, hfz, hnd⟩ := hW
  have hA : DataW.TrodAll enc Tryd.prog W 0 (fun _ => true) true Tryd.f6.params.toList args.toList ds p := hA0
  rw [Tryd.params6] at hA hval
  obtain ⟨v2, vs2, d2, ds2, p2, q2, hargs, rfl, rfl, h2, r2⟩ := trodAll_cons hA
  obtain ⟨v3, vs3, d3, ds3, p3, q3, rfl, rfl, rfl, h3, r3⟩ := trodAll_cons r2
  obtain ⟨v4, vs4, d4, ds4, p4, q4, rfl, rfl, rfl, h4, r4⟩ := trodAll_cons r3
  obtain ⟨rfl, rfl, rfl⟩ := trodAll_nil r4
  obtain rfl : args = #[v2, v3, v4] := Array.ext' hargs
  obtain ⟨rfl, rfl⟩ := trodVars_none hV
  obtain ⟨n, rfl, rfl, rfl, w_n⟩ := open_int Tryd.underlying23 (hval 2 23 v4 rfl rfl) h4
  obtain ⟨a0, c0, os, rfl, hos, bos⟩ := open_texts (hval 0 22 v2 rfl rfl) h2
  obtain ⟨a1, c1, ns, rfl, hns, bns⟩ := open_texts (hval 1 22 v3 rfl rfl) h3
  clear hA0
  simp only [List.append_nil] at hW'
  obtain ⟨lo, hi⟩ := wf_bounds w_n
  have hb : Rows.uptoBulkAll ([d2, d3, .lit (.int .i64 n)] ++ []) ≤ 1048576 := of_decide_eq_true hk
  have hb2 : Rows.uptoBulk d2 + (Rows.uptoBulk d3 + (1 + 0)) ≤ 1048576 := hb
  have hlen : (chainText ((os.zip ns).take (min (min os.length ns.length) 30))).length ≤ 1099511627776 := by
    have e3 := chainText_take_le os ns (min (min os.length ns.length) 30)
    omega
  refine (chains_calls a0 a1 c0 c1 os ns n W (handle_of_laid hL) (table_of_laid hL) hos hns lo hi hlen).mono fun e W' ⟨he, hB⟩ => ?_
  subst he
  have l2 : ∀ x ∈ p2, x.block < W.heap.size := fun x hx => by simpa using hW'.lt x (by simp [hx])
  have l3 : ∀ x ∈ p3, x.block < W.heap.size := fun x hx => by simpa using hW'.lt x (by simp [hx])
  refine ⟨_, rfl, _, _, _, [], p2 ++ p3, [], hW', ?_, ?_, ?_, hB.frame _, fun h => by cases h⟩
  · exact trodAll_cons_mk (shut_bool Tryd.underlying4 _) trodAll_mk0
  · have hx := trodAll_cons_mk (Below.trod laidOut (by kernel_rfl) (of_decide_eq_true (by kernel_rfl)) h2 hB l2) (trodAll_cons_mk (Below.trod laidOut (by kernel_rfl) (of_decide_eq_true (by kernel_rfl)) h3 hB l3) (trodAll_cons_mk (shut_int Tryd.underlying23 w_n) trodAll_mk0))
    simp only [List.append_nil] at hx
    exact hx
  · rfl

theorem faultChainsUpto_reads (os : Os) {H : Type} (enc : TypeId × Value → H) : ∃ places, DataW.whole enc Tryd.prog ((layWorld (World.holding Tryd.prog os ⟨#[], #[], []⟩)).forCall (fun _ _ => 0) ⟨#[], #[.slice none 0 0, .slice none 0 0, .int .i64 0], []⟩).memory Tryd.f6.params.toList Rows.faultChainsSpec.vars false (#[.slice none 0 0, .slice none 0 0, .int .i64 0] : Array Value).toList 8 = some ([.nil, .nil, .lit (.int .i64 0)], [], places) :=
  ⟨[], by kernel_rfl⟩
theorem faultChainsUpto_lifted (os : Os) (started : os.Started) (H : Type) (enc : TypeId × Value → H) (F : Stop.Interp) :
    ReturnsInHanded {} Tryd.checked os 6 .any ((Rows.OpenSpec.upto Rows.faultChainsSpec).preRow enc Tryd.prog Tryd.f6 Rows.faultChainsUptoRow.domain false Rows.faultChainsUptoRow.laid) (((Rows.OpenSpec.upto Rows.faultChainsSpec).at F).post enc Tryd.prog Tryd.f6 false true false false) := by
  obtain ⟨places, hx⟩ := faultChainsUpto_reads os enc
  refine returnsInHanded_of_row (C := Tryd.checked) (s := (Rows.OpenSpec.upto Rows.faultChainsSpec)) own started (by kernel_rfl) Tryd.func6
    (witness_row_at (enc := enc) (C := Tryd.checked) false (layWorld (World.holding Tryd.prog os ⟨#[], #[], []⟩)) #[.slice none 0 0, .slice none 0 0, .int .i64 0] rfl (by kernel_rfl) (by kernel_rfl) (by kernel_rfl)
      (OpenSpec.preRow_of_cond 8 hx (by kernel_rfl) (fun k hk => by cases hk; kernel_rfl) (by kernel_rfl) (lay_met os _))) ?_
  intro W base args ds gs before hval hW _ hcond _ hL _ _
  exact faultChainsUpto_contract H enc W base args ds gs before hval hW hL (hcond _ rfl)
theorem faultChainsUpto_said : Rows.FaultChainsUptoSaid :=
  OpenClaim.holds_of_cond 6 Tryd.f6 rfl rfl rfl rfl rfl rfl rfl ⟨rfl, rfl, rfl, rfl, rfl⟩ rfl rfl rfl rfl rfl (by kernel_rfl) Tryd.func6 (by kernel_rfl)
    (of_decide_eq_true (by kernel_rfl)) (by unfold Func.isWrapper; first | (rw [if_pos (by decide +kernel)]; kernel_rfl) | (rw [if_neg (by decide +kernel)]; exact ⟨rfl, rfl⟩))
    (fun os started H enc _ F => by rw [OpenClaim.pre_eq_preRow]; exact faultChainsUpto_lifted os started H enc F)
theorem faultChains_plain (f : FuncId) (fn : Func) (hf : Tryd.pinned.checked.prog.funcNamed "credenza/credenzalaw1.FaultChains" = some f) (hfn : Tryd.pinned.checked.prog.funcs[f]? = some fn) :
    true = Tryd.pinned.checked.prog.looks [] ∧ ∀ (j : Nat) t, fn.params[j]? = some t → Tryd.pinned.checked.prog.wantsStandIn t = false := by
  obtain rfl : f = 6 := Option.some.inj ((show Tryd.prog.funcNamed "credenza/credenzalaw1.FaultChains" = some 6 by kernel_rfl).symm.trans hf) |>.symm
  obtain rfl : fn = Tryd.f6 := (Option.some.inj (Tryd.func6.symm.trans hfn)).symm
  refine ⟨by kernel_rfl, fun j t ht => ?_⟩
  rw [Tryd.params6] at ht
  have hall : (#[22, 22, 23] : Array TypeId).all (fun t => !(Tryd.prog.wantsStandIn t)) = true := by kernel_rfl
  have h1 := (Array.all_eq_true_iff_forall_mem.1 hall) t (Array.mem_of_getElem? ht)
  have h2 : Tryd.prog.wantsStandIn t = false := by simpa using h1
  exact h2
/-- The card. -/
theorem faultChainsUpto_card : Rows.FaultChainsUptoCardSaid :=
  Claim7.holds_tied_plain_at .later [] _ _ _ _ faultChainsUpto_said (fun _ h => by cases h) (by kernel_rfl) (fun _ h => by cases h) faultChainsUpto_row_tie rfl ⟨rfl, rfl⟩ (by kernel_rfl) rfl faultChains_plain (by kernel_rfl)
end Go.Proofs.YtiaplgdplenedaaDoor
