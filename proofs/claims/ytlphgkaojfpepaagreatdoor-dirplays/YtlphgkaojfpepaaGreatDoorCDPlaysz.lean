/- Proved: for every input DirPlays (names are put, found, turned, dropped and listed, as the document says; their records lie byte by byte as it says) returns true and leaves its arguments as they were; the listed library variables hold what the program's text lays (the card ties them to it). -/
import Derived.Test.YtlphgkaojfpepaaGreatDoorDyEz
import Derived.Test.YtlphgkaojfpepaaGreatDoorRow4z
import Derived.Deep.Slices
import Derived.Carry
import Derived.ChangeOld
import Derived.Deep.Grids
namespace Go.Proofs.YtlphgkaojfpepaaGreatDoor
open Go.ChangeShapes Go.WideShapes Go.ChangeAt Go.RowKit Go.Deep
set_option maxRecDepth 100000

theorem opCells : Tryz.prog.cellsOf 30 = 4 := by kernel_rfl
theorem intCells : Tryz.prog.cellsOf 3 = 1 := by kernel_rfl
theorem txtCells : Tryz.prog.cellsOf 9 = 1 := by kernel_rfl
/-- One call, read as it lies. -/
theorem open_opd {H : Type} {enc : TypeId × Value → H} {W : World} {base : Nat} {spare : Nat → Bool} {held : Bool} {fuel : Nat} {cs : List Value} {x : DataW H × List MemPlace}
    (h : DataW.trod enc Tryz.prog W base spare held fuel 30 cs = some x) :
    ∃ o : OpD, i64 o.id ∧ cs = [.int .i64 o.kind, .int .i64 o.id, .string (mkB o.a), .string (mkB o.b)] := by
  obtain ⟨xs, n, _, _, hl, hlen, hf⟩ := DataW.trod_struct Tryz.underlying30 h
  rw [opCells] at hl
  match cs, hl with
  | [c0, c1, c2, c3], _ =>
    match xs, hlen with
    | [y0, y1, y2, y3], _ =>
      have h0 := hf 0 _ rfl
      have h1 := hf 1 _ rfl
      have h2 := hf 2 _ rfl
      have h3 := hf 3 _ rfl
      simp [intCells, txtCells] at h0 h1 h2 h3
      obtain ⟨n0, e0, _, _⟩ := DataW.trod_int Tryz.underlying3 h0
      obtain ⟨n1, e1, _, w1⟩ := DataW.trod_int Tryz.underlying3 h1
      obtain ⟨n2, e2, _, _⟩ := DataW.trod_string Tryz.underlying9 h2
      obtain ⟨n3, e3, _, _⟩ := DataW.trod_string Tryz.underlying9 h3
      simp at e0 e1 e2 e3
      subst e0 e1 e2 e3
      exact ⟨⟨n0, n1, n2.data.toList, n3.data.toList⟩, wf_bounds w1, by rw [mk_back, mk_back]⟩
theorem open_opsD {H : Type} {enc : TypeId × Value → H} {W : World} {base : Nat} {v : Value} {d : DataW H} {p : List MemPlace} (hval : Value.okWide Tryz.prog W .any base 22 v)
    (h : DataW.Trod enc Tryz.prog W 0 (fun _ => true) true 22 v d p) : ∃ ops, OpsD W v ops := by
  obtain ⟨a0, len, cap, rfl⟩ := okWide_slice Tryz.underlying22 hval
  obtain ⟨fuel, hf⟩ := h
  rcases open_slice Tryz.underlying22 hf with ⟨hcs, hx⟩ | ⟨a, len', cap', m, n, D, Pl, hcs, _, hl, hm, hmm, hx, hcell⟩
  · simp [Value.cells] at hcs
    obtain ⟨rfl, rfl, rfl⟩ := hcs
    exact ⟨[], none, 0, rfl, by simp, fun o h => by simp at h, fun h => (h rfl).elim⟩
  · simp [Value.cells] at hcs
    obtain ⟨rfl, rfl, rfl⟩ := hcs
    simp only [if_true] at hmm
    subst hmm
    rw [opCells] at hcell
    have hone : ∀ i, i < len → ∃ o : OpD, i64 o.id ∧ W.cells? 0 (a.add (i * 4)) 4 = some [.int .i64 o.kind, .int .i64 o.id, .string (mkB o.a), .string (mkB o.b)] := fun i hi => by
      obtain ⟨cs', h1, h2⟩ := hcell i (by omega)
      obtain ⟨o, ho, rfl⟩ := open_opd h2
      exact ⟨o, ho, h1⟩
    have hin : Inhabited OpD := ⟨⟨0, 0, [], []⟩⟩
    obtain ⟨f, hf⟩ := choose_lt (α := OpD) hone
    have hlen : ((List.range len).map f).length = len := by simp
    refine ⟨(List.range len).map f, some a, m, by rw [hlen], by rw [hlen]; omega, fun o ho => ?_, fun hne => ?_⟩
    · obtain ⟨i, hi, rfl⟩ := List.mem_map.1 ho
      exact (hf i (by simpa using hi)).1
    · have h0 : 0 < len := by
        rcases Nat.eq_zero_or_pos len with h | h
        · rw [h] at hne; simp at hne
        · exact h
      have hat : ∀ i, i < len → ∀ j, j < 4 → W.cell? ((a.add (i * 4)).add j) = [Value.int .i64 (f i).kind, .int .i64 (f i).id, .string (mkB (f i).a), .string (mkB (f i).b)][j]? := fun i hi j hj => (World.cells?_some (hf i hi).2).2.2 j hj
      obtain ⟨b, off, spot⟩ := a
      have hz := hat 0 h0 0 (by decide)
      have hspot : spot = none := by simpa [Addr.add] using World.cell?_spot hz
      subst hspot
      refine ⟨b, off, rfl, by simpa [Addr.add] using World.block_lt_of_cell? W _ hz, fun k o hk => ?_⟩
      have hk' : k < len := by
        rcases Nat.lt_or_ge k len with h | h
        · exact h
        · rw [List.getElem?_eq_none (by rw [hlen]; exact h)] at hk; cases hk
      have ho : o = f k := by simpa [hk'] using hk.symm
      subst ho
      have g0 := hat k hk' 0 (by decide)
      have g1 := hat k hk' 1 (by decide)
      have g2 := hat k hk' 2 (by decide)
      have g3 := hat k hk' 3 (by decide)
      rw [add_plain, add_plain] at g0 g1 g2 g3
      exact ⟨g0, g1, g2, g3⟩
theorem dirPlays_contract (H : Type) (enc : TypeId × Value → H) (W : World) (base : Nat) (args : Array Value) (ds gs : List (DataW H)) (before : List MemPlace)
    (hval : ∀ (j : Nat) t v, Tryz.f3.params[j]? = some t → args[j]? = some v → Value.okWide Tryz.prog W .any base t v)
    (hW : DataW.Whole enc Tryz.prog Tryz.f3.params.toList Rows.dirPlaysSpec.vars false W args.toList ds gs before) (hL : laidMetH Tryz.prog Rows.dirPlaysRow.laid W) :
    Calls Tryz.prog 3 args W fun e W' => ∃ v, e = .returned v ∧ Rows.dirPlaysSpec.post enc Tryz.prog Tryz.f3 false true false false W args v W' := by
  have hW' := hW
  obtain ⟨p, q, hA0, hV, rfl, hfz, hnd⟩ := hW
  have hA : DataW.TrodAll enc Tryz.prog W 0 (fun _ => true) true Tryz.f3.params.toList args.toList ds p := hA0
  rw [Tryz.params3] at hA hval
  obtain ⟨v0, vs0, d0, ds0, p0, q0, hargs, rfl, rfl, h0, r0⟩ := trodAll_cons hA
  obtain ⟨rfl, rfl, rfl⟩ := trodAll_nil r0
  obtain rfl : args = #[v0] := Array.ext' hargs
  obtain ⟨rfl, rfl⟩ := trodVars_none hV
  obtain ⟨zs, hz⟩ := open_opsD (hval 0 22 v0 rfl rfl) h0
  clear hA0
  simp only [List.append_nil] at hW'
  refine (dirPlays_calls v0 zs W hz (ground_of_laid hL) (handle_of_laid hL)).mono fun e W' ⟨he, hB⟩ => ?_
  subst he
  have l0 : ∀ x ∈ p0, x.block < W.heap.size := fun x hx => by simpa using hW'.lt x (by simp [hx])
  refine ⟨_, rfl, _, _, _, [], p0, [], hW', ?_, ?_, ?_, hB.frame _, fun h => by cases h⟩
  · exact trodAll_cons_mk (shut_bool Tryz.underlying4 _) trodAll_mk0
  · have hx := trodAll_cons_mk (Below.trod laidOut (by kernel_rfl) (of_decide_eq_true (by kernel_rfl)) h0 hB l0) trodAll_mk0
    simp only [List.append_nil] at hx
    exact hx
  · rfl

theorem dirPlays_reads (os : Os) {H : Type} (enc : TypeId × Value → H) : ∃ places, DataW.whole enc Tryz.prog ((layWorld (World.holding Tryz.prog os ⟨#[], #[], []⟩)).forCall (fun _ _ => 0) ⟨#[], #[.slice none 0 0], []⟩).memory Tryz.f3.params.toList Rows.dirPlaysSpec.vars false (#[.slice none 0 0] : Array Value).toList 8 = some ([.nil], [], places) :=
  ⟨[], by kernel_rfl⟩
theorem dirPlays_lifted (os : Os) (started : os.Started) (H : Type) (enc : TypeId × Value → H) (F : Stop.Interp) :
    ReturnsInHanded {} Tryz.checked os 3 .any ((OpenSpec.ofChange Rows.dirPlaysSpec).preRow enc Tryz.prog Tryz.f3 Rows.dirPlaysRow.domain false Rows.dirPlaysRow.laid) (((OpenSpec.ofChange Rows.dirPlaysSpec).at F).post enc Tryz.prog Tryz.f3 false true false false) := by
  obtain ⟨places, hx⟩ := dirPlays_reads os enc
  refine returnsInHanded_of_row (C := Tryz.checked) (s := (OpenSpec.ofChange Rows.dirPlaysSpec)) own started (by kernel_rfl) Tryz.func3
    (witness_row_at (enc := enc) (C := Tryz.checked) false (layWorld (World.holding Tryz.prog os ⟨#[], #[], []⟩)) #[.slice none 0 0] rfl (by kernel_rfl) (by kernel_rfl) (by kernel_rfl)
      (OpenSpec.preRow_of_cond 8 hx (by kernel_rfl) (fun k hk => by cases hk) (by kernel_rfl) (lay_met os _))) ?_
  intro W base args ds gs before hval hW _ hcond _ hL _ _
  exact dirPlays_contract H enc W base args ds gs before hval hW hL
theorem dirPlays_closed : joinedFacts Tryz.pinned.checked.prog 3 Tryz.f3 (OpenSpec.ofChange Rows.dirPlaysSpec).bare Rows.dirPlaysRow = true := by kernel_rfl
theorem dirPlays_named : Tryz.pinned.checked.prog.funcNamed Rows.dirPlaysRow.func = some 3 := by kernel_rfl
theorem dirPlays_said : Rows.DirPlaysSaid :=
  OpenClaim.holds_of_cond 3 Tryz.f3 rfl rfl rfl rfl rfl rfl rfl ⟨rfl, rfl, rfl, rfl, rfl⟩ rfl rfl rfl rfl rfl dirPlays_named Tryz.func3 dirPlays_closed
    (of_decide_eq_true (by kernel_rfl)) (by unfold Func.isWrapper; first | (rw [if_pos (by decide +kernel)]; kernel_rfl) | (rw [if_neg (by decide +kernel)]; exact ⟨rfl, rfl⟩))
    (fun os started H enc _ F => by rw [OpenClaim.pre_eq_preRow]; exact dirPlays_lifted os started H enc F)
theorem dirPlays_plain (f : FuncId) (fn : Func) (hf : Tryz.pinned.checked.prog.funcNamed "credenza/credenzalaw10.DirPlays" = some f) (hfn : Tryz.pinned.checked.prog.funcs[f]? = some fn) :
    true = Tryz.pinned.checked.prog.looks [] ∧ ∀ (j : Nat) t, fn.params[j]? = some t → Tryz.pinned.checked.prog.wantsStandIn t = false := by
  obtain rfl : f = 3 := Option.some.inj ((show Tryz.prog.funcNamed "credenza/credenzalaw10.DirPlays" = some 3 by kernel_rfl).symm.trans hf) |>.symm
  obtain rfl : fn = Tryz.f3 := (Option.some.inj (Tryz.func3.symm.trans hfn)).symm
  refine ⟨by kernel_rfl, fun j t ht => ?_⟩
  rw [Tryz.params3] at ht
  have hall : (#[22] : Array TypeId).all (fun t => !(Tryz.prog.wantsStandIn t)) = true := by kernel_rfl
  have h1 := (Array.all_eq_true_iff_forall_mem.1 hall) t (Array.mem_of_getElem? ht)
  have h2 : Tryz.prog.wantsStandIn t = false := by simpa using h1
  exact h2
/-- The card. -/
theorem dirPlays_card : Rows.DirPlaysCardSaid :=
  Claim7.holds_tied_plain_at .later [] _ _ _ _ dirPlays_said (fun _ h => by cases h) (by kernel_rfl) (fun _ h => by cases h) dirPlays_row_tie rfl ⟨rfl, rfl⟩ (by kernel_rfl) rfl dirPlays_plain (by kernel_rfl)
