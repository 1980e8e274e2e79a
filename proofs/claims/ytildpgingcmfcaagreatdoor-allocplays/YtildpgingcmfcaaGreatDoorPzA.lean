/- AllocPlays, cut into declarations: what they share. -/
import Derived.Test.YtildpgingcmfcaaGreatDoorPz1
import Derived.Test.YtildpgingcmfcaaGreatDoorNmW
import Derived.Deep.CutBlock
namespace Go.Proofs.YtildpgingcmfcaaGreatDoor
open Go.RowKit Go.Extern.Stop Go.Stop Go.Extern Go.Maps Go.Sort Go.Shelf
set_option maxRecDepth 100000

/-- The block of that number within a function's code. -/
def blockAt (n : Nat) : Code → Option Code
  | .block m c => if m = n then some (.block m c) else blockAt n c
  | .loop c => blockAt n c
  | .seq a b => match blockAt n a with
    | some c => some c
    | none => blockAt n b
  | .scope c => blockAt n c
  | .cond _ a b => match blockAt n a with
    | some c => some c
    | none => blockAt n b
  | _ => none
/-- The region of that number. -/
def regionAt (n : Nat) : Code → Option Code
  | .region m o d => if m = n then some (.region m o d) else none
  | .block _ c => regionAt n c
  | .loop c => regionAt n c
  | .seq a b => match regionAt n a with
    | some c => some c
    | none => regionAt n b
  | .scope c => regionAt n c
  | .cond _ a b => match regionAt n a with
    | some c => some c
    | none => regionAt n b
  | _ => none
/-- The branching on that slot. -/
def condAt (n : Nat) : Code → Option Code
  | .block _ c => condAt n c
  | .loop c => condAt n c
  | .seq a b => match condAt n a with
    | some c => some c
    | none => condAt n b
  | .scope c => condAt n c
  | .cond (.tmp m) a b => if m = n then some (.cond (.tmp m) a b) else match condAt n a with
    | some c => some c
    | none => condAt n b
  | .cond _ a b => match condAt n a with
    | some c => some c
    | none => condAt n b
  | _ => none
/-- A call of the script. -/
structure OpA where
  kind : Int
  no : Int
/-- A script of calls, as it lies in memory. -/
def OpsA (w : World) (v : Value) (ss : List OpA) : Prop :=
  ∃ a cap, v = .slice a ss.length cap ∧ ss.length ≤ maxLen ∧ (∀ s ∈ ss, i64 s.no) ∧
    (ss ≠ [] → ∃ b off, a = some ⟨b, off, none⟩ ∧ b < w.heap.size ∧ ∀ k s, ss[k]? = some s → w.cell? ⟨b, off + k * 2, none⟩ = some (.int .i64 s.kind) ∧ w.cell? ⟨b, off + k * 2 + 1, none⟩ = some (.int .i64 s.no))
/-- What a call answered, by the number at its bottom. -/
def Ans (nm : ByteArray) (want : Int) (r : Value) (w : World) : Prop := (r = .nilIface ∧ want = 0) ∨ ∃ b, r = flt b ∧ Chain w [(sAlloc, nm)] (num want) (flt b) ∧ (want == 0) = false
theorem Ans.below {nm : ByteArray} {want : Int} {r : Value} {w w' : World} (h : Ans nm want r w) (hb : Below w.heap.size w w') : Ans nm want r w' := by
  rcases h with h | ⟨b, h1, h2, h3⟩
  · exact Or.inl h
  · exact Or.inr ⟨b, h1, h2.below hb, h3⟩
theorem Ans.is {nm : ByteArray} {want : Int} {r : Value} {w : World} (h : Ans nm want r w) (hg : GT w) :
    Calls Tryz.prog 8 #[r, .string sAlloc, .string nm, .int .i64 want] w fun e w' => e = .returned (.bool true) ∧ Below w.heap.size w w' := by
  rcases h with ⟨rfl, rfl⟩ | ⟨b, rfl, h2, h3⟩
  · exact (law_is_nil sAlloc nm w).mono fun _ _ ⟨h1, h2⟩ => ⟨h1, by rw [h2]; exact Below.refl _ _⟩
  · exact law_is want h3 w sAlloc nm [] (flt b) h2 hg
/-- The call of a round, as it lies in memory. -/
structure OAt (ob : Nat) (kind no : Int) (w : World) : Prop where
  o0 : w.cell? ⟨ob, 0, none⟩ = some (.int .i64 kind)
  o1 : w.cell? ⟨ob, 1, none⟩ = some (.int .i64 no)
theorem OAt.keep {ob : Nat} {kind no : Int} {w w' : World} {bs : List Nat} (h : OAt ob kind no w) (ha : Apart bs w w') (hn : ob ∉ bs) : OAt ob kind no w' :=
  ⟨(ha.cell (p := ⟨ob, 0, none⟩) (lt_of_cell h.o0) hn).trans h.o0, (ha.cell (p := ⟨ob, 1, none⟩) (lt_of_cell h.o1) hn).trans h.o1⟩
theorem OAt.below {ob : Nat} {kind no : Int} {w w' : World} (h : OAt ob kind no w) (hb : Below w.heap.size w w') : OAt ob kind no w' := h.keep (Apart.of_below (bs := []) hb) (by simp)
/-- What holds at a round's head. -/
structure QSt (w0 : World) (d g jb cb mb ab nb lb N : Nat) (lim : Int) (w : World) : Prop where
  ex : ∃ S L, PSt w0 d g jb cb mb ab nb lb N S S L L lim w
theorem QSt.below {w0 : World} {d g jb cb mb ab nb lb N : Nat} {lim : Int} {w : World} (h : QSt w0 d g jb cb mb ab nb lb N lim w) : Below w0.heap.size w0 w := by
  obtain ⟨S, L, h1⟩ := h.ex
  exact h1.below
theorem first_free (S : Nat → Bool) : ∀ N : Nat, ∃ i, i ≤ N ∧ (∀ j, j < i → S j = true) ∧ (i < N → S i = false)
  | 0 => ⟨0, by omega, fun j hj => by omega, fun h => by omega⟩
  | N + 1 => by
    obtain ⟨i, h1, h2, h3⟩ := first_free S N
    rcases Nat.lt_or_ge i N with h | h
    · exact ⟨i, by omega, h2, fun _ => h3 h⟩
    · obtain rfl : i = N := by omega
      cases hS : S i with
      | false => exact ⟨i, by omega, h2, fun _ => hS⟩
      | true => exact ⟨i + 1, by omega, fun j hj => by rcases Nat.lt_succ_iff_lt_or_eq.1 hj with h | rfl; exact h2 j h; exact hS, fun h => by omega⟩
/-- The beginning: two new rows. -/
theorem pst_new {w0 : World} {d g jb cb mb ab N : Nat} {w w' : World} (h : CSt w0 d g 160 jb cb mb 60 80 60 (fun _ => 0) 0 (-1) [] w) (hm : MpAt ab cb 2 15 N w) (h1 : 1 ≤ N) (h2 : N ≤ 40) (hab : ab ∉ [d, g, jb, cb, mb]) (hb : Below w.heap.size w w') (nb lb : Nat)
    (hn : SeenAt nb N (fun _ => false) w') (hl : SeenAt lb N (fun _ => false) w') (hne : nb ≠ lb) (hnn : w.heap.size ≤ nb) (hll : w.heap.size ≤ lb) : PSt w0 d g jb cb mb ab nb lb N (fun _ => false) (fun _ => false) (fun _ => false) (fun _ => false) 0 w' := by
  have hlt := h.lts
  have hal := hm.lt
  simp only [List.mem_cons, List.not_mem_nil, or_false, not_or] at hab
  refine ⟨⟨fun _ => 0, 0, [], h.more hb, (fun p hp => by cases hp), idle_zero7 60, by omega, by omega, (fun i _ => bit_zero 2 i), (fun i _ => bit_zero 2 i)⟩, hm.below hb, hn, hl, h1, h2, ?_, by omega⟩
  simp only [List.mem_cons, List.not_mem_nil, or_false, not_or]
  omega
end Go.Proofs.YtildpgingcmfcaaGreatDoor
/- AllocPlays: a Take. -/
namespace Go.Proofs.YtildpgingcmfcaaGreatDoor
open Go.RowKit Go.Extern.Stop Go.Stop Go.Extern
set_option maxRecDepth 1000000

set_option maxHeartbeats 8000000 in
theorem ap_take (w0 : World) (d g jb cb mb ab nb lb N ob : Nat) (kind no : Int) (IN : Bool) (S L : Nat → Bool) (lim : Int) (w : World) (hP : Hid (PSt w0 d g jb cb mb ab nb lb N S S L L lim w)) (hO : Hid (OAt ob kind no w)) (hob : Hid (∀ k ∈ [d, g, jb, cb, mb, ab, nb, lb], k ≠ ob)) (hIN : Hid (IN = decide (15 ≤ no ∧ no < 15 + (N : Int)))) (hno : Hid (i64 no)) (hGT : Hid (∀ wx, Below w0.heap.size w0 wx → GT wx)) (hlim : lim ≤ 100000)
    (x1 x2 x3 x4 x5 x8 x11 x14 x15 x16 x17 x18 x19 x20 x21 x22 x23 x24 x25 x26 x27 x28 x29 x30 x31 x32 x33 x34 x35 x36 x37 x38 x39 x40 x41 x42 x43 x44 x45 x46 x47 x48 x49 x50 x51 x52 x53 x54 x55 x56 x57 x58 x59 x60 x61 x62 x63 x64 x65 x66 x67 x68 x69 x70 x71 x72 x73 x74 x75 x76 x77 x78 x79 x80 x81 x83 x84 x85 x86 x87 x88 x89 x90 x91 x92 x93 x94 x95 x96 x97 x98 x99 x100 x101 x102 x103 x104 x105 x106 x107 x108 x109 x110 x111 x112 x113 x114 x115 x116 x117 x118 x119 x120 x121 x122 x123 x124 x125 x126 x127 x128 x129 x130 x131 x132 x133 x134 x135 x136 x137 x138 x139 x140 x141 x142 x143 x144 x145 x146 x147 x148 x149 x150 x151 x152 x153 x154 x155 x156 x157 x158 x159 x160 x161 x162 x163 x164 x165 x166 x167 x168 x169 x170 x171 x172 x173 x174 x175 x176 x177 x178 x179 x180 x181 x182 x183 x184 x185 x186 x187 x188 x189 x190 x191 x192 x193 x194 x195 x196 x197 x198 x199 x200 x201 x202 x203 x204 x205 x206 x207 x208 x209 x210 x211 x212 x213 x214 x215 x216 x217 x218 x219 x220 x221 x222 x223 x224 x225 x226 x227 x228 x229 x230 x231 x232 x233 x234 x235 x236 x237 x238 x239 x240 x241 : Value) (KK : Act → World → Prop) (Q : Exit → Act → World → Prop)
    (hKK : Hid (∀ (v14 v15 v16 v17 v18 v19 v83 v84 v85 v86 v87 v88 v89 v90 v91 v92 v93 v94 v95 v96 v97 v98 v99 v100 v101 v102 v103 v104 v105 v106 v107 v108 v109 v110 v111 v112 v113 v114 v115 v116 v117 v118 v119 v120 v121 v122 v123 v124 v125 v126 v127 v128 v129 v130 v131 v132 v133 v134 v135 v136 v137 v138 v139 v140 v141 v142 v143 v144 v145 v146 v147 v148 v149 v150 v151 v152 v153 v154 v155 v156 v157 v158 v159 v160 v161 v162 v163 v164 v165 v166 v167 v168 v169 v170 v171 v172 v173 v174 v175 v176 v177 v178 v179 v180 v181 v182 v183 v184 v185 v186 v187 v188 v189 v190 v191 v192 v193 v194 v195 v196 v197 v198 : Value)  (w' : World), QSt w0 d g jb cb mb ab nb lb N (lim + 1000) w' → KK ⟨#[.int .i64 N, x1, x2, x3, x4, x5, ptr cb, ptr ab, x8, .slice (some ⟨nb, 0, none⟩) N N, .slice (some ⟨lb, 0, none⟩) N N, x11, .pointer (some ⟨ob, 0, none⟩), .bool IN, v14, v15, v16, v17, v18, v19, x20, x21, x22, x23, x24, x25, x26, x27, x28, x29, x30, x31, x32, x33, x34, x35, x36, x37, x38, x39, x40, x41, x42, x43, x44, x45, x46, x47, x48, x49, x50, x51, x52, x53, x54, x55, x56, x57, x58, x59, x60, x61, x62, x63, x64, x65, x66, x67, x68, x69, x70, x71, x72, x73, x74, x75, x76, x77, x78, x79, x80, x81, .int .i64 0, v83, v84, v85, v86, v87, v88, v89, v90, v91, v92, v93, v94, v95, v96, v97, v98, v99, v100, v101, v102, v103, v104, v105, v106, v107, v108, v109, v110, v111, v112, v113, v114, v115, v116, v117, v118, v119, v120, v121, v122, v123, v124, v125, v126, v127, v128, v129, v130, v131, v132, v133, v134, v135, v136, v137, v138, v139, v140, v141, v142, v143, v144, v145, v146, v147, v148, v149, v150, v151, v152, v153, v154, v155, v156, v157, v158, v159, v160, v161, v162, v163, v164, v165, v166, v167, v168, v169, v170, v171, v172, v173, v174, v175, v176, v177, v178, v179, v180, v181, v182, v183, v184, v185, v186, v187, v188, v189, v190, v191, v192, v193, v194, v195, v196, v197, v198, x199, x200, x201, x202, x203, x204, x205, x206, x207, x208, x209, x210, x211, x212, x213, x214, x215, x216, x217, x218, x219, x220, x221, x222, x223, x224, x225, x226, x227, x228, x229, x230, x231, x232, x233, x234, x235, x236, x237, x238, x239, x240, x241], []⟩ w'))
    (hQp : Hid (∀ x a a' w, Q (.panic x) a w → a.defers = a'.defers → Q (.panic x) a' w)) :
    Code.wp Tryz.prog (((Tryz.f3.body.bind (blockAt 2)).getD .skip)) (Exit.then KK Q) ⟨#[.int .i64 N, x1, x2, x3, x4, x5, ptr cb, ptr ab, x8, .slice (some ⟨nb, 0, none⟩) N N, .slice (some ⟨lb, 0, none⟩) N N, x11, .pointer (some ⟨ob, 0, none⟩), .bool IN, x14, x15, x16, x17, x18, x19, x20, x21, x22, x23, x24, x25, x26, x27, x28, x29, x30, x31, x32, x33, x34, x35, x36, x37, x38, x39, x40, x41, x42, x43, x44, x45, x46, x47, x48, x49, x50, x51, x52, x53, x54, x55, x56, x57, x58, x59, x60, x61, x62, x63, x64, x65, x66, x67, x68, x69, x70, x71, x72, x73, x74, x75, x76, x77, x78, x79, x80, x81, .int .i64 0, x83, x84, x85, x86, x87, x88, x89, x90, x91, x92, x93, x94, x95, x96, x97, x98, x99, x100, x101, x102, x103, x104, x105, x106, x107, x108, x109, x110, x111, x112, x113, x114, x115, x116, x117, x118, x119, x120, x121, x122, x123, x124, x125, x126, x127, x128, x129, x130, x131, x132, x133, x134, x135, x136, x137, x138, x139, x140, x141, x142, x143, x144, x145, x146, x147, x148, x149, x150, x151, x152, x153, x154, x155, x156, x157, x158, x159, x160, x161, x162, x163, x164, x165, x166, x167, x168, x169, x170, x171, x172, x173, x174, x175, x176, x177, x178, x179, x180, x181, x182, x183, x184, x185, x186, x187, x188, x189, x190, x191, x192, x193, x194, x195, x196, x197, x198, x199, x200, x201, x202, x203, x204, x205, x206, x207, x208, x209, x210, x211, x212, x213, x214, x215, x216, x217, x218, x219, x220, x221, x222, x223, x224, x225, x226, x227, x228, x229, x230, x231, x232, x233, x234, x235, x236, x237, x238, x239, x240, x241], []⟩ w := by
  have hu := hQp
  clear hu
  conv => arg 2; whnf
  try dsimp only
  have hn1 := hP.out.n1
  have hn2 := hP.out.n2
  obtain ⟨at0, ha1, hlow, hfree⟩ := first_free S N
  replace hlow := hidden hlow
  replace hfree := hidden hfree
  have hu := And.intro hO (And.intro hob (And.intro hIN (And.intro hno hlim)))
  clear hu
  go_wp2_with fail
  go_loopg [14] (N + 1) (fun gk q wr => ∃ r : Nat, r ≤ at0 ∧ gk = N + 1 - r ∧ q = .int .i64 r ∧ Hid (wr = w))
  case atStart => exact ⟨0, by omega, rfl, rfl, hidden rfl⟩
  case round =>
    obtain ⟨r, hr, hgk, rfl, hwr⟩ := hrel
    replace hgk := hidden hgk
    have hP' := hP
    rw [← hwr.out] at hP'
    clear hP
    by_cases hra : r < at0
    · have hc := hP'.out.now.cell r (by omega)
      rw [hlow.out r hra] at hc
      have hrN : (r : Int) < (N : Int) := by omega
      go_wp2
      go_roundg (N + 1 - (r + 1))
      case measure => rw [hgk.out]; omega
      case rel => exact ⟨r + 1, hra, rfl, by go_num, hwr⟩
    · obtain rfl : r = at0 := by omega
      by_cases hN : r < N
      · have hc := hP'.out.now.cell r hN
        rw [hfree.out hN] at hc
        have hrN : (r : Int) < (N : Int) := by omega
        have hne : ¬ (r : Int) = (N : Int) := by omega
        have hT := hidden (hP'.out.take r hN (hfree.out hN) hlow.out)
        go_wp2_with fail
        refine (hT.out).mono ?_
        rintro ev w4 ⟨rfl, hP4, -⟩
        have hc4 := hP4.now.cell r hN
        have hf4 := hP4.now.free r hN
        rw [hfree.out hN] at hc4
        replace hP4 := hidden hP4
        clear hT hP' hc
        go_wp2
        exact hKK.out _ _ _ _ _ _ _ _ _ _ _ _ _ _ _ _ _ _ _ _ _ _ _ _ _ _ _ _ _ _ _ _ _ _ _ _ _ _ _ _ _ _ _ _ _ _ _ _ _ _ _ _ _ _ _ _ _ _ _ _ _ _ _ _ _ _ _ _ _ _ _ _ _ _ _ _ _ _ _ _ _ _ _ _ _ _ _ _ _ _ _ _ _ _ _ _ _ _ _ _ _ _ _ _ _ _ _ _ _ _ _ _ _ _ _ _ _ _ _ _ _ _ _ (QSt.mk ⟨setS S r true, L, (hP4.out.put r hN true).lift (by omega)⟩)
      · obtain rfl : r = N := by omega
        have hF := hidden (hP'.out.full (fun j hj => hlow.out j hj))
        have hrN : ¬ (r : Int) < (r : Int) := by omega
        go_wp2_with fail
        refine (hF.out).mono ?_
        rintro ev w4 ⟨b4, rfl, hch, hP4, hB4⟩
        have hI := hidden (law_is 15 (by decide) w4 sAlloc sNone [] (flt b4) hch (hGT.out _ hP4.below))
        replace hP4 := hidden hP4
        clear hF hP' hch hB4
        go_wp2_with fail
        refine (hI.out).mono ?_
        rintro ev w5 ⟨rfl, hB5⟩
        have hP5 := hidden (hP4.out.more hB5)
        clear hI hB5 hP4
        go_wp2
        exact hKK.out _ _ _ _ _ _ _ _ _ _ _ _ _ _ _ _ _ _ _ _ _ _ _ _ _ _ _ _ _ _ _ _ _ _ _ _ _ _ _ _ _ _ _ _ _ _ _ _ _ _ _ _ _ _ _ _ _ _ _ _ _ _ _ _ _ _ _ _ _ _ _ _ _ _ _ _ _ _ _ _ _ _ _ _ _ _ _ _ _ _ _ _ _ _ _ _ _ _ _ _ _ _ _ _ _ _ _ _ _ _ _ _ _ _ _ _ _ _ _ _ _ _ _ (QSt.mk ⟨S, L, hP5.out.lift (by omega)⟩)
end Go.Proofs.YtildpgingcmfcaaGreatDoor
/- AllocPlays: a Give, and what it answers. -/
namespace Go.Proofs.YtildpgingcmfcaaGreatDoor
open Go.RowKit Go.Extern.Stop Go.Stop Go.Extern
set_option maxRecDepth 1000000

set_option maxHeartbeats 8000000 in
theorem ap_give34 (w0 : World) (ab ob : Nat) (kind no want : Int) (nm : ByteArray) (RR : World → Prop) (w : World) (hO : Hid (OAt ob kind no w)) (kG : Hid (∀ wx, Below w.heap.size w wx → Calls Tryz.prog 9 #[ptr ab, .int .i64 no] wx fun e w' => ∃ r, e = .returned r ∧ Ans nm want r w' ∧ RR w' ∧ OAt ob kind no w' ∧ Below w0.heap.size w0 w')) (kM : Hid (∀ wx : World, Calls Tryz.prog 10 #[.int .i64 no] wx fun e w' => e = .returned (.string nm) ∧ w' = wx)) (hR : Hid (∀ wx wy : World, RR wx → Below wx.heap.size wx wy → RR wy)) (hGT : Hid (∀ wx, Below w0.heap.size w0 wx → GT wx))
    (x0 x1 x2 x3 x4 x5 x6 x8 x9 x10 x11 x13 x14 x15 x16 x18 x19 x20 x21 x22 x23 x24 x25 x26 x27 x28 x29 x30 x31 x32 x33 x34 x35 x36 x37 x38 x39 x40 x41 x42 x43 x44 x45 x46 x47 x48 x49 x50 x51 x52 x53 x54 x55 x56 x57 x58 x59 x60 x61 x62 x63 x64 x65 x66 x67 x68 x69 x70 x71 x72 x73 x74 x75 x76 x77 x78 x79 x80 x81 x82 x83 x84 x85 x86 x87 x88 x89 x90 x91 x92 x93 x94 x95 x96 x97 x98 x99 x100 x101 x102 x103 x104 x105 x106 x107 x108 x109 x110 x111 x112 x113 x114 x115 x116 x117 x118 x119 x120 x121 x122 x123 x124 x125 x126 x127 x128 x129 x130 x131 x132 x133 x134 x135 x136 x137 x138 x139 x140 x141 x142 x143 x144 x145 x146 x147 x148 x149 x150 x151 x152 x153 x154 x155 x156 x157 x158 x159 x160 x161 x162 x163 x164 x165 x166 x167 x168 x169 x170 x171 x172 x173 x174 x175 x176 x177 x178 x179 x180 x181 x182 x183 x184 x185 x186 x187 x188 x189 x190 x191 x192 x193 x194 x195 x196 x197 x198 x199 x200 x201 x202 x203 x204 x205 x206 x207 x208 x209 x210 x211 x212 x213 x214 x215 x216 x217 x218 x219 x220 x221 x222 x223 x224 x225 x226 x227 x228 x229 x230 x231 x232 x233 x234 x235 x236 x237 x238 x239 x240 x241 : Value) (KK : Act → World → Prop) (Q : Exit → Act → World → Prop)
    (hKK : Hid (∀ (v138 v139 v140 v141 v142 v143 v144 v145 v146 : Value)  (w' : World), RR w' ∧ OAt ob kind no w' → KK ⟨#[x0, x1, x2, x3, x4, x5, x6, ptr ab, x8, x9, x10, x11, .pointer (some ⟨ob, 0, none⟩), x13, x14, x15, x16, .int .i64 want, x18, x19, x20, x21, x22, x23, x24, x25, x26, x27, x28, x29, x30, x31, x32, x33, x34, x35, x36, x37, x38, x39, x40, x41, x42, x43, x44, x45, x46, x47, x48, x49, x50, x51, x52, x53, x54, x55, x56, x57, x58, x59, x60, x61, x62, x63, x64, x65, x66, x67, x68, x69, x70, x71, x72, x73, x74, x75, x76, x77, x78, x79, x80, x81, x82, x83, x84, x85, x86, x87, x88, x89, x90, x91, x92, x93, x94, x95, x96, x97, x98, x99, x100, x101, x102, x103, x104, x105, x106, x107, x108, x109, x110, x111, x112, x113, x114, x115, x116, x117, x118, x119, x120, x121, x122, x123, x124, x125, x126, x127, x128, x129, x130, x131, x132, x133, x134, x135, x136, x137, v138, v139, v140, v141, v142, v143, v144, v145, v146, .bool false, x148, x149, x150, x151, x152, x153, x154, x155, x156, x157, x158, x159, x160, x161, x162, x163, x164, x165, x166, x167, x168, x169, x170, x171, x172, x173, x174, x175, x176, x177, x178, x179, x180, x181, x182, x183, x184, x185, x186, x187, x188, x189, x190, x191, x192, x193, x194, x195, x196, x197, x198, x199, x200, x201, x202, x203, x204, x205, x206, x207, x208, x209, x210, x211, x212, x213, x214, x215, x216, x217, x218, x219, x220, x221, x222, x223, x224, x225, x226, x227, x228, x229, x230, x231, x232, x233, x234, x235, x236, x237, x238, x239, x240, x241], []⟩ w'))
    (hQp : Hid (∀ x a a' w, Q (.panic x) a w → a.defers = a'.defers → Q (.panic x) a' w)) :
    Code.wp Tryz.prog (((Tryz.f3.body.bind (regionAt 34)).getD .skip)) (Exit.then KK Q) ⟨#[x0, x1, x2, x3, x4, x5, x6, ptr ab, x8, x9, x10, x11, .pointer (some ⟨ob, 0, none⟩), x13, x14, x15, x16, .int .i64 want, x18, x19, x20, x21, x22, x23, x24, x25, x26, x27, x28, x29, x30, x31, x32, x33, x34, x35, x36, x37, x38, x39, x40, x41, x42, x43, x44, x45, x46, x47, x48, x49, x50, x51, x52, x53, x54, x55, x56, x57, x58, x59, x60, x61, x62, x63, x64, x65, x66, x67, x68, x69, x70, x71, x72, x73, x74, x75, x76, x77, x78, x79, x80, x81, x82, x83, x84, x85, x86, x87, x88, x89, x90, x91, x92, x93, x94, x95, x96, x97, x98, x99, x100, x101, x102, x103, x104, x105, x106, x107, x108, x109, x110, x111, x112, x113, x114, x115, x116, x117, x118, x119, x120, x121, x122, x123, x124, x125, x126, x127, x128, x129, x130, x131, x132, x133, x134, x135, x136, x137, x138, x139, x140, x141, x142, x143, x144, x145, x146, x147, x148, x149, x150, x151, x152, x153, x154, x155, x156, x157, x158, x159, x160, x161, x162, x163, x164, x165, x166, x167, x168, x169, x170, x171, x172, x173, x174, x175, x176, x177, x178, x179, x180, x181, x182, x183, x184, x185, x186, x187, x188, x189, x190, x191, x192, x193, x194, x195, x196, x197, x198, x199, x200, x201, x202, x203, x204, x205, x206, x207, x208, x209, x210, x211, x212, x213, x214, x215, x216, x217, x218, x219, x220, x221, x222, x223, x224, x225, x226, x227, x228, x229, x230, x231, x232, x233, x234, x235, x236, x237, x238, x239, x240, x241], []⟩ w := by
  have hu := hQp
  clear hu
  conv => arg 2; whnf
  try dsimp only
  have o1 := hO.out.o1
  have hob := lt_of_cell o1
  have hBd := hidden (below_drew1 w)
  refine wp_region_any (by kernel_rfl) ?_
  try (change wpAny _ _ _ _ _ _ _ (World.drew _))
  refine wpAny_take (i := 0) (v := ?_) rfl (by kernel_rfl) (by kernel_rfl) (by kernel_rfl) (fun _ _ _ h => hQp.out _ _ _ _ h rfl) (Or.inl ⟨by rfl, ?_⟩) ?_
  rotate_left
  · intro w; go_simp; try (with_reducible rfl)
  refine wpAny_take (i := 1) (v := ?_) rfl (by kernel_rfl) (by kernel_rfl) (by kernel_rfl) (fun _ _ _ h => hQp.out _ _ _ _ h rfl) (Or.inl ⟨by rfl, ?_⟩) ?_
  rotate_left
  · intro w; go_simp; try (with_reducible rfl)
  refine wpAny_take (i := 4) (v := ?_) rfl (by kernel_rfl) (by kernel_rfl) (by kernel_rfl) (fun _ _ _ h => hQp.out _ _ _ _ h rfl) (Or.inl ⟨by rfl, ?_⟩) ?_
  rotate_left
  · intro w; go_simp; try (with_reducible rfl)
  refine wpAny_take (i := 7) (v := ?_) rfl (by kernel_rfl) (by kernel_rfl) (by kernel_rfl) (fun _ _ _ h => hQp.out _ _ _ _ h rfl) (Or.inl ⟨by rfl, ?_⟩) ?_
  rotate_left
  · intro w; go_simp; try (with_reducible rfl)
  refine wpAny_ready (rs := [2, 5]) (by kernel_rfl) (by simp) ?_
  refine AllReady.cons rfl (fun K hK => ?_) ?_
  · go_simp
    try (refine hK _ _ ?_; clear hK K)
    refine wpAny_ready (rs := [3, 5]) (by kernel_rfl) (by simp) ?_
    refine AllReady.cons rfl (fun K hK => ?_) ?_
    · go_simp
      go_wp2_with (go_at_call 9; refine (kG.out _ hBd.out).mono ?_; rintro ev w3 ⟨r3, rfl, hA3, hR3, hO3, hB3⟩; have o13 := hO3.o1; have hI3 := hidden (hA3.is (hGT.out _ hB3)); have hE3 := hidden (And.intro hR3 hO3); clear hA3 hR3 hO3 hB3)
      try (refine hK _ _ ?_; clear hK K)
      refine wpAny_ready (rs := [5]) (by kernel_rfl) (by simp) ?_
      refine AllReady.cons rfl (fun K hK => ?_) AllReady.nil
      go_simp
      try (refine hK _ _ ?_; clear hK K)
      refine wpAny_ready (rs := [6]) (by kernel_rfl) (by simp) ?_
      refine AllReady.cons rfl (fun K hK => ?_) AllReady.nil
      go_simp
      go_wp2_with (go_at_call 10; refine (kM.out _).mono ?_; rintro ev w4 ⟨rfl, rfl⟩)
      try (refine hK _ _ ?_; clear hK K)
      refine wpAny_ready (rs := [8]) (by kernel_rfl) (by simp) ?_
      refine AllReady.cons rfl (fun K hK => ?_) AllReady.nil
      go_simp
      go_wp2_with (go_at_call 8; refine (hI3.out).mono ?_; rintro ev w5 ⟨rfl, hB5⟩; have hE5 := hidden (And.intro (hR.out _ _ hE3.out.1 hB5) (hE3.out.2.below hB5)); clear hB5)
      try (refine hK _ _ ?_; clear hK K)
      refine wpAny_ready (rs := [9]) (by kernel_rfl) (by simp) ?_
      refine AllReady.cons rfl (fun K hK => ?_) AllReady.nil
      go_simp
      try (refine hK _ _ ?_; clear hK K)
      refine wpAny_done (by kernel_rfl) ?_ _
      go_wp2
      exact hKK.out _ _ _ _ _ _ _ _ _ _ hE5.out
    refine AllReady.cons rfl (fun K hK => ?_) ?_
    · go_simp
      try (refine hK _ _ ?_; clear hK K)
      refine wpAny_ready (rs := [3]) (by kernel_rfl) (by simp) ?_
      refine AllReady.cons rfl (fun K hK => ?_) AllReady.nil
      go_simp
      go_wp2_with (go_at_call 9; refine (kG.out _ hBd.out).mono ?_; rintro ev w3 ⟨r3, rfl, hA3, hR3, hO3, hB3⟩; have o13 := hO3.o1; have hI3 := hidden (hA3.is (hGT.out _ hB3)); have hE3 := hidden (And.intro hR3 hO3); clear hA3 hR3 hO3 hB3)
      try (refine hK _ _ ?_; clear hK K)
      refine wpAny_ready (rs := [6]) (by kernel_rfl) (by simp) ?_
      refine AllReady.cons rfl (fun K hK => ?_) AllReady.nil
      go_simp
      go_wp2_with (go_at_call 10; refine (kM.out _).mono ?_; rintro ev w4 ⟨rfl, rfl⟩)
      try (refine hK _ _ ?_; clear hK K)
      refine wpAny_ready (rs := [8]) (by kernel_rfl) (by simp) ?_
      refine AllReady.cons rfl (fun K hK => ?_) AllReady.nil
      go_simp
      go_wp2_with (go_at_call 8; refine (hI3.out).mono ?_; rintro ev w5 ⟨rfl, hB5⟩; have hE5 := hidden (And.intro (hR.out _ _ hE3.out.1 hB5) (hE3.out.2.below hB5)); clear hB5)
      try (refine hK _ _ ?_; clear hK K)
      refine wpAny_ready (rs := [9]) (by kernel_rfl) (by simp) ?_
      refine AllReady.cons rfl (fun K hK => ?_) AllReady.nil
      go_simp
      try (refine hK _ _ ?_; clear hK K)
      refine wpAny_done (by kernel_rfl) ?_ _
      go_wp2
      exact hKK.out _ _ _ _ _ _ _ _ _ _ hE5.out
    exact AllReady.nil
  refine AllReady.cons rfl (fun K hK => ?_) ?_
  · go_simp
    try (refine hK _ _ ?_; clear hK K)
    refine wpAny_ready (rs := [2]) (by kernel_rfl) (by simp) ?_
    refine AllReady.cons rfl (fun K hK => ?_) AllReady.nil
    go_simp
    try (refine hK _ _ ?_; clear hK K)
    refine wpAny_ready (rs := [3]) (by kernel_rfl) (by simp) ?_
    refine AllReady.cons rfl (fun K hK => ?_) AllReady.nil
    go_simp
    go_wp2_with (go_at_call 9; refine (kG.out _ hBd.out).mono ?_; rintro ev w3 ⟨r3, rfl, hA3, hR3, hO3, hB3⟩; have o13 := hO3.o1; have hI3 := hidden (hA3.is (hGT.out _ hB3)); have hE3 := hidden (And.intro hR3 hO3); clear hA3 hR3 hO3 hB3)
    try (refine hK _ _ ?_; clear hK K)
    refine wpAny_ready (rs := [6]) (by kernel_rfl) (by simp) ?_
    refine AllReady.cons rfl (fun K hK => ?_) AllReady.nil
    go_simp
    go_wp2_with (go_at_call 10; refine (kM.out _).mono ?_; rintro ev w4 ⟨rfl, rfl⟩)
    try (refine hK _ _ ?_; clear hK K)
    refine wpAny_ready (rs := [8]) (by kernel_rfl) (by simp) ?_
    refine AllReady.cons rfl (fun K hK => ?_) AllReady.nil
    go_simp
    go_wp2_with (go_at_call 8; refine (hI3.out).mono ?_; rintro ev w5 ⟨rfl, hB5⟩; have hE5 := hidden (And.intro (hR.out _ _ hE3.out.1 hB5) (hE3.out.2.below hB5)); clear hB5)
    try (refine hK _ _ ?_; clear hK K)
    refine wpAny_ready (rs := [9]) (by kernel_rfl) (by simp) ?_
    refine AllReady.cons rfl (fun K hK => ?_) AllReady.nil
    go_simp
    try (refine hK _ _ ?_; clear hK K)
    refine wpAny_done (by kernel_rfl) ?_ _
    go_wp2
    exact hKK.out _ _ _ _ _ _ _ _ _ _ hE5.out
  exact AllReady.nil
end Go.Proofs.YtildpgingcmfcaaGreatDoor
/- AllocPlays: a Give. -/
namespace Go.Proofs.YtildpgingcmfcaaGreatDoor
open Go.RowKit Go.Extern.Stop Go.Stop Go.Extern
set_option maxRecDepth 1000000

set_option maxHeartbeats 8000000 in
theorem ap_give (w0 : World) (d g jb cb mb ab nb lb N ob : Nat) (kind no : Int) (IN : Bool) (S L : Nat → Bool) (lim : Int) (w : World) (hP : Hid (PSt w0 d g jb cb mb ab nb lb N S S L L lim w)) (hO : Hid (OAt ob kind no w)) (hob : Hid (∀ k ∈ [d, g, jb, cb, mb, ab, nb, lb], k ≠ ob)) (hIN : Hid (IN = decide (15 ≤ no ∧ no < 15 + (N : Int)))) (hno : Hid (i64 no)) (hGT : Hid (∀ wx, Below w0.heap.size w0 wx → GT wx)) (hlim : lim ≤ 100000)
    (x1 x2 x3 x4 x5 x8 x11 x14 x15 x16 x17 x18 x19 x20 x21 x22 x23 x24 x25 x26 x27 x28 x29 x30 x31 x32 x33 x34 x35 x36 x37 x38 x39 x40 x41 x42 x43 x44 x45 x46 x47 x48 x49 x50 x51 x52 x53 x54 x55 x56 x57 x58 x59 x60 x61 x62 x63 x64 x65 x66 x67 x68 x69 x70 x71 x72 x73 x74 x75 x76 x77 x78 x79 x80 x81 x83 x84 x85 x86 x87 x88 x89 x90 x91 x92 x93 x94 x95 x96 x97 x98 x99 x100 x101 x102 x103 x104 x105 x106 x107 x108 x109 x110 x111 x112 x113 x114 x115 x116 x117 x118 x119 x120 x121 x122 x123 x124 x125 x126 x127 x128 x129 x130 x131 x132 x133 x134 x135 x136 x137 x138 x139 x140 x141 x142 x143 x144 x145 x146 x147 x148 x149 x150 x151 x152 x153 x154 x155 x156 x157 x158 x159 x160 x161 x162 x163 x164 x165 x166 x167 x168 x169 x170 x171 x172 x173 x174 x175 x176 x177 x178 x179 x180 x181 x182 x183 x184 x185 x186 x187 x188 x189 x190 x191 x192 x193 x194 x195 x196 x197 x198 x199 x200 x201 x202 x203 x204 x205 x206 x207 x208 x209 x210 x211 x212 x213 x214 x215 x216 x217 x218 x219 x220 x221 x222 x223 x224 x225 x226 x227 x228 x229 x230 x231 x232 x233 x234 x235 x236 x237 x238 x239 x240 x241 : Value) (KK : Act → World → Prop) (Q : Exit → Act → World → Prop)
    (hKK : Hid (∀ (v14 v15 v16 v17 v18 v19 v83 v84 v85 v86 v87 v88 v89 v90 v91 v92 v93 v94 v95 v96 v97 v98 v99 v100 v101 v102 v103 v104 v105 v106 v107 v108 v109 v110 v111 v112 v113 v114 v115 v116 v117 v118 v119 v120 v121 v122 v123 v124 v125 v126 v127 v128 v129 v130 v131 v132 v133 v134 v135 v136 v137 v138 v139 v140 v141 v142 v143 v144 v145 v146 v147 v148 v149 v150 v151 v152 v153 v154 v155 v156 v157 v158 v159 v160 v161 v162 v163 v164 v165 v166 v167 v168 v169 v170 v171 v172 v173 v174 v175 v176 v177 v178 v179 v180 v181 v182 v183 v184 v185 v186 v187 v188 v189 v190 v191 v192 v193 v194 v195 v196 v197 v198 : Value)  (w' : World), QSt w0 d g jb cb mb ab nb lb N (lim + 1000) w' → KK ⟨#[.int .i64 N, x1, x2, x3, x4, x5, ptr cb, ptr ab, x8, .slice (some ⟨nb, 0, none⟩) N N, .slice (some ⟨lb, 0, none⟩) N N, x11, .pointer (some ⟨ob, 0, none⟩), .bool IN, v14, v15, v16, v17, v18, v19, x20, x21, x22, x23, x24, x25, x26, x27, x28, x29, x30, x31, x32, x33, x34, x35, x36, x37, x38, x39, x40, x41, x42, x43, x44, x45, x46, x47, x48, x49, x50, x51, x52, x53, x54, x55, x56, x57, x58, x59, x60, x61, x62, x63, x64, x65, x66, x67, x68, x69, x70, x71, x72, x73, x74, x75, x76, x77, x78, x79, x80, x81, .int .i64 1, v83, v84, v85, v86, v87, v88, v89, v90, v91, v92, v93, v94, v95, v96, v97, v98, v99, v100, v101, v102, v103, v104, v105, v106, v107, v108, v109, v110, v111, v112, v113, v114, v115, v116, v117, v118, v119, v120, v121, v122, v123, v124, v125, v126, v127, v128, v129, v130, v131, v132, v133, v134, v135, v136, v137, v138, v139, v140, v141, v142, v143, v144, v145, v146, v147, v148, v149, v150, v151, v152, v153, v154, v155, v156, v157, v158, v159, v160, v161, v162, v163, v164, v165, v166, v167, v168, v169, v170, v171, v172, v173, v174, v175, v176, v177, v178, v179, v180, v181, v182, v183, v184, v185, v186, v187, v188, v189, v190, v191, v192, v193, v194, v195, v196, v197, v198, x199, x200, x201, x202, x203, x204, x205, x206, x207, x208, x209, x210, x211, x212, x213, x214, x215, x216, x217, x218, x219, x220, x221, x222, x223, x224, x225, x226, x227, x228, x229, x230, x231, x232, x233, x234, x235, x236, x237, x238, x239, x240, x241], []⟩ w'))
    (hQp : Hid (∀ x a a' w, Q (.panic x) a w → a.defers = a'.defers → Q (.panic x) a' w)) :
    Code.wp Tryz.prog (((Tryz.f3.body.bind (blockAt 2)).getD .skip)) (Exit.then KK Q) ⟨#[.int .i64 N, x1, x2, x3, x4, x5, ptr cb, ptr ab, x8, .slice (some ⟨nb, 0, none⟩) N N, .slice (some ⟨lb, 0, none⟩) N N, x11, .pointer (some ⟨ob, 0, none⟩), .bool IN, x14, x15, x16, x17, x18, x19, x20, x21, x22, x23, x24, x25, x26, x27, x28, x29, x30, x31, x32, x33, x34, x35, x36, x37, x38, x39, x40, x41, x42, x43, x44, x45, x46, x47, x48, x49, x50, x51, x52, x53, x54, x55, x56, x57, x58, x59, x60, x61, x62, x63, x64, x65, x66, x67, x68, x69, x70, x71, x72, x73, x74, x75, x76, x77, x78, x79, x80, x81, .int .i64 1, x83, x84, x85, x86, x87, x88, x89, x90, x91, x92, x93, x94, x95, x96, x97, x98, x99, x100, x101, x102, x103, x104, x105, x106, x107, x108, x109, x110, x111, x112, x113, x114, x115, x116, x117, x118, x119, x120, x121, x122, x123, x124, x125, x126, x127, x128, x129, x130, x131, x132, x133, x134, x135, x136, x137, x138, x139, x140, x141, x142, x143, x144, x145, x146, x147, x148, x149, x150, x151, x152, x153, x154, x155, x156, x157, x158, x159, x160, x161, x162, x163, x164, x165, x166, x167, x168, x169, x170, x171, x172, x173, x174, x175, x176, x177, x178, x179, x180, x181, x182, x183, x184, x185, x186, x187, x188, x189, x190, x191, x192, x193, x194, x195, x196, x197, x198, x199, x200, x201, x202, x203, x204, x205, x206, x207, x208, x209, x210, x211, x212, x213, x214, x215, x216, x217, x218, x219, x220, x221, x222, x223, x224, x225, x226, x227, x228, x229, x230, x231, x232, x233, x234, x235, x236, x237, x238, x239, x240, x241], []⟩ w := by
  have hu := hQp
  clear hu
  conv => arg 2; whnf
  try dsimp only
  have hn1 := hP.out.n1
  have hn2 := hP.out.n2
  obtain ⟨nm, hnm⟩ : ∃ nm, itoaB no = nm := ⟨_, rfl⟩
  have hu := hlim
  clear hu
  have kM := hidden (fun wx => num_calls no hno.out wx)
  rw [hnm] at kM
  replace hnm := hidden hnm
  have o1 := hO.out.o1
  cases IN with
  | false =>
    have hout : ¬ (15 ≤ no ∧ no < 15 + (N : Int)) := of_decide_eq_false hIN.out.symm
    replace hout := hidden hout
    have kG : Hid (∀ wx, Below w.heap.size w wx → Calls Tryz.prog 9 #[ptr ab, .int .i64 no] wx fun e w' => ∃ r, e = .returned r ∧ Ans nm 1 r w' ∧ PSt w0 d g jb cb mb ab nb lb N (S) S L L lim w' ∧ OAt ob kind no w' ∧ Below w0.heap.size w0 w') := hidden (fun wx hx => by
      refine ((hP.out.more hx).give_no no hno.out 1 (Or.inr ⟨hout.out, rfl⟩)).mono ?_
      rintro e w' ⟨b, rfl, hc, hP2, hB2⟩
      rw [hnm.out] at hc
      exact ⟨_, rfl, Or.inr ⟨b, rfl, hc, by decide⟩, hP2, (hO.out.below hx).below hB2, hP2.below⟩)
    go_upto_region 34 with fail
    refine ap_give34 w0 ab ob kind no 1 nm (fun wx => PSt w0 d g jb cb mb ab nb lb N (S) S L L lim wx) w hO kG kM (hidden (fun wx wy h hb => h.more hb)) hGT _ _ _ _ _ _ _ _ _ _ _ _ _ _ _ _ _ _ _ _ _ _ _ _ _ _ _ _ _ _ _ _ _ _ _ _ _ _ _ _ _ _ _ _ _ _ _ _ _ _ _ _ _ _ _ _ _ _ _ _ _ _ _ _ _ _ _ _ _ _ _ _ _ _ _ _ _ _ _ _ _ _ _ _ _ _ _ _ _ _ _ _ _ _ _ _ _ _ _ _ _ _ _ _ _ _ _ _ _ _ _ _ _ _ _ _ _ _ _ _ _ _ _ _ _ _ _ _ _ _ _ _ _ _ _ _ _ _ _ _ _ _ _ _ _ _ _ _ _ _ _ _ _ _ _ _ _ _ _ _ _ _ _ _ _ _ _ _ _ _ _ _ _ _ _ _ _ _ _ _ _ _ _ _ _ _ _ _ _ _ _ _ _ _ _ _ _ _ _ _ _ _ _ _ _ _ _ _ _ _ _ _ _ _ _ _ _ _ _ _ _ _ _ _ _ _ _ _ _ _ _ _ _ _ _ _ _ _ _ _ _ (hidden ?kk) (hidden ?qp)
    case qp =>
      intro _ a a' _ h e
      exact hQp.out _ _ _ _ h e
    case kk =>
      intro v138 v139 v140 v141 v142 v143 v144 v145 v146 w6 hE6
      have o16 := hE6.2.o1
      have hP6 := hidden hE6.1
      clear hE6 kG
      go_wp2
      exact hKK.out _ _ _ _ _ _ _ _ _ _ _ _ _ _ _ _ _ _ _ _ _ _ _ _ _ _ _ _ _ _ _ _ _ _ _ _ _ _ _ _ _ _ _ _ _ _ _ _ _ _ _ _ _ _ _ _ _ _ _ _ _ _ _ _ _ _ _ _ _ _ _ _ _ _ _ _ _ _ _ _ _ _ _ _ _ _ _ _ _ _ _ _ _ _ _ _ _ _ _ _ _ _ _ _ _ _ _ _ _ _ _ _ _ _ _ _ _ _ _ _ _ _ _ (QSt.mk ⟨S, L, hP6.out.lift (by omega)⟩)
  | true =>
    have hin : 15 ≤ no ∧ no < 15 + (N : Int) := of_decide_eq_true hIN.out.symm
    obtain ⟨X, hX, hXn⟩ : ∃ X : Nat, X < N ∧ no = 15 + (X : Int) := ⟨(no - 15).toNat, by omega, by omega⟩
    have hsub : no - 15 = (X : Int) := by omega
    have hr1 := hno.out.1
    have hr2 := hno.out.2
    replace hin := hidden hin
    replace hXn := hidden hXn
    cases hSX : S X with
    | false =>
      have hc := hP.out.now.cell X hX
      rw [hSX] at hc
      have kG : Hid (∀ wx, Below w.heap.size w wx → Calls Tryz.prog 9 #[ptr ab, .int .i64 no] wx fun e w' => ∃ r, e = .returned r ∧ Ans nm 7 r w' ∧ PSt w0 d g jb cb mb ab nb lb N (S) S L L lim w' ∧ OAt ob kind no w' ∧ Below w0.heap.size w0 w') := hidden (fun wx hx => by
        refine ((hP.out.more hx).give_no no hno.out 7 (Or.inl ⟨X, hX, hXn.out, hSX, rfl⟩)).mono ?_
        rintro e w' ⟨b, rfl, hc, hP2, hB2⟩
        rw [hnm.out] at hc
        exact ⟨_, rfl, Or.inr ⟨b, rfl, hc, by decide⟩, hP2, (hO.out.below hx).below hB2, hP2.below⟩)
      go_upto_region 34 with fail
      refine ap_give34 w0 ab ob kind no 7 nm (fun wx => PSt w0 d g jb cb mb ab nb lb N (S) S L L lim wx) w hO kG kM (hidden (fun wx wy h hb => h.more hb)) hGT _ _ _ _ _ _ _ _ _ _ _ _ _ _ _ _ _ _ _ _ _ _ _ _ _ _ _ _ _ _ _ _ _ _ _ _ _ _ _ _ _ _ _ _ _ _ _ _ _ _ _ _ _ _ _ _ _ _ _ _ _ _ _ _ _ _ _ _ _ _ _ _ _ _ _ _ _ _ _ _ _ _ _ _ _ _ _ _ _ _ _ _ _ _ _ _ _ _ _ _ _ _ _ _ _ _ _ _ _ _ _ _ _ _ _ _ _ _ _ _ _ _ _ _ _ _ _ _ _ _ _ _ _ _ _ _ _ _ _ _ _ _ _ _ _ _ _ _ _ _ _ _ _ _ _ _ _ _ _ _ _ _ _ _ _ _ _ _ _ _ _ _ _ _ _ _ _ _ _ _ _ _ _ _ _ _ _ _ _ _ _ _ _ _ _ _ _ _ _ _ _ _ _ _ _ _ _ _ _ _ _ _ _ _ _ _ _ _ _ _ _ _ _ _ _ _ _ _ _ _ _ _ _ _ _ _ _ _ _ _ _ (hidden ?kk) (hidden ?qp)
      case qp =>
        intro _ a a' _ h e
        exact hQp.out _ _ _ _ h e
      case kk =>
        intro v138 v139 v140 v141 v142 v143 v144 v145 v146 w6 hE6
        have o16 := hE6.2.o1
        have hP6 := hidden hE6.1
        clear hE6 kG
        go_wp2
        exact hKK.out _ _ _ _ _ _ _ _ _ _ _ _ _ _ _ _ _ _ _ _ _ _ _ _ _ _ _ _ _ _ _ _ _ _ _ _ _ _ _ _ _ _ _ _ _ _ _ _ _ _ _ _ _ _ _ _ _ _ _ _ _ _ _ _ _ _ _ _ _ _ _ _ _ _ _ _ _ _ _ _ _ _ _ _ _ _ _ _ _ _ _ _ _ _ _ _ _ _ _ _ _ _ _ _ _ _ _ _ _ _ _ _ _ _ _ _ _ _ _ _ _ _ _ (QSt.mk ⟨S, L, hP6.out.lift (by omega)⟩)
    | true =>
      have hc := hP.out.now.cell X hX
      rw [hSX] at hc
      have kG : Hid (∀ wx, Below w.heap.size w wx → Calls Tryz.prog 9 #[ptr ab, .int .i64 no] wx fun e w' => ∃ r, e = .returned r ∧ Ans nm 0 r w' ∧ PSt w0 d g jb cb mb ab nb lb N (setS S X false) S L L lim w' ∧ OAt ob kind no w' ∧ Below w0.heap.size w0 w') := hidden (fun wx hx => by
        refine ((hP.out.more hx).give X hX no hXn.out hSX).mono ?_
        rintro e w' ⟨rfl, hP2, hA2⟩
        exact ⟨_, rfl, Or.inl ⟨rfl, rfl⟩, hP2, (hO.out.below hx).keep hA2 (by have h1 := hob.out d (by simp); have h2 := hob.out g (by simp); have h3 := hob.out mb (by simp); simp; omega), hP2.below⟩)
      go_upto_region 34 with fail
      refine ap_give34 w0 ab ob kind no 0 nm (fun wx => PSt w0 d g jb cb mb ab nb lb N (setS S X false) S L L lim wx) w hO kG kM (hidden (fun wx wy h hb => h.more hb)) hGT _ _ _ _ _ _ _ _ _ _ _ _ _ _ _ _ _ _ _ _ _ _ _ _ _ _ _ _ _ _ _ _ _ _ _ _ _ _ _ _ _ _ _ _ _ _ _ _ _ _ _ _ _ _ _ _ _ _ _ _ _ _ _ _ _ _ _ _ _ _ _ _ _ _ _ _ _ _ _ _ _ _ _ _ _ _ _ _ _ _ _ _ _ _ _ _ _ _ _ _ _ _ _ _ _ _ _ _ _ _ _ _ _ _ _ _ _ _ _ _ _ _ _ _ _ _ _ _ _ _ _ _ _ _ _ _ _ _ _ _ _ _ _ _ _ _ _ _ _ _ _ _ _ _ _ _ _ _ _ _ _ _ _ _ _ _ _ _ _ _ _ _ _ _ _ _ _ _ _ _ _ _ _ _ _ _ _ _ _ _ _ _ _ _ _ _ _ _ _ _ _ _ _ _ _ _ _ _ _ _ _ _ _ _ _ _ _ _ _ _ _ _ _ _ _ _ _ _ _ _ _ _ _ _ _ _ _ _ _ _ _ (hidden ?kk) (hidden ?qp)
      case qp =>
        intro _ a a' _ h e
        exact hQp.out _ _ _ _ h e
      case kk =>
        intro v138 v139 v140 v141 v142 v143 v144 v145 v146 w6 hE6
        have o16 := hE6.2.o1
        have hP6 := hidden hE6.1
        clear hE6 kG
        have hc6 := hP6.out.now.cell X hX
        have hf6 := hP6.out.now.free X hX
        go_wp2
        exact hKK.out _ _ _ _ _ _ _ _ _ _ _ _ _ _ _ _ _ _ _ _ _ _ _ _ _ _ _ _ _ _ _ _ _ _ _ _ _ _ _ _ _ _ _ _ _ _ _ _ _ _ _ _ _ _ _ _ _ _ _ _ _ _ _ _ _ _ _ _ _ _ _ _ _ _ _ _ _ _ _ _ _ _ _ _ _ _ _ _ _ _ _ _ _ _ _ _ _ _ _ _ _ _ _ _ _ _ _ _ _ _ _ _ _ _ _ _ _ _ _ _ _ _ _ (QSt.mk ⟨setS S X false, L, (hP6.out.put X hX false).lift (by omega)⟩)
end Go.Proofs.YtildpgingcmfcaaGreatDoor
