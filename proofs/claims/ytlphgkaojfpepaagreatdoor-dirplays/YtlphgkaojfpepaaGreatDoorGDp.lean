/- DirPlays, cut into declarations: what they share. -/
import Derived.Test.YtlphgkaojfpepaaGreatDoorGDx
import Derived.Test.YtlphgkaojfpepaaGreatDoorDy0z
import Derived.Test.YtlphgkaojfpepaaGreatDoorGDf
import Derived.Deep.CutBlock
namespace Go.Proofs.YtlphgkaojfpepaaGreatDoor
open Go.RowKit Go.Extern.Stop Go.Stop Go.Extern Go.Maps Go.Sort Go.Shelf
set_option maxRecDepth 100000

theorem Tryz.infoRecP : (Tryz.prog.info? 38).map (fun i => (i.zero, i.size, i.bytes)) = some (some (.agg #[.string ⟨#[]⟩, .int .i64 0]), 2, 24) := by kernel_rfl
/-- The block of that number within a function's code. -/
def blockAt (n : Nat) : Code → Option Code
  | .block m c => if m = n then some (.block m c) else blockAt n c
  | .loop c => blockAt n c
  | .seq a b => match blockAt n a with
    | some c => some c
    | none => blockAt n b
  | .scope c => blockAt n c
  | .cond _ a b => match blockAt n a with
    | some c => some c
    | none => blockAt n b
  | _ => none
/-- What a call of a directory answered, by its number. -/
def AnsD (nm : ByteArray) (want : Int) (r : Value) (w : World) : Prop := (r = .nilIface ∧ want = 0) ∨ ∃ b, r = flt b ∧ Chain w [(sDir, nm)] (num want) (flt b) ∧ (want == 0) = false
theorem isD_calls {nm : ByteArray} {want : Int} {r : Value} {w : World} (h : AnsD nm want r w) (hg : GT w) :
    Calls Tryz.prog 11 #[r, .string sDir, .string nm, .int .i64 want] w fun ev w' => ev = .returned (.bool true) ∧ Below w.heap.size w w' := by
  rcases h with ⟨rfl, rfl⟩ | ⟨b, rfl, hc, hn⟩
  · refine (law_is_nil sDir nm w).mono ?_
    rintro ev w' ⟨rfl, rfl⟩
    exact ⟨rfl, Below.refl _ _⟩
  · exact law_is want hn w sDir nm [] _ hc hg
/-- What holds in a round: the directory's records, the statement's list. -/
structure DP (E : TE) (db base : Nat) (lv : Value) (L : List Rec) (w : World) : Prop where
  d : DL E db L w
  o : RecOwn 38 base w lv L
  i : ∀ r ∈ L, r.id ≤ 200
  a : E.Ahead base
  b : db < base
  s : base ≤ w.heap.size
theorem DP.more {E : TE} {db base : Nat} {lv : Value} {L : List Rec} {w w' : World} (h : DP E db base lv L w) (hb : Below w.heap.size w w') : DP E db base lv L w' := ⟨h.d.more hb, h.o.below hb, h.i, h.a, h.b, Nat.le_trans h.s hb.size⟩
theorem DP.turn {E : TE} {db base : Nat} {lv : Value} {L L2 : List Rec} {w w' : World} (h : DP E db base lv L w) (hd : DL E db L2 w') (ha : Apart [E.mb] w w') : DL E db L2 w' ∧ RecOwn 38 base w' lv L ∧ base ≤ w'.heap.size := ⟨hd, h.o.keep ha (fun k hk => by rw [List.mem_singleton.1 hk]; exact h.a.2.2.2.2.1), Nat.le_trans h.s ha.size⟩
theorem DL.ov {E : TE} {db : Nat} {L : List Rec} {w w' : World} (h : DL E db L w) {B : Nat} (hB : E.Ahead B) (hd : db < B) (hb : Below B w w') : DL E db L w' := ⟨h.b.over hB hd hb, h.g⟩
theorem RecOwn.first {T : TypeId} {base : Nat} {w : World} {a : Option Addr} {n c : Nat} {L : List Rec} (h : RecOwn T base w (.slice a n c) L) (h0 : 0 < L.length) : ∃ g, a = some ⟨g, 0, none⟩ := by
  rcases h.row.2 with ⟨hv, h1⟩ | ⟨g, cap', cur, hv, -⟩
  · omega
  · obtain ⟨rfl, -, -⟩ := Value.slice.inj hv
    exact ⟨g, rfl⟩
theorem RecOwn.cells2 {T : TypeId} {base : Nat} {w : World} {g n c : Nat} {L : List Rec} (h : RecOwn T base w (.slice (some ⟨g, 0, none⟩) n c) L) {k : Nat} {r : Rec} (hr : L[k]? = some r) : w.cell? ⟨g, k * 2, none⟩ = some (.string (mkB r.s)) ∧ w.cell? ⟨g, k * 2 + 1, none⟩ = some (.int .i64 (r.id : Nat)) := by
  obtain ⟨a, cap, e, hc⟩ := h.at
  obtain ⟨rfl, -, -⟩ := Value.slice.inj e
  obtain ⟨b, off, e2, -, hk⟩ := hc (by rintro rfl; simp at hr)
  obtain ⟨rfl, rfl, -⟩ := Addr.mk.inj (Option.some.inj e2)
  have := hk k r hr
  rwa [Nat.zero_add] at this
theorem RecOwn.frz {T : TypeId} {base : Nat} {w : World} {g c : Nat} {L : List Rec} (h : RecOwn T base w (.slice (some ⟨g, 0, none⟩) L.length c) L) (j : Nat) : w.frozen? ⟨g, j, none⟩ = false := h.row.frozenAt j
theorem RecOwn.cap {T : TypeId} {base : Nat} {w : World} {g n c : Nat} {L : List Rec} (h : RecOwn T base w (.slice (some ⟨g, 0, none⟩) n c) L) : L.length ≤ c := by
  rcases h.row.2 with ⟨hv, -⟩ | ⟨g', cap', cur, hv, -, -, h2, -⟩
  · cases hv
  · obtain ⟨-, -, rfl⟩ := Value.slice.inj hv
    exact h2
structure QP10 (E : TE) (db base k : Nat) (lv : Value) (w : World) : Prop where
  ex : ∃ L, DP E db base lv L w ∧ L.length ≤ k
/-- The call of a round, as it lies in memory. -/
structure O4 (ob : Nat) (kind id : Int) (s t : List UInt8) (w : World) : Prop where
  o0 : w.cell? ⟨ob, 0, none⟩ = some (.int .i64 kind)
  o1 : w.cell? ⟨ob, 1, none⟩ = some (.int .i64 id)
  o2 : w.cell? ⟨ob, 2, none⟩ = some (.string (mkB s))
  o3 : w.cell? ⟨ob, 3, none⟩ = some (.string (mkB t))
theorem O4.keep {ob : Nat} {kind id : Int} {s t : List UInt8} {w w' : World} {bs : List Nat} (h : O4 ob kind id s t w) (ha : Apart bs w w') (hn : ob ∉ bs) : O4 ob kind id s t w' :=
  ⟨(ha.cell (p := ⟨ob, 0, none⟩) (lt_of_cell h.o0) hn).trans h.o0, (ha.cell (p := ⟨ob, 1, none⟩) (lt_of_cell h.o1) hn).trans h.o1, (ha.cell (p := ⟨ob, 2, none⟩) (lt_of_cell h.o2) hn).trans h.o2, (ha.cell (p := ⟨ob, 3, none⟩) (lt_of_cell h.o3) hn).trans h.o3⟩
def SBd (w wx : World) : Prop := Below w.heap.size w wx
theorem SBd.mk {w wx : World} (h : Below w.heap.size w wx) : SBd w wx := h
theorem SBd.out {w wx : World} (h : SBd w wx) : Below w.heap.size w wx := h
def SApD (m : Nat) (w wx : World) : Prop := Apart [m] w wx
theorem SApD.mk {m : Nat} {w wx : World} (h : Apart [m] w wx) : SApD m w wx := h
theorem SApD.out {m : Nat} {w wx : World} (h : SApD m w wx) : Apart [m] w wx := h
theorem SApD.more {m : Nat} {w wx wy : World} (h : SApD m w wx) (h2 : Apart [m] wx wy) : SApD m w wy := h.out.trans h2
section
variable {E : TE} {db : Nat} {L : List Rec} {w w' : World}
/-- What Put does, by what it should tell. -/
def DidD (E : TE) (db : Nat) (nm : ByteArray) (want : Int) (L2 : List Rec) (w : World) (r : Value) (w' : World) : Prop := AnsD nm want r w' ∧ DL E db L2 w' ∧ Apart [E.mb] w w'
theorem DidD.err (h : DL E db L w) {nm : ByteArray} {m : Int} (hm : (m == 0) = false) {b : Nat} (hc : Chain w' [(sDir, nm)] (num m) (flt b)) (hb : Below w.heap.size w w') : DidD E db nm m L w (flt b) w' := ⟨Or.inr ⟨b, rfl, hc, hm⟩, h.more hb, Apart.of_below hb⟩
theorem dp_put_err (h : DL E db L w) {s : List UInt8} {id m : Int} (hm : (m == 0) = false) (kF : Calls Tryz.prog 46 #[ptr db, .string (mkB s), .int .i64 id] w fun e w' => e = .returned (num m) ∧ Below w.heap.size w w') :
    Calls Tryz.prog 12 #[ptr db, .string (mkB s), .int .i64 id] w fun e w' => ∃ r, e = .returned r ∧ DidD E db (mkB s) m L w r w' :=
  (dPut_err kF).mono fun _ _ ⟨_, he, hc, hB⟩ => ⟨_, he, DidD.err h hm hc hB⟩
theorem dp_put_name (h : DL E db L w) (s : List UInt8) (id : Int) (hs : okB s = false) : Calls Tryz.prog 12 #[ptr db, .string (mkB s), .int .i64 id] w fun e w' => ∃ r, e = .returned r ∧ DidD E db (mkB s) 10 L w r w' :=
  dp_put_err h rfl ((dput_name s id hs).mono fun _ _ ⟨a, b⟩ => ⟨a, by rw [b]; exact Below.refl _ _⟩)
theorem dp_put_arg (h : DL E db L w) (s : List UInt8) (id : Int) (hs : okB s = true) (hid : ¬ (1 ≤ id ∧ id ≤ 200)) : Calls Tryz.prog 12 #[ptr db, .string (mkB s), .int .i64 id] w fun e w' => ∃ r, e = .returned r ∧ DidD E db (mkB s) 1 L w r w' :=
  dp_put_err h rfl ((dput_arg s id hs hid).mono fun _ _ ⟨a, b⟩ => ⟨a, by rw [b]; exact Below.refl _ _⟩)
theorem dp_put_there (h : DL E db L w) (e : EOk E) (s : List UInt8) (id : Nat) (hs : okB s = true) (h1 : 1 ≤ id) (h2 : id ≤ 200) {k : Nat} {q : Rec} (hq : L[k]? = some q) (hqs : q.s = s) : Calls Tryz.prog 12 #[ptr db, .string (mkB s), .int .i64 (id : Nat)] w fun e w' => ∃ r, e = .returned r ∧ DidD E db (mkB s) 12 L w r w' := by
  refine dp_put_err h rfl ((dput_any h e s id hs h1 h2).mono ?_)
  rintro ev w' (⟨-, rfl, hB⟩ | ⟨hno, -⟩ | ⟨hno, -⟩)
  · exact ⟨rfl, hB⟩
  · exact absurd hqs (hno q (List.mem_of_getElem? hq))
  · exact absurd hqs (hno q (List.mem_of_getElem? hq))
theorem dp_put_ok (h : DL E db L w) (e : EOk E) (s : List UInt8) (id : Nat) (hs : okB s = true) (h1 : 1 ≤ id) (h2 : id ≤ 200) (hno : ∀ r ∈ L, r.s ≠ s) (hl : L.length < 120) : Calls Tryz.prog 12 #[ptr db, .string (mkB s), .int .i64 (id : Nat)] w fun e w' => ∃ r, e = .returned r ∧ DidD E db (mkB s) 0 (L ++ [⟨s, id⟩]) w r w' :=
  (dPut_ok h e s id hs h1 h2 hno hl).mono fun _ _ ⟨a, b, c⟩ => ⟨_, a, Or.inl ⟨rfl, rfl⟩, b, c⟩
theorem dp_drop_err (h : DL E db L w) {s : List UInt8} {m : Int} (hm : (m == 0) = false) (kF : Calls Tryz.prog 49 #[ptr db, .string (mkB s)] w fun e w' => e = .returned (.tuple #[.slice none 0 0, .int .i64 0, num m]) ∧ Below w.heap.size w w') :
    Calls Tryz.prog 13 #[ptr db, .string (mkB s)] w fun e w' => ∃ r, e = .returned r ∧ DidD E db (mkB s) m L w r w' :=
  (dDrop_err (ddrop_err kF)).mono fun _ _ ⟨_, he, hc, hB⟩ => ⟨_, he, DidD.err h hm hc hB⟩
theorem find_name (s : List UInt8) (hs : okB s = false) (w : World) : Calls Tryz.prog 49 #[ptr db, .string (mkB s)] w fun e w' => e = .returned (.tuple #[.slice none 0 0, .int .i64 0, num 10]) ∧ Below w.heap.size w w' :=
  (dfind_name s hs).mono fun _ _ ⟨a, b⟩ => ⟨a, by rw [b]; exact Below.refl _ _⟩
theorem dp_drop_ok (h : DL E db L w) (e : EOk E) {i : Nat} {q : Rec} (hq : L[i]? = some q) : Calls Tryz.prog 13 #[ptr db, .string (mkB q.s)] w fun e w' => ∃ r, e = .returned r ∧ DidD E db (mkB q.s) 0 (dropR L i) w r w' :=
  (dDrop_ok h e hq).mono fun _ _ ⟨a, b, c⟩ => ⟨_, a, Or.inl ⟨rfl, rfl⟩, b, c⟩
theorem dp_turn_err (h : DL E db L w) {s t u : List UInt8} {m : Int} (hm : (m == 0) = false) (kF : Calls Tryz.prog 48 #[ptr db, .string (mkB s), .string (mkB t)] w fun e w' => e = .returned (.tuple #[.string (mkB u), num m]) ∧ Below w.heap.size w w') :
    Calls Tryz.prog 14 #[ptr db, .string (mkB s), .string (mkB t)] w fun e w' => ∃ r, e = .returned r ∧ DidD E db (mkB u) m L w r w' :=
  (dTurn_err kF).mono fun _ _ ⟨_, he, hc, hB⟩ => ⟨_, he, DidD.err h hm hc hB⟩
theorem dp_turn_there (h : DL E db L w) (e : EOk E) {i k : Nat} {q p : Rec} (hq : L[i]? = some q) (t : List UInt8) (ht : okB t = true) (hne : q.s ≠ t) (hp : L[k]? = some p) (hpt : p.s = t) : Calls Tryz.prog 14 #[ptr db, .string (mkB q.s), .string (mkB t)] w fun e w' => ∃ r, e = .returned r ∧ DidD E db (mkB t) 12 L w r w' := by
  refine dp_turn_err h rfl ((dturn_any h e hq t ht).mono ?_)
  rintro ev w' (⟨hst, -⟩ | ⟨-, -, rfl, hB⟩ | ⟨-, hno, -⟩)
  · exact absurd hst hne
  · exact ⟨rfl, hB⟩
  · exact absurd hpt (hno p (List.mem_of_getElem? hp))
theorem dp_turn_same (h : DL E db L w) (e : EOk E) {i : Nat} {q : Rec} (hq : L[i]? = some q) : Calls Tryz.prog 14 #[ptr db, .string (mkB q.s), .string (mkB q.s)] w fun e w' => ∃ r, e = .returned r ∧ DidD E db (mkB q.s) 0 L w r w' :=
  (dTurn_same h e hq).mono fun _ _ ⟨a, b⟩ => ⟨_, a, Or.inl ⟨rfl, rfl⟩, h.more b, Apart.of_below b⟩
theorem dp_turn_to (h : DL E db L w) (e : EOk E) {i : Nat} {q : Rec} (hq : L[i]? = some q) (t : List UInt8) (ht : okB t = true) (hno : ∀ p ∈ L, p.s ≠ t) : Calls Tryz.prog 14 #[ptr db, .string (mkB q.s), .string (mkB t)] w fun e w' => ∃ r, e = .returned r ∧ DidD E db (mkB q.s) 0 (L.set i ⟨t, q.id⟩) w r w' :=
  (dTurn_to h e hq t ht hno).mono fun _ _ ⟨a, b, c⟩ => ⟨_, a, Or.inl ⟨rfl, rfl⟩, b, c⟩
end
end Go.Proofs.YtlphgkaojfpepaaGreatDoor
/- DirPlays: a Put, and what it tells. -/
namespace Go.Proofs.YtlphgkaojfpepaaGreatDoor
open Go.RowKit Go.Extern.Stop Go.Stop Go.Extern Go.Maps Go.Sort Go.Shelf
set_option maxRecDepth 1000000

set_option maxHeartbeats 8000000 in
theorem dp_31 (E : TE) (db ob : Nat) (kind id : Int) (s t : List UInt8) (want : Int) (L2 : List Rec) (w : World) (hO : Hid (O4 ob kind id s t w)) (hob : ob ≠ E.mb) (kGT : Hid (∀ wx, Below E.w0.heap.size E.w0 wx → GT wx)) (kP : Hid (Calls Tryz.prog 12 #[ptr db, .string (mkB s), .int .i64 id] w.drew fun e w' => ∃ r, e = .returned r ∧ DidD E db (mkB s) want L2 w.drew r w'))
    (x0 x1 x2 x3 x5 x6 x8 x10 x11 x12 x13 x14 x15 x16 x17 x18 x19 x20 x21 x22 x23 x24 x25 x26 x27 x28 x29 x30 x31 x32 x33 x34 x35 x36 x37 x38 x39 x40 x41 x42 x43 x44 x45 x46 x47 x48 x49 x50 x51 x52 x53 x54 x55 x56 x57 x58 x59 x60 x61 x62 x63 x64 x65 x66 x67 x68 x69 x70 x71 x72 x73 x74 x75 x76 x77 x78 x79 x80 x81 x82 x83 x84 x85 x86 x87 x88 x89 x90 x91 x92 x93 x94 x95 x96 x97 x98 x99 x100 x101 x102 x103 x104 x105 x106 x107 x108 x109 x110 x111 x112 x113 x114 x115 x116 x117 x118 x119 x120 x121 x122 x123 x124 x125 x126 x127 x128 x129 x130 x131 x132 x133 x134 x135 x136 x137 x138 x139 x140 x141 x142 x143 x144 x145 x146 x147 x148 x149 x150 x151 x152 x153 x154 x155 x156 x157 x158 x159 x160 x161 x162 x163 x164 x165 x166 x167 x168 x169 x170 x171 x172 x173 x174 x175 x176 x177 x178 x179 x180 x181 x182 x183 x184 x185 x186 x187 x188 x189 x190 x191 x192 x193 x194 x195 x196 x197 x198 x199 x200 x201 x202 x203 x204 x205 x206 x207 x208 x209 x210 x211 x212 x213 x214 x215 x216 x217 x218 x219 x220 x221 x222 x223 x224 x225 x226 x227 x228 x229 x230 x231 x232 x233 x234 x235 x236 x237 x238 x239 x240 x241 x242 x243 x244 x245 x246 x247 x248 x249 x250 x251 x252 x253 x254 x255 x256 x257 x258 x259 x260 x261 x262 x263 x264 x265 x266 x267 x268 x269 x270 x271 x272 x273 x274 x275 x276 x277 x278 x279 x280 x281 : Value) (KK : Act → World → Prop) (Q : Exit → Act → World → Prop)
    (hKK : Hid (∀ (v125 v126 v127 v128 v129 v130 v131 v132 v133 v134 : Value)  (w' : World), DL E db L2 w' ∧ Apart [E.mb] w w' → KK ⟨#[x0, x1, x2, x3, ptr db, x5, x6, .pointer (some ⟨ob, 0, none⟩), x8, .int .i64 want, x10, x11, x12, x13, x14, x15, x16, x17, x18, x19, x20, x21, x22, x23, x24, x25, x26, x27, x28, x29, x30, x31, x32, x33, x34, x35, x36, x37, x38, x39, x40, x41, x42, x43, x44, x45, x46, x47, x48, x49, x50, x51, x52, x53, x54, x55, x56, x57, x58, x59, x60, x61, x62, x63, x64, x65, x66, x67, x68, x69, x70, x71, x72, x73, x74, x75, x76, x77, x78, x79, x80, x81, x82, x83, x84, x85, x86, x87, x88, x89, x90, x91, x92, x93, x94, x95, x96, x97, x98, x99, x100, x101, x102, x103, x104, x105, x106, x107, x108, x109, x110, x111, x112, x113, x114, x115, x116, x117, x118, x119, x120, x121, x122, x123, x124, v125, v126, v127, v128, v129, v130, v131, v132, v133, v134, .bool false, x136, x137, x138, x139, x140, x141, x142, x143, x144, x145, x146, x147, x148, x149, x150, x151, x152, x153, x154, x155, x156, x157, x158, x159, x160, x161, x162, x163, x164, x165, x166, x167, x168, x169, x170, x171, x172, x173, x174, x175, x176, x177, x178, x179, x180, x181, x182, x183, x184, x185, x186, x187, x188, x189, x190, x191, x192, x193, x194, x195, x196, x197, x198, x199, x200, x201, x202, x203, x204, x205, x206, x207, x208, x209, x210, x211, x212, x213, x214, x215, x216, x217, x218, x219, x220, x221, x222, x223, x224, x225, x226, x227, x228, x229, x230, x231, x232, x233, x234, x235, x236, x237, x238, x239, x240, x241, x242, x243, x244, x245, x246, x247, x248, x249, x250, x251, x252, x253, x254, x255, x256, x257, x258, x259, x260, x261, x262, x263, x264, x265, x266, x267, x268, x269, x270, x271, x272, x273, x274, x275, x276, x277, x278, x279, x280, x281], []⟩ w'))
    (hQp : Hid (∀ x a a' w, Q (.panic x) a w → a.defers = a'.defers → Q (.panic x) a' w)) :
    Code.wp Tryz.prog (((Tryz.f3.body.bind (regionAt 31)).getD .skip)) (Exit.then KK Q) ⟨#[x0, x1, x2, x3, ptr db, x5, x6, .pointer (some ⟨ob, 0, none⟩), x8, .int .i64 want, x10, x11, x12, x13, x14, x15, x16, x17, x18, x19, x20, x21, x22, x23, x24, x25, x26, x27, x28, x29, x30, x31, x32, x33, x34, x35, x36, x37, x38, x39, x40, x41, x42, x43, x44, x45, x46, x47, x48, x49, x50, x51, x52, x53, x54, x55, x56, x57, x58, x59, x60, x61, x62, x63, x64, x65, x66, x67, x68, x69, x70, x71, x72, x73, x74, x75, x76, x77, x78, x79, x80, x81, x82, x83, x84, x85, x86, x87, x88, x89, x90, x91, x92, x93, x94, x95, x96, x97, x98, x99, x100, x101, x102, x103, x104, x105, x106, x107, x108, x109, x110, x111, x112, x113, x114, x115, x116, x117, x118, x119, x120, x121, x122, x123, x124, x125, x126, x127, x128, x129, x130, x131, x132, x133, x134, x135, x136, x137, x138, x139, x140, x141, x142, x143, x144, x145, x146, x147, x148, x149, x150, x151, x152, x153, x154, x155, x156, x157, x158, x159, x160, x161, x162, x163, x164, x165, x166, x167, x168, x169, x170, x171, x172, x173, x174, x175, x176, x177, x178, x179, x180, x181, x182, x183, x184, x185, x186, x187, x188, x189, x190, x191, x192, x193, x194, x195, x196, x197, x198, x199, x200, x201, x202, x203, x204, x205, x206, x207, x208, x209, x210, x211, x212, x213, x214, x215, x216, x217, x218, x219, x220, x221, x222, x223, x224, x225, x226, x227, x228, x229, x230, x231, x232, x233, x234, x235, x236, x237, x238, x239, x240, x241, x242, x243, x244, x245, x246, x247, x248, x249, x250, x251, x252, x253, x254, x255, x256, x257, x258, x259, x260, x261, x262, x263, x264, x265, x266, x267, x268, x269, x270, x271, x272, x273, x274, x275, x276, x277, x278, x279, x280, x281], []⟩ w := by
  have hu := hQp
  clear hu
  conv => arg 2; whnf
  try dsimp only
  have hS0 : SApD E.mb w w.drew := SApD.mk (Apart.of_below (below_drew1 w))
  have hk := hidden (fun (wx : World) (hx : SApD E.mb w wx) => hO.out.keep hx.out (by simpa using hob))
  have ko1 := hidden (fun (wx : World) (hx : SApD E.mb w wx) => (hk.out wx hx).o1)
  have ko2 := hidden (fun (wx : World) (hx : SApD E.mb w wx) => (hk.out wx hx).o2)
  clear hk
  generalize mkB s = nm at *
  refine wp_region_held_drew (S := SApD E.mb w) (by kernel_rfl) hS0 ?_
  intro _
  refine wpAnyH_take (i := 0) (v := ?_) rfl (by kernel_rfl) (by kernel_rfl) (by kernel_rfl) (fun _ _ _ h => hQp.out _ _ _ _ h rfl) (Or.inl ⟨by rfl, ?_⟩) hS0 ?_
  rotate_left
  · intro w hw; clear hw; go_simp; try (with_reducible rfl)
  refine wpAnyH_take (i := 1) (v := ?_) rfl (by kernel_rfl) (by kernel_rfl) (by kernel_rfl) (fun _ _ _ h => hQp.out _ _ _ _ h rfl) (Or.inl ⟨by rfl, ?_⟩) hS0 ?_
  rotate_left
  · intro w hw; clear hw; go_simp; try (with_reducible rfl)
  refine wpAnyH_take (i := 2) (v := ?_) rfl (by kernel_rfl) (by kernel_rfl) (by kernel_rfl) (fun _ _ _ h => hQp.out _ _ _ _ h rfl) (Or.inl ⟨by rfl, ?_⟩) hS0 ?_
  rotate_left
  · intro w hw; have c1 := ko2.out _ hw; clear hw; go_simp; try (with_reducible rfl)
  refine wpAnyH_take (i := 3) (v := ?_) rfl (by kernel_rfl) (by kernel_rfl) (by kernel_rfl) (fun _ _ _ h => hQp.out _ _ _ _ h rfl) (Or.inl ⟨by rfl, ?_⟩) hS0 ?_
  rotate_left
  · intro w hw; clear hw; go_simp; try (with_reducible rfl)
  refine wpAnyH_take (i := 4) (v := ?_) rfl (by kernel_rfl) (by kernel_rfl) (by kernel_rfl) (fun _ _ _ h => hQp.out _ _ _ _ h rfl) (Or.inl ⟨by rfl, ?_⟩) hS0 ?_
  rotate_left
  · intro w hw; have c1 := ko1.out _ hw; clear hw; go_simp; try (with_reducible rfl)
  refine wpAnyH_take (i := 6) (v := ?_) rfl (by kernel_rfl) (by kernel_rfl) (by kernel_rfl) (fun _ _ _ h => hQp.out _ _ _ _ h rfl) (Or.inl ⟨by rfl, ?_⟩) hS0 ?_
  rotate_left
  · intro w hw; clear hw; go_simp; try (with_reducible rfl)
  refine wpAnyH_take (i := 7) (v := ?_) rfl (by kernel_rfl) (by kernel_rfl) (by kernel_rfl) (fun _ _ _ h => hQp.out _ _ _ _ h rfl) (Or.inl ⟨by rfl, ?_⟩) hS0 ?_
  rotate_left
  · intro w hw; have c1 := ko2.out _ hw; clear hw; go_simp; try (with_reducible rfl)
  refine wpAnyH_take (i := 8) (v := ?_) rfl (by kernel_rfl) (by kernel_rfl) (by kernel_rfl) (fun _ _ _ h => hQp.out _ _ _ _ h rfl) (Or.inl ⟨by rfl, ?_⟩) hS0 ?_
  rotate_left
  · intro w hw; clear hw; go_simp; try (with_reducible rfl)
  refine wpAnyH_ready (rs := [5]) (by kernel_rfl) (by simp) ?_
  refine AllReadyH.cons rfl (fun K hK => ?_) AllReadyH.nil
  go_simp
  go_wp2_with (go_at_call 12; refine (kP.out).mono ?_; rintro ev wq ⟨r, rfl, hD1, hD2, hD3⟩)
  refine hK.out _ _ (SApD.more hS0 hD3) (fun hSn1 => ?_)
  have kI := hidden (isD_calls hD1 (kGT.out _ hD2.b.below))
  clear hD1
  clear hK K
  refine wpAnyH_ready (rs := [9]) (by kernel_rfl) (by simp) ?_
  refine AllReadyH.cons rfl (fun K hK => ?_) AllReadyH.nil
  go_simp
  go_wp2_with (go_at_call 11; refine (kI.out).mono ?_; rintro ev wz ⟨rfl, hBz⟩)
  refine hK.out _ _ (SApD.more hSn1 (Apart.of_below hBz)) (fun hSn2 => ?_)
  clear hK K
  refine wpAnyH_ready (rs := [10]) (by kernel_rfl) (by simp) ?_
  refine AllReadyH.cons rfl (fun K hK => ?_) AllReadyH.nil
  go_simp
  refine hK.out _ _ hSn2 (fun _ => ?_)
  clear hK K
  refine wpAnyH_done (by kernel_rfl) ?_ _
  have hz := hidden (show DL E db L2 _ ∧ Apart [E.mb] w _ from ⟨hD2.more hBz, hSn2.out⟩)
  clear hD2 hD3 hBz
  go_wp2
  exact hKK.out _ _ _ _ _ _ _ _ _ _ _ hz.out
end Go.Proofs.YtlphgkaojfpepaaGreatDoor
/- DirPlays: a Drop, and what it tells. -/
namespace Go.Proofs.YtlphgkaojfpepaaGreatDoor
open Go.RowKit Go.Extern.Stop Go.Stop Go.Extern Go.Maps Go.Sort Go.Shelf
set_option maxRecDepth 1000000

set_option maxHeartbeats 8000000 in
theorem dp_41 (E : TE) (db ob : Nat) (kind id : Int) (s t : List UInt8) (want : Int) (L2 : List Rec) (w : World) (hO : Hid (O4 ob kind id s t w)) (hob : ob ≠ E.mb) (kGT : Hid (∀ wx, Below E.w0.heap.size E.w0 wx → GT wx)) (kP : Hid (Calls Tryz.prog 13 #[ptr db, .string (mkB s)] w.drew fun e w' => ∃ r, e = .returned r ∧ DidD E db (mkB s) want L2 w.drew r w'))
    (x0 x1 x2 x3 x5 x6 x8 x9 x11 x12 x13 x14 x15 x16 x17 x18 x19 x20 x21 x22 x23 x24 x25 x26 x27 x28 x29 x30 x31 x32 x33 x34 x35 x36 x37 x38 x39 x40 x41 x42 x43 x44 x45 x46 x47 x48 x49 x50 x51 x52 x53 x54 x55 x56 x57 x58 x59 x60 x61 x62 x63 x64 x65 x66 x67 x68 x69 x70 x71 x72 x73 x74 x75 x76 x77 x78 x79 x80 x81 x82 x83 x84 x85 x86 x87 x88 x89 x90 x91 x92 x93 x94 x95 x96 x97 x98 x99 x100 x101 x102 x103 x104 x105 x106 x107 x108 x109 x110 x111 x112 x113 x114 x115 x116 x117 x118 x119 x120 x121 x122 x123 x124 x125 x126 x127 x128 x129 x130 x131 x132 x133 x134 x135 x136 x137 x138 x139 x140 x141 x142 x143 x144 x145 x146 x147 x148 x149 x150 x151 x152 x153 x154 x155 x156 x157 x158 x159 x160 x161 x162 x163 x164 x165 x166 x167 x168 x169 x170 x171 x172 x173 x174 x175 x176 x177 x178 x179 x180 x181 x182 x183 x184 x185 x186 x187 x188 x189 x190 x191 x192 x193 x194 x195 x196 x197 x198 x199 x200 x201 x202 x203 x204 x205 x206 x207 x208 x209 x210 x211 x212 x213 x214 x215 x216 x217 x218 x219 x220 x221 x222 x223 x224 x225 x226 x227 x228 x229 x230 x231 x232 x233 x234 x235 x236 x237 x238 x239 x240 x241 x242 x243 x244 x245 x246 x247 x248 x249 x250 x251 x252 x253 x254 x255 x256 x257 x258 x259 x260 x261 x262 x263 x264 x265 x266 x267 x268 x269 x270 x271 x272 x273 x274 x275 x276 x277 x278 x279 x280 x281 : Value) (KK : Act → World → Prop) (Q : Exit → Act → World → Prop)
    (hKK : Hid (∀ (v154 v155 v156 v157 v158 v159 v160 v161 : Value)  (w' : World), DL E db L2 w' ∧ Apart [E.mb] w w' → KK ⟨#[x0, x1, x2, x3, ptr db, x5, x6, .pointer (some ⟨ob, 0, none⟩), x8, x9, .int .i64 want, x11, x12, x13, x14, x15, x16, x17, x18, x19, x20, x21, x22, x23, x24, x25, x26, x27, x28, x29, x30, x31, x32, x33, x34, x35, x36, x37, x38, x39, x40, x41, x42, x43, x44, x45, x46, x47, x48, x49, x50, x51, x52, x53, x54, x55, x56, x57, x58, x59, x60, x61, x62, x63, x64, x65, x66, x67, x68, x69, x70, x71, x72, x73, x74, x75, x76, x77, x78, x79, x80, x81, x82, x83, x84, x85, x86, x87, x88, x89, x90, x91, x92, x93, x94, x95, x96, x97, x98, x99, x100, x101, x102, x103, x104, x105, x106, x107, x108, x109, x110, x111, x112, x113, x114, x115, x116, x117, x118, x119, x120, x121, x122, x123, x124, x125, x126, x127, x128, x129, x130, x131, x132, x133, x134, x135, x136, x137, x138, x139, x140, x141, x142, x143, x144, x145, x146, x147, x148, x149, x150, x151, x152, x153, v154, v155, v156, v157, v158, v159, v160, v161, .bool false, x163, x164, x165, x166, x167, x168, x169, x170, x171, x172, x173, x174, x175, x176, x177, x178, x179, x180, x181, x182, x183, x184, x185, x186, x187, x188, x189, x190, x191, x192, x193, x194, x195, x196, x197, x198, x199, x200, x201, x202, x203, x204, x205, x206, x207, x208, x209, x210, x211, x212, x213, x214, x215, x216, x217, x218, x219, x220, x221, x222, x223, x224, x225, x226, x227, x228, x229, x230, x231, x232, x233, x234, x235, x236, x237, x238, x239, x240, x241, x242, x243, x244, x245, x246, x247, x248, x249, x250, x251, x252, x253, x254, x255, x256, x257, x258, x259, x260, x261, x262, x263, x264, x265, x266, x267, x268, x269, x270, x271, x272, x273, x274, x275, x276, x277, x278, x279, x280, x281], []⟩ w'))
    (hQp : Hid (∀ x a a' w, Q (.panic x) a w → a.defers = a'.defers → Q (.panic x) a' w)) :
    Code.wp Tryz.prog (((Tryz.f3.body.bind (regionAt 41)).getD .skip)) (Exit.then KK Q) ⟨#[x0, x1, x2, x3, ptr db, x5, x6, .pointer (some ⟨ob, 0, none⟩), x8, x9, .int .i64 want, x11, x12, x13, x14, x15, x16, x17, x18, x19, x20, x21, x22, x23, x24, x25, x26, x27, x28, x29, x30, x31, x32, x33, x34, x35, x36, x37, x38, x39, x40, x41, x42, x43, x44, x45, x46, x47, x48, x49, x50, x51, x52, x53, x54, x55, x56, x57, x58, x59, x60, x61, x62, x63, x64, x65, x66, x67, x68, x69, x70, x71, x72, x73, x74, x75, x76, x77, x78, x79, x80, x81, x82, x83, x84, x85, x86, x87, x88, x89, x90, x91, x92, x93, x94, x95, x96, x97, x98, x99, x100, x101, x102, x103, x104, x105, x106, x107, x108, x109, x110, x111, x112, x113, x114, x115, x116, x117, x118, x119, x120, x121, x122, x123, x124, x125, x126, x127, x128, x129, x130, x131, x132, x133, x134, x135, x136, x137, x138, x139, x140, x141, x142, x143, x144, x145, x146, x147, x148, x149, x150, x151, x152, x153, x154, x155, x156, x157, x158, x159, x160, x161, x162, x163, x164, x165, x166, x167, x168, x169, x170, x171, x172, x173, x174, x175, x176, x177, x178, x179, x180, x181, x182, x183, x184, x185, x186, x187, x188, x189, x190, x191, x192, x193, x194, x195, x196, x197, x198, x199, x200, x201, x202, x203, x204, x205, x206, x207, x208, x209, x210, x211, x212, x213, x214, x215, x216, x217, x218, x219, x220, x221, x222, x223, x224, x225, x226, x227, x228, x229, x230, x231, x232, x233, x234, x235, x236, x237, x238, x239, x240, x241, x242, x243, x244, x245, x246, x247, x248, x249, x250, x251, x252, x253, x254, x255, x256, x257, x258, x259, x260, x261, x262, x263, x264, x265, x266, x267, x268, x269, x270, x271, x272, x273, x274, x275, x276, x277, x278, x279, x280, x281], []⟩ w := by
  have hu := hQp
  clear hu
  conv => arg 2; whnf
  try dsimp only
  have hS0 : SApD E.mb w w.drew := SApD.mk (Apart.of_below (below_drew1 w))
  have hk := hidden (fun (wx : World) (hx : SApD E.mb w wx) => hO.out.keep hx.out (by simpa using hob))
  have ko2 := hidden (fun (wx : World) (hx : SApD E.mb w wx) => (hk.out wx hx).o2)
  clear hk
  generalize mkB s = nm at *
  refine wp_region_held_drew (S := SApD E.mb w) (by kernel_rfl) hS0 ?_
  intro _
  refine wpAnyH_take (i := 0) (v := ?_) rfl (by kernel_rfl) (by kernel_rfl) (by kernel_rfl) (fun _ _ _ h => hQp.out _ _ _ _ h rfl) (Or.inl ⟨by rfl, ?_⟩) hS0 ?_
  rotate_left
  · intro w hw; clear hw; go_simp; try (with_reducible rfl)
  refine wpAnyH_take (i := 1) (v := ?_) rfl (by kernel_rfl) (by kernel_rfl) (by kernel_rfl) (fun _ _ _ h => hQp.out _ _ _ _ h rfl) (Or.inl ⟨by rfl, ?_⟩) hS0 ?_
  rotate_left
  · intro w hw; clear hw; go_simp; try (with_reducible rfl)
  refine wpAnyH_take (i := 2) (v := ?_) rfl (by kernel_rfl) (by kernel_rfl) (by kernel_rfl) (fun _ _ _ h => hQp.out _ _ _ _ h rfl) (Or.inl ⟨by rfl, ?_⟩) hS0 ?_
  rotate_left
  · intro w hw; have c1 := ko2.out _ hw; clear hw; go_simp; try (with_reducible rfl)
  refine wpAnyH_take (i := 4) (v := ?_) rfl (by kernel_rfl) (by kernel_rfl) (by kernel_rfl) (fun _ _ _ h => hQp.out _ _ _ _ h rfl) (Or.inl ⟨by rfl, ?_⟩) hS0 ?_
  rotate_left
  · intro w hw; clear hw; go_simp; try (with_reducible rfl)
  refine wpAnyH_take (i := 5) (v := ?_) rfl (by kernel_rfl) (by kernel_rfl) (by kernel_rfl) (fun _ _ _ h => hQp.out _ _ _ _ h rfl) (Or.inl ⟨by rfl, ?_⟩) hS0 ?_
  rotate_left
  · intro w hw; have c1 := ko2.out _ hw; clear hw; go_simp; try (with_reducible rfl)
  refine wpAnyH_take (i := 6) (v := ?_) rfl (by kernel_rfl) (by kernel_rfl) (by kernel_rfl) (fun _ _ _ h => hQp.out _ _ _ _ h rfl) (Or.inl ⟨by rfl, ?_⟩) hS0 ?_
  rotate_left
  · intro w hw; clear hw; go_simp; try (with_reducible rfl)
  refine wpAnyH_ready (rs := [3]) (by kernel_rfl) (by simp) ?_
  refine AllReadyH.cons rfl (fun K hK => ?_) AllReadyH.nil
  go_simp
  go_wp2_with (go_at_call 13; refine (kP.out).mono ?_; rintro ev wq ⟨r, rfl, hD1, hD2, hD3⟩)
  refine hK.out _ _ (SApD.more hS0 hD3) (fun hSn1 => ?_)
  have kI := hidden (isD_calls hD1 (kGT.out _ hD2.b.below))
  clear hD1
  clear hK K
  refine wpAnyH_ready (rs := [7]) (by kernel_rfl) (by simp) ?_
  refine AllReadyH.cons rfl (fun K hK => ?_) AllReadyH.nil
  go_simp
  go_wp2_with (go_at_call 11; refine (kI.out).mono ?_; rintro ev wz ⟨rfl, hBz⟩)
  refine hK.out _ _ (SApD.more hSn1 (Apart.of_below hBz)) (fun hSn2 => ?_)
  clear hK K
  refine wpAnyH_ready (rs := [8]) (by kernel_rfl) (by simp) ?_
  refine AllReadyH.cons rfl (fun K hK => ?_) AllReadyH.nil
  go_simp
  refine hK.out _ _ hSn2 (fun _ => ?_)
  clear hK K
  refine wpAnyH_done (by kernel_rfl) ?_ _
  have hz := hidden (show DL E db L2 _ ∧ Apart [E.mb] w _ from ⟨hD2.more hBz, hSn2.out⟩)
  clear hD2 hD3 hBz
  go_wp2
  exact hKK.out _ _ _ _ _ _ _ _ _ hz.out
end Go.Proofs.YtlphgkaojfpepaaGreatDoor
