/- DiskPlays' loop, cut into declarations: what they share. -/
import Derived.Test.YtahehgbibmmaeaaDoorPl
import Derived.Test.YtahehgbibmmaeaaDoorRa
namespace Go.Proofs.YtahehgbibmmaeaaDoor
open Go.RowKit Go.Extern.Stop Go.Stop Go.Extern
set_option maxRecDepth 1000000

/-- What holds behind some calls of the script. -/
structure Play (w : World) (nb N : Nat) (k writes fuse left : Int) (wr : World) : Prop where
  ex : ∃ mem nw, ToldN N nw mem ∧ NumsAt nb N nw wr ∧ Sys w (w.heap.size + 1) w.heap.size N mem writes left wr
  w0 : 0 ≤ writes
  w1 : writes ≤ k
  f0 : -1 ≤ fuse
  f1 : fuse ≤ 9223372036854775807
  l0 : -1 ≤ left
  l1 : left ≤ 9223372036854775807
  fl : left ≠ 0 → fuse = left
theorem Play.below {w : World} {nb N : Nat} {k writes fuse left : Int} {wr wr' : World} (h : Play w nb N k writes fuse left wr) (hb : Below wr.heap.size wr wr') : Play w nb N (k + 1) writes fuse left wr' := by
  obtain ⟨mem, nw, h1, h2, h3⟩ := h.ex
  exact ⟨⟨mem, nw, h1, h2.keep (Apart.of_below (bs := []) hb) (by simp), h3.more hb⟩, h.w0, by have := h.w1; omega, h.f0, h.f1, h.l0, h.l1, h.fl⟩
/-- The round's own copy of a call. -/
structure OAt (ob : Nat) (o : OpT) (w : World) : Prop where
  c0 : w.cell? ⟨ob, 0, none⟩ = some (.int .i64 o.kind)
  c1 : w.cell? ⟨ob, 1, none⟩ = some (.int .i64 o.i)
  c2 : w.cell? ⟨ob, 2, none⟩ = some (.int .i64 o.n)
  c3 : w.cell? ⟨ob, 3, none⟩ = some (.bool o.short)
theorem OAt.lt {ob : Nat} {o : OpT} {w : World} (h : OAt ob o w) : ob < w.heap.size := lt_of_cell (a := ⟨ob, 0, none⟩) h.c0
theorem OAt.keep {ob : Nat} {o : OpT} {w w' : World} {bs : List Nat} (h : OAt ob o w) (ha : Apart bs w w') (hn : ob ∉ bs) : OAt ob o w' :=
  ⟨(ha.cell (p := ⟨ob, 0, none⟩) h.lt hn).trans h.c0, (ha.cell (p := ⟨ob, 1, none⟩) h.lt hn).trans h.c1, (ha.cell (p := ⟨ob, 2, none⟩) h.lt hn).trans h.c2, (ha.cell (p := ⟨ob, 3, none⟩) h.lt hn).trans h.c3⟩
theorem OAt.below {ob : Nat} {o : OpT} {w w' : World} (h : OAt ob o w) (hb : Below w.heap.size w w') : OAt ob o w' := h.keep (Apart.of_below (bs := []) hb) (by simp)
theorem o_new (o : OpT) (w : World) : OAt w.heap.size o (w.alloc (.cells #[.int .i64 o.kind, .int .i64 o.i, .int .i64 o.n, .bool o.short] 44)) := ⟨by simp, by simp, by simp, by simp⟩

theorem reach_dead' (n : Nat) (i : Int) (h0 : 0 ≤ i) (h1 : i < (n : Int)) : reachV n 0 i = num 50 := by unfold reachV; rw [if_neg (by omega), if_pos rfl]
theorem RowAt.tail {b : Nat} {zs : List Int} {w : World} (h : RowAt b zs w) : BytesAt w (.slice (some ⟨b, 1, none⟩) 127 127) (zs.drop 1) := by
  have hl := h.len
  have hr : ∀ z ∈ zs, 0 ≤ z ∧ z ≤ 255 := by obtain ⟨_, _, _, hr, _⟩ := h.bytes; exact hr
  refine ⟨some ⟨b, 1, none⟩, 127, by simp [hl], fun z hz => hr z (List.mem_of_mem_drop hz), by simp [hl, maxLen], fun e => (by cases e), fun _ => ⟨b, 1, rfl, h.lt, fun k hk => ?_⟩⟩
  have hk' : k < 127 := by simp [hl] at hk; omega
  rw [h.cell (1 + k) (by omega), Nat.add_comm 1 k]
  simp [List.getD]


theorem Play.same {w : World} {nb N : Nat} {k writes fuse left : Int} {wr wr' : World} (h : Play w nb N k writes fuse left wr) (hb : Below wr.heap.size wr wr') : Play w nb N k writes fuse left wr' := by
  obtain ⟨mem, nw, h1, h2, h3⟩ := h.ex
  exact ⟨⟨mem, nw, h1, h2.keep (Apart.of_below (bs := []) hb) (by simp), h3.more hb⟩, h.w0, h.w1, h.f0, h.f1, h.l0, h.l1, h.fl⟩
theorem sys_dead' {w0 : World} {d g n : Nat} {mem : Nat → Int} {writes left : Int} {w : World} (h : Sys w0 d g n mem writes left w) (dead : Bool) (hd : (left == 0) = dead) : Calls Tryd.prog 16 #[ptr d] w fun e w' => e = .returned (.bool dead) ∧ w' = w := by
  rw [← hd]; exact sys_dead h
def firstLoop : Code → Option Code
  | .loop c => some c
  | .seq a b => match firstLoop a with
    | some c => some c
    | none => firstLoop b
  | .block _ c => firstLoop c
  | .scope c => firstLoop c
  | .cond _ a b => match firstLoop a with
    | some c => some c
    | none => firstLoop b
  | _ => none

/-- What holds at the head of a round. -/
def WI (wb : World) (nb N len vcap : Nat) (va : Option Addr) (x2 x3 x6 x20 x21 x22 x23 x24 x25 x26 x27 x28 x29 x30 x31 x32 x33 x34 x35 x36 x37 x38 x39 x40 x41 x42 x43 x44 x45 x46 x47 x48 x49 x50 x51 x52 x53 x54 x55 x56 x57 x58 x59 x60 x61 x230 x231 x232 x233 x234 x235 x236 x237 x238 x239 x240 x241 x242 x243 x244 x245 x246 x247 x248 x249 x250 x251 x252 x253 x254 x255 x256 : Value) (n : Nat) (a : Act) (w' : World) : Prop :=
  ∃ u4 u12 u13 u14 u15 u16 u17 u18 u19 u62 u63 u64 u65 u66 u67 u68 u69 u70 u71 u72 u73 u74 u75 u76 u77 u78 u79 u80 u81 u82 u83 u84 u85 u86 u87 u88 u89 u90 u91 u92 u93 u94 u95 u96 u97 u98 u99 u100 u101 u102 u103 u104 u105 u106 u107 u108 u109 u110 u111 u112 u113 u114 u115 u116 u117 u118 u119 u120 u121 u122 u123 u124 u125 u126 u127 u128 u129 u130 u131 u132 u133 u134 u135 u136 u137 u138 u139 u140 u141 u142 u143 u144 u145 u146 u147 u148 u149 u150 u151 u152 u153 u154 u155 u156 u157 u158 u159 u160 u161 u162 u163 u164 u165 u166 u167 u168 u169 u170 u171 u172 u173 u174 u175 u176 u177 u178 u179 u180 u181 u182 u183 u184 u185 u186 u187 u188 u189 u190 u191 u192 u193 u194 u195 u196 u197 u198 u199 u200 u201 u202 u203 u204 u205 u206 u207 u208 u209 u210 u211 u212 u213 u214 u215 u216 u217 u218 u219 u220 u221 u222 u223 u224 u225 u226 u227 u228 u229 : Value, ∃ k writes fuse left : Int, (0 ≤ k ∧ k ≤ 60 ∧ k ≤ (len : Int) ∧ n = 61 - k.toNat ∧ Play wb nb N k writes fuse left w') ∧ a = ⟨#[.int .i64 (N : Int), .slice (va) len vcap, x2, x3, u4, ptr (wb.heap.size + 1), x6, .slice (some ⟨nb, 0, none⟩) N N, .int .i64 (writes), .int .i64 (fuse), .bool (left == 0), .int .i64 (k), u12, u13, u14, u15, u16, u17, u18, u19, x20, x21, x22, x23, x24, x25, x26, x27, x28, x29, x30, x31, x32, x33, x34, x35, x36, x37, x38, x39, x40, x41, x42, x43, x44, x45, x46, x47, x48, x49, x50, x51, x52, x53, x54, x55, x56, x57, x58, x59, x60, x61, u62, u63, u64, u65, u66, u67, u68, u69, u70, u71, u72, u73, u74, u75, u76, u77, u78, u79, u80, u81, u82, u83, u84, u85, u86, u87, u88, u89, u90, u91, u92, u93, u94, u95, u96, u97, u98, u99, u100, u101, u102, u103, u104, u105, u106, u107, u108, u109, u110, u111, u112, u113, u114, u115, u116, u117, u118, u119, u120, u121, u122, u123, u124, u125, u126, u127, u128, u129, u130, u131, u132, u133, u134, u135, u136, u137, u138, u139, u140, u141, u142, u143, u144, u145, u146, u147, u148, u149, u150, u151, u152, u153, u154, u155, u156, u157, u158, u159, u160, u161, u162, u163, u164, u165, u166, u167, u168, u169, u170, u171, u172, u173, u174, u175, u176, u177, u178, u179, u180, u181, u182, u183, u184, u185, u186, u187, u188, u189, u190, u191, u192, u193, u194, u195, u196, u197, u198, u199, u200, u201, u202, u203, u204, u205, u206, u207, u208, u209, u210, u211, u212, u213, u214, u215, u216, u217, u218, u219, u220, u221, u222, u223, u224, u225, u226, u227, u228, u229, x230, x231, x232, x233, x234, x235, x236, x237, x238, x239, x240, x241, x242, x243, x244, x245, x246, x247, x248, x249, x250, x251, x252, x253, x254, x255, x256], []⟩
end Go.Proofs.YtahehgbibmmaeaaDoor
