/- A move onto what may not be replaced. -/
import Derived.Test.YtleafmdjhmnjmaaGreatDoorGFap
import Derived.Deep.RegionHeld
namespace Go.Proofs.YtleafmdjhmnjmaaGreatDoor
open Go.RowKit Go.Extern.Stop Go.Stop Go.Extern Go.Maps Go.Sort Go.Shelf
set_option maxRecDepth 1000000
set_option maxHeartbeats 2000000
structure MvC (nb b8 b9 b11 : Nat) (RY KY RI KX : Int) (va : Option Addr) (LL vc : Nat) (s : ByteArray) (db : Nat) (va8 : Option Addr) (vc8 : Nat) (t : ByteArray) (db2 : Nat) (w : World) : Prop where
  g : FnAt w nb RY KY
  x : FnAt w b9 RI KX
  s : SpAt w b8 (.slice va LL vc) s (ptr db)
  t : SpAt w b11 (.slice va8 LL vc8) t (ptr db2)
section
variable {fb rs hb : Nat} {E : TE} {w w' : World} {K : Nat -> Nat} {D : Nat -> List Int} {T : Nat -> List Rec} {f u lim : Nat}
structure ClashT (K : Nat -> Nat) (T : Nat -> List Rec) (tn : Nat) (a b : List UInt8) (l : List (List UInt8)) (s t : List UInt8) (p i0 j : Nat) (r ry : Rec) (kx ky : Nat) (lv : List (List Nat)) : Prop where
  la : a.length <= 2000
  lb : b.length <= 2000
  pa : splitB a = some (l ++ [s])
  pb : splitB b = some (l ++ [t])
  ne : a ≠ b
  out : withinB b a = false
  dir : dirT K T l = .ok p
  at_ : (T p)[i0]? = some r
  name : r.s = s
  aty : (T p)[j]? = some ry
  namey : ry.s = t
  file : K r.id = kx
  filey : K ry.id = ky
  lvok : LvOk K T tn r.id lv
  fit : l.length + 1 + lv.length <= 7
end
section
variable {fb rs hb : Nat} {E : TE} {w w' : World} {K : Nat -> Nat} {D : Nat -> List Int} {T : Nat -> List Rec} {f u lim : Nat}
end
section
variable {fb rs hb : Nat} {E : TE} {w w' : World} {K : Nat -> Nat} {D : Nat -> List Int} {T : Nat -> List Rec} {f u lim : Nat}
structure LoopT (K : Nat -> Nat) (T : Nat -> List Rec) (tn : Nat) (a b : List UInt8) (l l2 : List (List UInt8)) (s t : List UInt8) (p i : Nat) (r : Rec) (lv : List (List Nat)) : Prop where
  la : a.length <= 2000
  lb : b.length <= 2000
  pa : splitB a = some (l ++ [s])
  pb : splitB b = some (l2 ++ [t])
  ne : a ≠ b
  out : withinB b a = true
  dir : dirT K T l = .ok p
  at_ : (T p)[i]? = some r
  name : r.s = s
structure DeepT (K : Nat -> Nat) (T : Nat -> List Rec) (tn : Nat) (a b : List UInt8) (l l2 : List (List UInt8)) (s t : List UInt8) (p i : Nat) (r : Rec) (lv : List (List Nat)) : Prop where
  la : a.length <= 2000
  lb : b.length <= 2000
  pa : splitB a = some (l ++ [s])
  pb : splitB b = some (l2 ++ [t])
  ne : a ≠ b
  out : withinB b a = false
  dir : dirT K T l = .ok p
  at_ : (T p)[i]? = some r
  name : r.s = s
  lvok : LvOk K T tn r.id lv
  few : lv.length <= 200
  fit : 8 <= l2.length + 1 + lv.length
end
section
variable {rs fb hb xb N dd lim : Nat} {P P' : (Nat -> List Int) -> Nat -> Prop} {K : Nat -> Nat} {T : Nat -> List Rec} {w0 w w' : World}
theorem gr_mkdir (h : GrS rs fb hb xb N dd P K T lim w0 w) {path s : List UInt8} {l : List (List UInt8)} {p id : Nat} (hlen : path.length <= 2000) (hp : splitB path = some (l ++ [s])) (hd : dirT K T l = .ok p) (hno : lookT (T p) s = none) (hl : (T p).length < 120) (h1 : 1 <= id) (h2 : id <= N) (hfree : K id = 0) (hT0 : T id = []) (hlow : ∀ i, 1 <= i -> i < id -> K i ≠ 0) (hP : ∀ D f, P D f -> 2 + rs <= f) (hP' : ∀ D f f', P D f -> D id = [] -> f' + bkL ((T p).length + 1) = f + bkL (T p).length -> P' (upd D p (recsL (T p ++ [⟨s, id⟩]))) f') (hlim : lim <= 300000000) :
    Calls Tryz.prog 6 #[ptr fb, .string (mkB path)] w fun e w' => e = .returned .nilIface /\ GrS rs fb hb xb N dd P' (upd K id 2) (upd T p (T p ++ [⟨s, id⟩])) (lim + 1000) w0 w' := by
  refine fMkdir_ok (h.step (R := fun e _ => e = .returned .nilIface) (fun E D f hR hq hz => ?_))
  have hb := bkL_one (T p).length (by omega)
  have hg := grow_bk (T p).length (by omega)
  have h2f := hP D f hq
  have e0z : growb 0 ((0 : Nat) : Int) = 0 := by simp [growb, blk]
  have hD0 : D id = [] := hz.s.to.noBytes h1 (by rw [hR.tn]; exact h2) hfree
  refine (create_new hz hlen hp hd hno hl (Or.inr rfl) h1 (by rw [hR.tn]; exact h2) hfree (fun _ => hT0) hlow hg (by rw [e0z]; unfold mayB; simp; omega) hlim).mono ?_
  rintro e w' ⟨rfl, ⟨f', hf', hz'⟩, hT⟩
  exact ⟨rfl, ⟨_, f', hP' D f f' hq hD0 (by omega), hz'⟩, hT⟩
theorem gr_check (h : GrS rs fb hb xb N dd P K T lim w0 w) {rk : Nat -> Nat} (m : RankT K T N rk) (hdd : dd <= 500) (hlim : lim <= 300000000) :
    Calls Tryz.prog 14 #[ptr fb] w fun e w' => e = .returned .nilIface /\ GrS rs fb hb xb N dd P K T (lim + 1000) w0 w' := by
  refine h.step (R := fun e _ => e = .returned .nilIface) (fun E D f hR hx hz => ?_)
  have ht := hz.tree
  rw [hR.tn] at ht
  obtain ⟨lv, hS⟩ := sound_rank ht (by have := hz.pl.tn1; rw [hR.tn] at this; exact this) m
  refine (fCheck_ok hz (by rw [hR.tn]; exact hS) (by rw [hR.k]; exact hdd) hlim).mono ?_
  rintro e w' ⟨rfl, hz', hT⟩
  exact ⟨rfl, ⟨D, f, hx, hz'⟩, hT⟩
end
section
variable {rs fb hb xb N dd lim : Nat} {P P' : (Nat -> List Int) -> Nat -> Prop} {K : Nat -> Nat} {T : Nat -> List Rec} {w0 w w' : World}
theorem gr_remove (h : GrS rs fb hb xb N dd P K T lim w0 w) {path s : List UInt8} {l : List (List UInt8)} {p i id n : Nat} (hlen : path.length <= 2000) (hp : splitB path = some (l ++ [s])) (hd : dirT K T l = .ok p) (hi : (T p)[i]? = some ⟨s, id⟩) (hl : (T p).length <= 120) (hk : K id = 1 \/ (K id = 2 /\ id ≠ p /\ id ≠ 1)) (hn : ∀ D f, P D f -> blk ((D id).length : Int) = (n : Int) /\ (K id = 2 -> D id = [])) (hu : ∀ q, 1 <= q -> q <= N -> K q = 2 -> q ≠ id -> ∀ x ∈ upd T p (dropR (T p) i) q, x.id ≠ id) (hP' : ∀ D f f', P D f -> f' + bkL (dropR (T p) i).length = f + bkL (T p).length + n -> P' (upd (upd D p (recsL (dropR (T p) i))) id []) f') (hlim : lim <= 300000000) :
    Calls Tryz.prog 15 #[ptr fb, .string (mkB path)] w fun e w' => e = .returned .nilIface /\ GrS rs fb hb xb N dd P' (upd K id 0) (upd T p (dropR (T p) i)) (lim + 1000) w0 w' := by
  refine fRemove_ok (h.step (R := fun e _ => e = .returned .nilIface) (fun E D f hR hq hz => ?_))
  obtain ⟨n1, n2⟩ := hn D f hq
  have hu' : ∀ q, 1 <= q -> q <= E.tn -> K q = 2 -> q ≠ id -> ∀ x ∈ upd T p (dropR (T p) i) q, x.id ≠ id := by rw [hR.tn]; exact hu
  have kR : Calls Tryz.prog 32 #[ptr fb, .string (mkB path)] w fun e w' => e = .returned .nilIface /\ (∃ f', f' + bkL (dropR (T p) i).length = f + bkL (T p).length + n /\ Fsz fb rs hb E.rest (upd K id 0) (upd (upd D p (recsL (dropR (T p) i))) id []) (upd T p (dropR (T p) i)) f' (lim + 1000) w') /\ E.Turns fb w w' := by
    rcases hk with hk | ⟨hk, hip, hi1⟩
    · exact remove_file hz hR.no (r := ⟨s, id⟩) hlen hp hd hi rfl hk n1 hl hu' hlim
    · exact remove_dir hz hR.no (r := ⟨s, id⟩) hlen hp hd hi rfl hk hip hi1 (n2 hk) n1 hl hu' hlim
  refine kR.mono ?_
  rintro e w' ⟨rfl, ⟨f', hf', hz'⟩, hT⟩
  exact ⟨rfl, ⟨_, f', hP' D f f' hq hf', hz'⟩, hT⟩
theorem gr_room (h : GrS rs fb hb xb N dd P K T lim w0 w) (hlim : lim <= 300000000) :
    Calls Tryz.prog 10 #[ptr fb] w fun e w' => (∃ D f, P D f /\ e = .returned (.tuple #[rmV (f : Nat) (rs : Nat) (cntN K (N + 1) : Nat) (dd : Nat), .nilIface])) /\ GrS rs fb hb xb N dd P K T (lim + 1000) w0 w' := by
  refine h.step (R := fun e _ => ∃ D f, P D f /\ e = .returned (.tuple #[rmV (f : Nat) (rs : Nat) (cntN K (N + 1) : Nat) (dd : Nat), .nilIface])) (fun E D f hR hx hz => ?_)
  refine (fRoom_ok hz hlim).mono ?_
  rintro e w' ⟨he, hz', hT⟩
  rw [hR.tn, hR.k] at he
  exact ⟨⟨D, f, hx, he⟩, ⟨D, f, hx, hz'⟩, hT⟩
theorem gr_poor (h : GrS rs fb hb xb N dd P K T lim w0 w) {path s : List UInt8} {l : List (List UInt8)} {p id : Nat} {ba : Option Addr} {bc : Nat} {zs : List Int} (hz4 : zs.length <= 4000) (hlen : path.length <= 2000) (hp : splitB path = some (l ++ [s])) (hd : dirT K T l = .ok p) (hno : lookT (T p) s = none) (hl : (T p).length < 120) (h1 : 1 <= id) (h2 : id <= N) (hfree : K id = 0) (hmay : ∀ D f, P D f -> mayB (f : Int) (rs : Int) (((bkL ((T p).length + 1) - bkL (T p).length : Nat) : Int) + growb 0 (zs.length : Int)) false = false) :
    Calls Tryz.prog 8 #[ptr fb, .string (mkB path), .slice ba zs.length bc] w fun e w' => ∃ ev, e = .returned ev /\ ErN sPut (mkB path) 15 ev w' /\ GrS rs fb hb xb N dd P K T lim w0 w' :=
  h.told (fun E D f hR hq hz => fPut_err (put_poor hz hlen hp ⟨ba, bc, rfl⟩ hz4 false hd hno hl h1 (by rw [hR.tn]; exact h2) hfree (grow_bk (T p).length (by omega)) (hmay D f hq)))
end
def sKeep : ByteArray := ⟨#[107, 101, 101, 112]⟩
section
variable {fb rs hb : Nat} {E : TE} {w w' : World} {K : Nat -> Nat} {D : Nat -> List Int} {T : Nat -> List Rec} {f u lim : Nat}
theorem fKeep_ok {path : List UInt8} {ba : Option Addr} {bl bc : Nat} {Q : World -> Prop} (k : Calls Tryz.prog 28 #[ptr fb, .string (mkB path), .slice ba bl bc, .bool true] w fun e w' => e = .returned .nilIface /\ Q w') :
    Calls Tryz.prog 13 #[ptr fb, .string (mkB path), .slice ba bl bc] w fun e w' => e = .returned .nilIface /\ Q w' := by
  replace k := hidden k
  have kW := hidden (fun (wx : World) => wrap_nil sKeep (mkB path) wx)
  unfold sKeep at kW
  go_enter Tryz.func13, Tryz.ntmps13
  go_wp2_with fail
  refine (k.out).mono ?_
  rintro ev w1 ⟨rfl, hQ⟩
  replace hQ := hidden hQ
  go_wp2_with fail
  refine (kW.out _).mono ?_
  rintro ev w2 ⟨rfl, hw2⟩
  subst w2
  go_wp2
  go_ret
  exact ⟨rfl, hQ.out⟩
theorem fKeep_err {path : List UInt8} {ba : Option Addr} {bl bc : Nat} {m : Int} (k : Calls Tryz.prog 28 #[ptr fb, .string (mkB path), .slice ba bl bc, .bool true] w fun e w' => ∃ ev, e = .returned ev /\ Refused fb rs hb E K D T f lim m w ev w') :
    Calls Tryz.prog 13 #[ptr fb, .string (mkB path), .slice ba bl bc] w fun e w' => ∃ ev, e = .returned ev /\ Told11 fb rs hb E K D T f lim sKeep (mkB path) m w ev w' := by
  replace k := hidden k
  have kW := hidden (fun (u : TypeId) (v : Value) (wx : World) => wrap_some sKeep (mkB path) u v wx)
  have hsp : sKeep = ⟨#[107, 101, 101, 112]⟩ := rfl
  rw [hsp] at kW
  replace hsp := hidden hsp
  go_enter Tryz.func13, Tryz.ntmps13
  go_wp2_with fail
  refine (k.out).mono ?_
  rintro ev w1 ⟨er, rfl, ⟨ll, hc⟩, h2, h3⟩
  obtain ⟨ut, uv, rfl⟩ := Chain.held hc (Or.inr ⟨_, _, rfl⟩)
  have hE := hidden (Refused.wrapped (op := sKeep) (nm := mkB path) hc h2 h3)
  rw [hsp.out] at hE
  clear hc h2 h3
  go_wp2_with fail
  refine (kW.out _ _ _).mono ?_
  rintro ev w2 ⟨rfl, hw2⟩
  subst w2
  go_wp2
  go_ret
  rw [hsp.out]
  exact ⟨_, rfl, hE.out⟩
end
theorem bytesC_anyF {w : World} {a b : Nat} {v : Value} {zs : List Int} (h : BytesC a w v zs) (hb : ∀ j, w.cell? ⟨b, j, none⟩ = none) : BytesC b w v zs := by
  obtain ⟨c, cap, e, h1, h2, h3, h4, hc⟩ := h
  refine ⟨c, cap, e, h1, h2, h3, h4, fun hne => ?_⟩
  obtain ⟨x, off, ea, hx, -, hk⟩ := hc hne
  refine ⟨x, off, ea, hx, fun eb => ?_, hk⟩
  subst eb
  have := hk 0 (List.length_pos_iff.2 hne)
  rw [hb] at this
  cases this
section
variable {rs fb hb xb N dd lim : Nat} {P P' : (Nat -> List Int) -> Nat -> Prop} {K : Nat -> Nat} {T : Nat -> List Rec} {w0 w w' : World}
theorem GrS.treeF (h : GrS rs fb hb xb N dd P K T lim w0 w) : ∃ D f, P D f /\ TreeOk N K D T /\ fb < w.heap.size := by
  obtain ⟨⟨E, ⟨⟨D, f, hp, h0⟩, h1, h2, h3, h4, h5⟩, he⟩, hg⟩ := h
  rw [<- h4]
  exact ⟨D, f, hp, h0.tree, h0.at_.lt⟩
theorem gr_putE (h : GrS rs fb hb xb N dd P K T lim w0 w) {path s : List UInt8} {l : List (List UInt8)} {p id : Nat} {bv : Value} {zs : List Int} {a : Nat} (hbv : BytesC a w bv zs) (hz4 : zs.length <= 4000) (hlen : path.length <= 2000) (hp : splitB path = some (l ++ [s])) (hd : dirT K T l = .ok p) (hno : lookT (T p) s = none) (hl : (T p).length < 120) (h1 : 1 <= id) (h2 : id <= N) (hfree : K id = 0) (hlow : ∀ i, 1 <= i -> i < id -> K i ≠ 0) {bn : Nat} (hbn : growb 0 (zs.length : Int) = (bn : Int)) (hmay : ∀ D f, P D f -> mayB (f : Int) (rs : Int) (((bkL ((T p).length + 1) - bkL (T p).length : Nat) : Int) + (bn : Int)) false = true) (hP' : ∀ D f f', P D f -> D id = [] -> f' + bkL ((T p).length + 1) + bn = f + bkL (T p).length -> P' (upd (upd D p (recsL (T p ++ [⟨s, id⟩]))) id zs) f') (hlim : lim <= 300000000) :
    Calls Tryz.prog 8 #[ptr fb, .string (mkB path), bv] w fun e w' => e = .returned .nilIface /\ GrS rs fb hb xb N dd P' (upd K id 1) (upd T p (T p ++ [⟨s, id⟩])) (lim + 1000) w0 w' := by
  have hbv0 := hbv
  obtain ⟨ba, bc, rfl, -⟩ := hbv0
  refine fPut_ok (h.step (R := fun e _ => e = .returned .nilIface) (fun E D f hR hq hz => ?_))
  have hb := bkL_one (T p).length (by omega)
  have hg := grow_bk (T p).length (by omega)
  have hD0 : D id = [] := hz.s.to.noBytes h1 (by rw [hR.tn]; exact h2) hfree
  refine (put_new hz hlen hp (bytesC_anyF hbv (fun j => hz.s.to.mapNo j)) hz4 hd hno hl h1 (by rw [hR.tn]; exact h2) hfree hlow false hg hbn (hmay D f hq) hlim).mono ?_
  rintro e w' ⟨rfl, ⟨f', hf', hz'⟩, hT⟩
  exact ⟨rfl, ⟨_, f', hP' D f f' hq hD0 (by omega), hz'⟩, hT⟩
theorem gr_keepE (h : GrS rs fb hb xb N dd P K T lim w0 w) {path s : List UInt8} {l : List (List UInt8)} {p id : Nat} {bv : Value} {zs : List Int} {a : Nat} (hbv : BytesC a w bv zs) (hz4 : zs.length <= 4000) (hlen : path.length <= 2000) (hp : splitB path = some (l ++ [s])) (hd : dirT K T l = .ok p) (hno : lookT (T p) s = none) (hl : (T p).length < 120) (h1 : 1 <= id) (h2 : id <= N) (hfree : K id = 0) (hlow : ∀ i, 1 <= i -> i < id -> K i ≠ 0) {bn : Nat} (hbn : growb 0 (zs.length : Int) = (bn : Int)) (hmay : ∀ D f, P D f -> mayB (f : Int) (rs : Int) (((bkL ((T p).length + 1) - bkL (T p).length : Nat) : Int) + (bn : Int)) true = true) (hP' : ∀ D f f', P D f -> D id = [] -> f' + bkL ((T p).length + 1) + bn = f + bkL (T p).length -> P' (upd (upd D p (recsL (T p ++ [⟨s, id⟩]))) id zs) f') (hlim : lim <= 300000000) :
    Calls Tryz.prog 13 #[ptr fb, .string (mkB path), bv] w fun e w' => e = .returned .nilIface /\ GrS rs fb hb xb N dd P' (upd K id 1) (upd T p (T p ++ [⟨s, id⟩])) (lim + 1000) w0 w' := by
  have hbv0 := hbv
  obtain ⟨ba, bc, rfl, -⟩ := hbv0
  refine fKeep_ok (h.step (R := fun e _ => e = .returned .nilIface) (fun E D f hR hq hz => ?_))
  have hb := bkL_one (T p).length (by omega)
  have hg := grow_bk (T p).length (by omega)
  have hD0 : D id = [] := hz.s.to.noBytes h1 (by rw [hR.tn]; exact h2) hfree
  refine (put_new hz hlen hp (bytesC_anyF hbv (fun j => hz.s.to.mapNo j)) hz4 hd hno hl h1 (by rw [hR.tn]; exact h2) hfree hlow true hg hbn (hmay D f hq) hlim).mono ?_
  rintro e w' ⟨rfl, ⟨f', hf', hz'⟩, hT⟩
  exact ⟨rfl, ⟨_, f', hP' D f f' hq hD0 (by omega), hz'⟩, hT⟩
theorem gr_keepP (h : GrS rs fb hb xb N dd P K T lim w0 w) {path s : List UInt8} {l : List (List UInt8)} {p id : Nat} {ba : Option Addr} {bc : Nat} {zs : List Int} (hz4 : zs.length <= 4000) (hlen : path.length <= 2000) (hp : splitB path = some (l ++ [s])) (hd : dirT K T l = .ok p) (hno : lookT (T p) s = none) (hl : (T p).length < 120) (h1 : 1 <= id) (h2 : id <= N) (hfree : K id = 0) (hmay : ∀ D f, P D f -> mayB (f : Int) (rs : Int) (((bkL ((T p).length + 1) - bkL (T p).length : Nat) : Int) + growb 0 (zs.length : Int)) true = false) :
    Calls Tryz.prog 13 #[ptr fb, .string (mkB path), .slice ba zs.length bc] w fun e w' => ∃ ev, e = .returned ev /\ ErN sKeep (mkB path) 15 ev w' /\ GrS rs fb hb xb N dd P K T lim w0 w' :=
  h.told (fun E D f hR hq hz => fKeep_err (put_poor hz hlen hp ⟨ba, bc, rfl⟩ hz4 true hd hno hl h1 (by rw [hR.tn]; exact h2) hfree (grow_bk (T p).length (by omega)) (hmay D f hq)))
end
structure FiT (n i k j : Nat) (K : Nat -> Nat) (T : Nat -> List Rec) : Prop where
  k1 : K 1 = 2
  k2 : K 2 = 2
  dirs : ∀ q, 1 <= q -> K q = 2 -> q = 1 \/ q = 2
  kf : ∀ x, i <= x -> x < n -> K (x + 3) = 1
  kk : ∀ x, j <= x -> x < k -> K (n + 3 + x) = 1
  free : ∀ x, n + 3 + k <= x -> K x = 0 /\ T x = []
  m1 : ∀ r, r ∈ T 1 <-> r = ⟨[100], 2⟩ \/ ∃ x, j <= x /\ x < k /\ r = ⟨nmP 107 x, n + 3 + x⟩
  l1 : (T 1).length = 1 + (k - j)
  m2 : ∀ r, r ∈ T 2 <-> ∃ x, i <= x /\ x < n /\ r = ⟨nmP 102 x, x + 3⟩
  l2 : (T 2).length = n - i
section
variable {n i k j a : Nat} {K : Nat -> Nat} {T : Nat -> List Rec}
theorem FiT.low (h : FiT n 0 k 0 K T) {x : Nat} (x1 : 1 <= x) (x2 : x < n + 3 + k) : K x ≠ 0 := by
  by_cases e1 : x = 1
  · rw [e1, h.k1]; decide
  · by_cases e2 : x = 2
    · rw [e2, h.k2]; decide
    · by_cases e3 : x < n + 3
      · have := h.kf (x - 3) (by omega) (by omega)
        rw [show x - 3 + 3 = x by omega] at this
        rw [this]; decide
      · have := h.kk (x - (n + 3)) (by omega) (by omega)
        rw [show n + 3 + (x - (n + 3)) = x by omega] at this
        rw [this]; decide
theorem FiT.put (h : FiT n 0 0 0 K T) : FiT (n + 1) 0 0 0 (upd K (n + 3) 1) (upd T 2 (T 2 ++ [⟨nmP 102 n, n + 3⟩])) := by
  refine ⟨by rw [upd_other _ _ (by omega)]; exact h.k1, by rw [upd_other _ _ (by omega)]; exact h.k2, fun q q1 hq => ?_, fun x _ hx => ?_, fun x _ hx => absurd hx (by omega), fun x hx => ?_, fun r => ?_, by rw [upd_other _ _ (by omega)]; exact h.l1, fun r => ?_, by rw [upd_same, List.length_append, h.l2]; simp⟩
  · by_cases e : q = n + 3
    · rw [e, upd_same] at hq; cases hq
    · rw [upd_other _ _ e] at hq; exact h.dirs q q1 hq
  · by_cases e : x = n
    · rw [e, upd_same]
    · rw [upd_other _ _ (by omega)]; exact h.kf x (by omega) (by omega)
  · rw [upd_other _ _ (by omega), upd_other _ _ (by omega)]
    exact h.free x (by omega)
  · rw [upd_other _ _ (by omega), h.m1]
    constructor
    · rintro (e | ⟨x, -, h2, -⟩)
      · exact Or.inl e
      · omega
    · rintro (e | ⟨x, -, h2, -⟩)
      · exact Or.inl e
      · omega
  · rw [upd_same, List.mem_append, h.m2, List.mem_singleton]
    constructor
    · rintro (⟨x, h1, h2, e⟩ | e)
      · exact ⟨x, h1, by omega, e⟩
      · exact ⟨n, by omega, by omega, e⟩
    · rintro ⟨x, h1, h2, e⟩
      by_cases ex : x = n
      · exact Or.inr (by rw [e, ex])
      · exact Or.inl ⟨x, h1, by omega, e⟩
theorem FiT.keep (h : FiT n 0 k 0 K T) : FiT n 0 (k + 1) 0 (upd K (n + 3 + k) 1) (upd T 1 (T 1 ++ [⟨nmP 107 k, n + 3 + k⟩])) := by
  refine ⟨by rw [upd_other _ _ (by omega)]; exact h.k1, by rw [upd_other _ _ (by omega)]; exact h.k2, fun q q1 hq => ?_, fun x _ hx => ?_, fun x _ hx => ?_, fun x hx => ?_, fun r => ?_, by rw [upd_same, List.length_append, h.l1]; simp; omega, fun r => ?_, by rw [upd_other _ _ (by omega)]; exact h.l2⟩
  · by_cases e : q = n + 3 + k
    · rw [e, upd_same] at hq; cases hq
    · rw [upd_other _ _ e] at hq; exact h.dirs q q1 hq
  · rw [upd_other _ _ (by omega)]; exact h.kf x (by omega) hx
  · by_cases e : x = k
    · rw [e, upd_same]
    · rw [upd_other _ _ (by omega)]; exact h.kk x (by omega) (by omega)
  · rw [upd_other _ _ (by omega), upd_other _ _ (by omega)]
    exact h.free x (by omega)
  · rw [upd_same, List.mem_append, h.m1, List.mem_singleton]
    constructor
    · rintro ((e | ⟨x, h1, h2, e⟩) | e)
      · exact Or.inl e
      · exact Or.inr ⟨x, h1, by omega, e⟩
      · exact Or.inr ⟨k, by omega, by omega, e⟩
    · rintro (e | ⟨x, h1, h2, e⟩)
      · exact Or.inl (Or.inl e)
      · by_cases ex : x = k
        · exact Or.inr (by rw [e, ex])
        · exact Or.inl (Or.inr ⟨x, h1, by omega, e⟩)
  · rw [upd_other _ _ (by omega)]; exact h.m2 r
theorem FiT.rmf (h : FiT n i k 0 K T) (hi : i < n) (hn : n <= 100) (ha : (T 2)[a]? = some ⟨nmP 102 i, i + 3⟩) (hnd : ((T 2).map Rec.s).Nodup) : FiT n (i + 1) k 0 (upd K (i + 3) 0) (upd T 2 (dropR (T 2) a)) := by
  have hal := (List.getElem?_eq_some_iff.1 ha).1
  refine ⟨by rw [upd_other _ _ (by omega)]; exact h.k1, by rw [upd_other _ _ (by omega)]; exact h.k2, fun q q1 hq => ?_, fun x h1 hx => ?_, fun x _ hx => ?_, fun x hx => ?_, fun r => ?_, by rw [upd_other _ _ (by omega)]; exact h.l1, fun r => ?_, by rw [upd_same, dropR_len hal, h.l2]; omega⟩
  · by_cases e : q = i + 3
    · rw [e, upd_same] at hq; cases hq
    · rw [upd_other _ _ e] at hq; exact h.dirs q q1 hq
  · rw [upd_other _ _ (by omega)]; exact h.kf x (by omega) hx
  · rw [upd_other _ _ (by omega)]; exact h.kk x (by omega) hx
  · rw [upd_other _ _ (by omega), upd_other _ _ (by omega)]
    exact h.free x (by omega)
  · rw [upd_other _ _ (by omega)]; exact h.m1 r
  · rw [upd_same, mem_dropR hnd ha, h.m2]
    constructor
    · rintro ⟨⟨x, h1, h2, e⟩, hne⟩
      have : x ≠ i := fun ex => hne (by rw [e, ex])
      exact ⟨x, by omega, h2, e⟩
    · rintro ⟨x, h1, h2, e⟩
      refine ⟨⟨x, by omega, h2, e⟩, fun es => ?_⟩
      rw [e] at es
      have := nm_inj (c := 102) (i := x) (j := i) (by omega) (by omega) es
      omega
theorem FiT.rmk (h : FiT n n k j K T) (hj : j < k) (hk : k <= 100) (ha : (T 1)[a]? = some ⟨nmP 107 j, n + 3 + j⟩) (hnd : ((T 1).map Rec.s).Nodup) : FiT n n k (j + 1) (upd K (n + 3 + j) 0) (upd T 1 (dropR (T 1) a)) := by
  have hal := (List.getElem?_eq_some_iff.1 ha).1
  refine ⟨by rw [upd_other _ _ (by omega)]; exact h.k1, by rw [upd_other _ _ (by omega)]; exact h.k2, fun q q1 hq => ?_, fun x h1 hx => absurd hx (by omega), fun x _ hx => ?_, fun x hx => ?_, fun r => ?_, by rw [upd_same, dropR_len hal, h.l1]; omega, fun r => ?_, by rw [upd_other _ _ (by omega)]; exact h.l2⟩
  · by_cases e : q = n + 3 + j
    · rw [e, upd_same] at hq; cases hq
    · rw [upd_other _ _ e] at hq; exact h.dirs q q1 hq
  · rw [upd_other _ _ (by omega)]; exact h.kk x (by omega) hx
  · rw [upd_other _ _ (by omega), upd_other _ _ (by omega)]
    exact h.free x (by omega)
  · rw [upd_same, mem_dropR hnd ha, h.m1]
    constructor
    · rintro ⟨e | ⟨x, h1, h2, e⟩, hne⟩
      · exact Or.inl e
      · have : x ≠ j := fun ex => hne (by rw [e, ex])
        exact Or.inr ⟨x, by omega, h2, e⟩
    · rintro (e | ⟨x, h1, h2, e⟩)
      · exact ⟨Or.inl e, fun es => by rw [e] at es; exact absurd (List.cons.inj es).1 (by decide)⟩
      · refine ⟨Or.inr ⟨x, by omega, h2, e⟩, fun es => ?_⟩
        rw [e] at es
        have := nm_inj (c := 107) (i := x) (j := j) (by omega) (by omega) es
        omega
  · rw [upd_other _ _ (by omega)]; exact h.m2 r
theorem FiT.lookd (h : FiT n i k j K T) : lookT (T 1) [100] = some ⟨[100], 2⟩ := by
  obtain ⟨q, hq, -⟩ := look_has (L := T 1) (s := [100]) ⟨⟨[100], 2⟩, (h.m1 _).2 (Or.inl rfl), rfl⟩
  obtain ⟨e, a, ha⟩ := lookT_some hq
  rcases (h.m1 q).1 (List.mem_of_getElem? ha) with e' | ⟨x, -, -, e'⟩
  · rw [hq, e']
  · rw [e'] at e
    exact absurd (List.cons.inj e).1 (by decide)
theorem FiT.dird (h : FiT n i k j K T) : dirT K T [[100]] = .ok 2 := by
  have hw : walkT K T 1 [[100]] = .ok 2 := by
    unfold walkT
    rw [if_pos h.k1, h.lookd]
    rfl
  unfold dirT
  rw [hw]
  exact if_pos h.k2
theorem FiT.dir1 (h : FiT n i k j K T) : dirT K T [] = .ok 1 := if_pos h.k1
theorem FiT.no2 (h : FiT n i k j K T) (hn : n <= 100) : lookT (T 2) (nmP 102 n) = none := lookN fun r hr e => by
  obtain ⟨x, -, hx, rfl⟩ := (h.m2 r).1 hr
  have := nm_inj (c := 102) (i := x) (j := n) (by omega) (by omega) e
  omega
theorem FiT.no1 (h : FiT n i k j K T) (hk : k <= 100) : lookT (T 1) (nmP 107 k) = none := lookN fun r hr e => by
  rcases (h.m1 r).1 hr with rfl | ⟨x, -, hx, rfl⟩
  · exact absurd (List.cons.inj e).1 (by decide)
  · have := nm_inj (c := 107) (i := x) (j := k) (by omega) (by omega) e
    omega
theorem ids_nodup {L : List Rec} (h : (L.map Rec.s).Nodup) (hi : ∀ a ∈ L, ∀ b ∈ L, a.id = b.id -> a.s = b.s) : (L.map Rec.id).Nodup := List.pairwise_map.2 ((List.pairwise_map.1 h).imp_of_mem fun {a b} ha hb hne e => hne (hi a ha b hb e))
def rkF (n x : Nat) : Nat := if x = 1 then 0 else if x = 2 then 1 else if x < n + 3 then 2 else 1
theorem FiT.rank (h : FiT n 0 k 0 K T) (_hk : n + 2 + k <= 100) (hnd1 : ((T 1).map Rec.s).Nodup) (hnd2 : ((T 2).map Rec.s).Nodup) : RankT K T 100 (rkF n) := by
  have r1 : rkF n 1 = 0 := rfl
  have r2 : rkF n 2 = 1 := rfl
  have r3 : ∀ x, x < n -> rkF n (x + 3) = 2 := fun x hx => by unfold rkF; rw [if_neg (by omega), if_neg (by omega), if_pos (by omega)]
  have r4 : ∀ x, rkF n (n + 3 + x) = 1 := fun x => by unfold rkF; rw [if_neg (by omega), if_neg (by omega), if_neg (by omega)]
  refine ⟨r1, fun q q1 q2 hq r hr => ?_, fun q _ _ _ => ?_, fun q q1 q2 hq => ?_, fun q q' q1 q2 hq q1' q2' hq' r hr r' hr' e => ?_, fun x x1 x2 hx hne => ?_⟩
  · rcases h.dirs q q1 hq with rfl | rfl
    · rcases (h.m1 r).1 hr with rfl | ⟨x, -, hx, rfl⟩
      · exact r2
      · exact r4 x
    · obtain ⟨x, -, hx, rfl⟩ := (h.m2 r).1 hr
      exact r3 x hx
  · unfold rkF
    split
    · omega
    · split
      · omega
      · split <;> omega
  · rcases h.dirs q q1 hq with rfl | rfl
    · refine ids_nodup hnd1 fun a ha b hb e => ?_
      rcases (h.m1 a).1 ha with rfl | ⟨x, -, hx, rfl⟩ <;> rcases (h.m1 b).1 hb with rfl | ⟨y, -, hy, rfl⟩
      · rfl
      · have e' : 2 = n + 3 + y := e
        omega
      · have e' : n + 3 + x = 2 := e
        omega
      · have e' : n + 3 + x = n + 3 + y := e
        rw [show x = y by omega]
    · refine ids_nodup hnd2 fun a ha b hb e => ?_
      obtain ⟨x, -, hx, rfl⟩ := (h.m2 a).1 ha
      obtain ⟨y, -, hy, rfl⟩ := (h.m2 b).1 hb
      have e' : x + 3 = y + 3 := e
      rw [show x = y by omega]
  · rcases h.dirs q q1 hq with rfl | rfl <;> rcases h.dirs q' q1' hq' with rfl | rfl
    · rfl
    · obtain ⟨y, -, hy, rfl⟩ := (h.m2 r').1 hr'
      rcases (h.m1 r).1 hr with rfl | ⟨x, -, hx, rfl⟩
      · have e' : 2 = y + 3 := e
        omega
      · have e' : n + 3 + x = y + 3 := e
        omega
    · obtain ⟨y, -, hy, rfl⟩ := (h.m2 r).1 hr
      rcases (h.m1 r').1 hr' with rfl | ⟨x, -, hx, rfl⟩
      · have e' : y + 3 = 2 := e
        omega
      · have e' : y + 3 = n + 3 + x := e
        omega
    · rfl
  · by_cases e2 : x = 2
    · exact ⟨1, by omega, by omega, h.k1, ⟨[100], 2⟩, (h.m1 _).2 (Or.inl rfl), e2.symm⟩
    · by_cases e3 : x < n + 3
      · exact ⟨2, by omega, by omega, h.k2, ⟨nmP 102 (x - 3), x - 3 + 3⟩, (h.m2 _).2 ⟨x - 3, by omega, by omega, rfl⟩, by show x - 3 + 3 = x; omega⟩
      · have hlt : x < n + 3 + k := by
          rcases Nat.lt_or_ge x (n + 3 + k) with h' | h'
          · exact h'
          · exact absurd (h.free x h').1 hx
        exact ⟨1, by omega, by omega, h.k1, ⟨nmP 107 (x - (n + 3)), n + 3 + (x - (n + 3))⟩, (h.m1 _).2 (Or.inr ⟨x - (n + 3), by omega, by omega, rfl⟩), by show n + 3 + (x - (n + 3)) = x; omega⟩
end
theorem cntN_low {K : Nat -> Nat} {m : Nat} (h : ∀ x, 1 <= x -> x <= m -> K x ≠ 0) : ∀ j, cntN K j + min j (m + 1) <= j
  | 0 => by unfold cntN; omega
  | j + 1 => by
    have := cntN_low h j
    unfold cntN
    split
    · rename_i hc
      have : m < j := by
        rcases Nat.lt_or_ge m j with h' | h'
        · exact h'
        · exact absurd hc.2 (h j hc.1 h')
      omega
    · omega
def flP (n i k j bn : Nat) (L : List Rec) (D : Nat -> List Int) (f : Nat) : Prop := f + bkL (1 + (k - j)) + bkL (n - i) + (n - i) * bn + (k - j) = 203 /\ D 2 = recsL L /\ (∀ x, i <= x -> x < n -> blk ((D (x + 3)).length : Int) = (bn : Int)) /\ ∀ x, j <= x -> x < k -> blk ((D (n + 3 + x)).length : Int) = 1
theorem zeros_c (m N : Nat) (hN : N <= 4000) (w : World) (hm : m < w.heap.size) : BytesC m (w.alloc (.cells (Array.replicate N (.int .u8 0)) 5)) (.slice (some ⟨w.heap.size, 0, none⟩) N N) (List.replicate N 0) := by
  have h := (ownB_zero w w.heap.size (Nat.le_refl _) N (by omega)).toV.toC hm
  exact h
def FlS (rs fb hb xb bn n i k j lim : Nat) (w0 w : World) : Prop := ∃ K T, FiT n i k j K T /\ GrS rs fb hb xb 100 203 (flP n i k j bn (T 2)) K T lim w0 w
def flF (bn n i k j f : Nat) : Prop := f + bkL (1 + (k - j)) + bkL (n - i) + (n - i) * bn + (k - j) = 203
theorem flsplit (n : Nat) (hn : n < 128) : splitB ([47, 100] ++ 47 :: nmP 102 n) = some ([[100]] ++ [nmP 102 n]) := by
  have hok : okB [100] = true := by decide
  have := split_join (l := [[100], nmP 102 n]) (by simp [mayP, hok, (ok_fin ⟨n, hn⟩).2.1])
  simpa [joinB, flatB] using this
theorem fksplit (k : Nat) (hk : k < 128) : splitB (47 :: nmP 107 k) = some ([] ++ [nmP 107 k]) := split_one (ok_fin ⟨k, hk⟩).2.2
theorem nm_lenF (c : UInt8) (n : Nat) (hn : n < 128) : (nmP c n).length <= 30 := by
  have := nm_size (i := n) hn
  have e : (itoaB (n : Int)).size = (Lib.itoa (n : Int)).length := by simp [ByteArray.size]
  show (Lib.itoa (n : Int)).length + 1 <= 30
  omega
section
variable {rs fb hb xb bn n i k j lim : Nat} {w0 w w' : World}
theorem FlS.x1 (h : FlS rs fb hb xb bn n i k j lim w0 w) : w.cell? ⟨xb, 1, none⟩ = some (ptr fb) := by
  obtain ⟨K, T, -, h2⟩ := h
  exact h2.x1
theorem FlS.below (h : FlS rs fb hb xb bn n i k j lim w0 w) (hB : Below w.heap.size w w') : FlS rs fb hb xb bn n i k j lim w0 w' := by
  obtain ⟨K, T, h1, h2⟩ := h
  exact ⟨K, T, h1, h2.below hB⟩
theorem FlS.up {lim' : Nat} (h : FlS rs fb hb xb bn n i k j lim w0 w) (hl : lim <= lim') : FlS rs fb hb xb bn n i k j lim' w0 w := by
  obtain ⟨K, T, h1, h2⟩ := h
  exact ⟨K, T, h1, h2.up hl⟩
theorem FlS.gt (h : FlS rs fb hb xb bn n i k j lim w0 w) : GT w := by
  obtain ⟨K, T, h1, h2⟩ := h
  exact h2.gt
theorem FlS.fb_lt (h : FlS rs fb hb xb bn n i k j lim w0 w) : fb < w.heap.size := by
  obtain ⟨K, T, h1, h2⟩ := h
  obtain ⟨D, f, -, -, h3⟩ := h2.treeF
  exact h3
theorem fl_new {E : TE} (hN : New11 400 100 rs 203 w0 E fb hb xb w) (hg : GT w0) : GrS rs fb hb xb 100 203 (fun _ f => f = 203) rootK (fun _ => []) 6000 w0 w := gr_new hN hg rfl
theorem bk_one : bkL 1 = 1 := by decide
theorem fl_mkdir (h : GrS rs fb hb xb 100 203 (fun _ f => f = 203) rootK (fun _ => []) lim w0 w) (hrs : rs <= 8) (hlim : lim <= 300000000) :
    Calls Tryz.prog 6 #[ptr fb, .string ⟨#[47, 100]⟩] w fun e w' => e = .returned .nilIface /\ FlS rs fb hb xb bn 0 0 0 0 (lim + 1000) w0 w' := by
  refine (gr_mkdir h (path := [47, 100]) (s := [100]) (l := []) (p := 1) (id := 2) (P' := flP 0 0 0 0 bn []) (by decide) (by decide) (by rfl) (by rfl) (by simp) (by omega) (by omega) (by rfl) rfl (fun i a b => by have e : i = 1 := (by omega); rw [e]; decide) (fun D f hf => by omega) (fun D f f' hf hD e => ?_) hlim).mono ?_
  · have b1 := bk_one
    have b0 : bkL 0 = 0 := by decide
    simp only [List.length_nil, Nat.zero_add] at e
    refine ⟨?_, ?_, fun x _ hx => absurd hx (by omega), fun x _ hx => absurd hx (by omega)⟩
    · show f' + bkL 1 + bkL 0 + 0 * bn + 0 = 203
      omega
    · rw [upd_other _ _ (by omega)]
      exact hD
  · rintro e w' ⟨rfl, hS⟩
    have hT2 : (upd (fun _ => []) 1 ([] ++ [(⟨[100], 2⟩ : Rec)]) : Nat -> List Rec) 2 = [] := rfl
    refine ⟨rfl, upd rootK 2 2, upd (fun _ => []) 1 ([] ++ [(⟨[100], 2⟩ : Rec)]), ?_, by rw [hT2]; exact hS⟩
    refine ⟨by rfl, by rfl, fun q q1 hq => ?_, fun x _ hx => absurd hx (by omega), fun x _ hx => absurd hx (by omega), fun x hx => ?_, fun r => ?_, by rfl, fun r => ?_, by rfl⟩
    · by_cases e1 : q = 2
      · exact Or.inr e1
      · by_cases e2 : q = 1
        · exact Or.inl e2
        · unfold rootK at hq
          rw [upd_other _ _ e1, upd_other _ _ e2] at hq
          cases hq
    · unfold rootK
      rw [upd_other _ _ (by omega), upd_other _ _ (by omega), upd_other _ _ (by omega)]
      exact ⟨rfl, rfl⟩
    · rw [upd_same]
      simp
    · rw [upd_other _ _ (by omega)]
      simp
theorem fl_put (h : FlS rs fb hb xb bn n 0 0 0 lim w0 w) (hn : n < 90) {a : Nat} {bv : Value} {zs : List Int} (hbv : BytesC a w bv zs) (hz4 : zs.length <= 4000) (hbn : blk (zs.length : Int) = (bn : Int)) (hmay : ∀ f, flF bn n 0 0 0 f -> rs + (bkL (n + 1) - bkL n) + bn <= f) (hlim : lim <= 300000000) :
    Calls Tryz.prog 8 #[ptr fb, .string (mkB ([47, 100] ++ 47 :: nmP 102 n)), bv] w fun e w' => e = .returned .nilIface /\ FlS rs fb hb xb bn (n + 1) 0 0 0 (lim + 1000) w0 w' := by
  obtain ⟨K, T, hF, hS⟩ := h
  have hl2 : (T 2).length = n := hF.l2
  have hnl := nm_lenF 102 n (by omega)
  have hb1 := bkL_one n (by omega)
  refine (gr_putE hS (s := nmP 102 n) (l := [[100]]) (p := 2) (id := n + 3) (P' := flP (n + 1) 0 0 0 bn (T 2 ++ [⟨nmP 102 n, n + 3⟩])) hbv hz4 (by rw [List.length_append, List.length_cons]; simp; omega) (flsplit n (by omega)) hF.dird (hF.no2 (by omega)) (by rw [hl2]; omega) (by omega) (by omega) (hF.free _ (by omega)).1 (fun x x1 x2 => hF.low x1 (by omega)) (bn := bn) (by have b0 : blk 0 = 0 := rfl; unfold growb; rw [b0, hbn]; omega) (fun D f hq => ?_) (fun D f f' hq hD e => ?_) hlim).mono ?_
  · have := hmay f hq.1
    rw [hl2]
    unfold mayB
    simp
    omega
  · rw [hl2] at e
    have h1 : f + bkL (1 + (0 - 0)) + bkL (n - 0) + (n - 0) * bn + (0 - 0) = 203 := hq.1
    refine ⟨?_, ?_, fun x _ hx => ?_, fun x _ hx => absurd hx (by omega)⟩
    · show f' + bkL (1 + (0 - 0)) + bkL (n + 1 - 0) + (n + 1 - 0) * bn + (0 - 0) = 203
      rw [Nat.sub_zero] at h1 ⊢
      rw [Nat.sub_zero] at h1 ⊢
      rw [Nat.succ_mul]
      omega
    · rw [upd_other _ _ (by omega), upd_same]
    · by_cases ex : x = n
      · rw [ex, upd_same]; exact hbn
      · rw [upd_other _ _ (by omega), upd_other _ _ (by omega)]
        exact hq.2.2.1 x (by omega) (by omega)
  · rintro e w' ⟨rfl, hS'⟩
    refine ⟨rfl, _, _, hF.put, ?_⟩
    rw [upd_same]
    exact hS'
theorem fl_full (h : FlS rs fb hb xb bn n 0 0 0 lim w0 w) (hn : n < 90) {ba : Option Addr} {bc : Nat} {zs : List Int} (hz4 : zs.length <= 4000) (hbn : blk (zs.length : Int) = (bn : Int)) (hb1 : 1 <= bn) (hmay : ∀ f, flF bn n 0 0 0 f -> f < rs + (bkL (n + 1) - bkL n) + bn) :
    Calls Tryz.prog 8 #[ptr fb, .string (mkB ([47, 100] ++ 47 :: nmP 102 n)), .slice ba zs.length bc] w fun e w' => ∃ ev, e = .returned ev /\ ErN sPut (mkB ([47, 100] ++ 47 :: nmP 102 n)) 15 ev w' /\ FlS rs fb hb xb bn n 0 0 0 lim w0 w' := by
  obtain ⟨K, T, hF, hS⟩ := h
  have hl2 : (T 2).length = n := hF.l2
  have hnl := nm_lenF 102 n (by omega)
  refine (gr_poor hS (s := nmP 102 n) (l := [[100]]) (p := 2) (id := n + 3) hz4 (by rw [List.length_append, List.length_cons]; simp; omega) (flsplit n (by omega)) hF.dird (hF.no2 (by omega)) (by rw [hl2]; omega) (by omega) (by omega) (hF.free _ (by omega)).1 (fun D f hq => ?_)).mono ?_
  · have := hmay f hq.1
    have e0 : growb 0 (zs.length : Int) = (bn : Int) := by have b0 : blk 0 = 0 := rfl; unfold growb; rw [b0, hbn]; omega
    rw [hl2, e0]
    unfold mayB
    simp
    omega
  · rintro e w' ⟨ev, rfl, he, hS'⟩
    exact ⟨ev, rfl, he, K, T, hF, hS'⟩
theorem fl_keep (h : FlS rs fb hb xb bn n 0 k 0 lim w0 w) (hn : n <= 90) (hk : k < 8) {a : Nat} {bv : Value} (hbv : BytesC a w bv [120]) (hmay : ∀ f, flF bn n 0 k 0 f -> (bkL (1 + k + 1) - bkL (1 + k)) + 1 <= f) (hlim : lim <= 300000000) :
    Calls Tryz.prog 13 #[ptr fb, .string (mkB (47 :: nmP 107 k)), bv] w fun e w' => e = .returned .nilIface /\ FlS rs fb hb xb bn n 0 (k + 1) 0 (lim + 1000) w0 w' := by
  obtain ⟨K, T, hF, hS⟩ := h
  have hl1 : (T 1).length = 1 + k := hF.l1
  have hnl := nm_lenF 107 k (by omega)
  have hb1 := bkL_one (1 + k) (by omega)
  refine (gr_keepE hS (s := nmP 107 k) (l := []) (p := 1) (id := n + 3 + k) (P' := flP n 0 (k + 1) 0 bn (T 2)) hbv (by simp) (by rw [List.length_cons]; omega) (fksplit k (by omega)) hF.dir1 (hF.no1 (by omega)) (by rw [hl1]; omega) (by omega) (by omega) (hF.free _ (by omega)).1 (fun x x1 x2 => hF.low x1 (by omega)) (bn := 1) (by rfl) (fun D f hq => ?_) (fun D f f' hq hD e => ?_) hlim).mono ?_
  · have := hmay f hq.1
    rw [hl1]
    unfold mayB
    simp
    omega
  · rw [hl1] at e
    have h1 : f + bkL (1 + (k - 0)) + bkL (n - 0) + (n - 0) * bn + (k - 0) = 203 := hq.1
    refine ⟨?_, ?_, fun x _ hx => ?_, fun x _ hx => ?_⟩
    · show f' + bkL (1 + (k + 1 - 0)) + bkL (n - 0) + (n - 0) * bn + (k + 1 - 0) = 203
      have e2 : 1 + (k + 1 - 0) = 1 + k + 1 := by omega
      have e3 : 1 + (k - 0) = 1 + k := by omega
      rw [e2]
      rw [e3] at h1
      omega
    · rw [upd_other _ _ (by omega), upd_other _ _ (by omega)]
      exact hq.2.1
    · rw [upd_other _ _ (by omega), upd_other _ _ (by omega)]
      exact hq.2.2.1 x (by omega) hx
    · by_cases ex : x = k
      · rw [ex, upd_same]; rfl
      · rw [upd_other _ _ (by omega), upd_other _ _ (by omega)]
        exact hq.2.2.2 x (by omega) (by omega)
  · rintro e w' ⟨rfl, hS'⟩
    refine ⟨rfl, _, _, hF.keep, ?_⟩
    rw [upd_other _ _ (by omega)]
    exact hS'
theorem fl_keepNo (h : FlS rs fb hb xb bn n 0 k 0 lim w0 w) (hn : n <= 90) (hk : k < 8) {ba : Option Addr} {bc : Nat} (hmay : ∀ f, flF bn n 0 k 0 f -> f < (bkL (1 + k + 1) - bkL (1 + k)) + 1) :
    Calls Tryz.prog 13 #[ptr fb, .string (mkB (47 :: nmP 107 k)), .slice ba 1 bc] w fun e w' => ∃ ev, e = .returned ev /\ (∃ b, ev = flt b) /\ FlS rs fb hb xb bn n 0 k 0 lim w0 w' := by
  obtain ⟨K, T, hF, hS⟩ := h
  have hl1 : (T 1).length = 1 + k := hF.l1
  have hnl := nm_lenF 107 k (by omega)
  refine (gr_keepP hS (zs := [120]) (s := nmP 107 k) (l := []) (p := 1) (id := n + 3 + k) (by simp) (by rw [List.length_cons]; omega) (fksplit k (by omega)) hF.dir1 (hF.no1 (by omega)) (by rw [hl1]; omega) (by omega) (by omega) (hF.free _ (by omega)).1 (fun D f hq => ?_)).mono ?_
  · have := hmay f hq.1
    have e0 : growb 0 (([120] : List Int).length : Int) = 1 := by rfl
    rw [hl1, e0]
    unfold mayB
    simp
    omega
  · rintro e w' ⟨ev, rfl, ⟨ll, b, he, -⟩, hS'⟩
    exact ⟨ev, rfl, ⟨b, he⟩, K, T, hF, hS'⟩
theorem fl_room (h : FlS rs fb hb xb bn n i k j lim w0 w) (hn : n <= 90) (hlim : lim <= 300000000) :
    Calls Tryz.prog 10 #[ptr fb] w fun e w' => (∃ f c : Nat, flF bn n i k j f /\ (i = 0 -> j = 0 -> c + n + 2 <= 100) /\ c <= 101 /\ e = .returned (.tuple #[rmV (f : Nat) (rs : Nat) (c : Nat) 203, .nilIface])) /\ FlS rs fb hb xb bn n i k j (lim + 1000) w0 w' := by
  obtain ⟨K, T, hF, hS⟩ := h
  refine (gr_room hS hlim).mono ?_
  rintro e w' ⟨⟨D, f, hq, rfl⟩, hS'⟩
  refine ⟨⟨f, cntN K 101, hq.1, fun ei ej => ?_, cntN_le K 101, rfl⟩, K, T, hF, hS'⟩
  subst ei
  subst ej
  have := cntN_low (K := K) (m := n + 2) (fun x x1 x2 => hF.low x1 (by omega)) 101
  omega
theorem fl_check (h : FlS rs fb hb xb bn n 0 k 0 lim w0 w) (hn : n <= 90) (hk : k <= 8) (hlim : lim <= 300000000) :
    Calls Tryz.prog 14 #[ptr fb] w fun e w' => e = .returned .nilIface /\ FlS rs fb hb xb bn n 0 k 0 (lim + 1000) w0 w' := by
  obtain ⟨K, T, hF, hS⟩ := h
  obtain ⟨D, f, -, ht, -⟩ := hS.treeF
  refine (gr_check hS (hF.rank (by omega) (ht.recs 1 (by omega) (by omega) hF.k1).2.nodup (ht.recs 2 (by omega) (by omega) hF.k2).2.nodup) (by omega) hlim).mono ?_
  rintro e w' ⟨rfl, hS'⟩
  exact ⟨rfl, K, T, hF, hS'⟩
theorem fl_rmf (h : FlS rs fb hb xb bn n i k 0 lim w0 w) (hn : n <= 90) (hi : i < n) (hlim : lim <= 300000000) :
    Calls Tryz.prog 15 #[ptr fb, .string (mkB ([47, 100] ++ 47 :: nmP 102 i))] w fun e w' => e = .returned .nilIface /\ FlS rs fb hb xb bn n (i + 1) k 0 (lim + 1000) w0 w' := by
  obtain ⟨K, T, hF, hS⟩ := h
  obtain ⟨D0, f0, -, ht, -⟩ := hS.treeF
  have hnd2 := (ht.recs 2 (by omega) (by omega) hF.k2).2.nodup
  obtain ⟨a, ha⟩ := List.getElem?_of_mem ((hF.m2 ⟨nmP 102 i, i + 3⟩).2 ⟨i, Nat.le_refl _, hi, rfl⟩)
  have hal := (List.getElem?_eq_some_iff.1 ha).1
  have hl2 : (T 2).length = n - i := hF.l2
  have hnl := nm_lenF 102 i (by omega)
  have hF' := hF.rmf hi (by omega) ha hnd2
  have hdl := dropR_len hal
  refine (gr_remove hS (s := nmP 102 i) (l := [[100]]) (p := 2) (i := a) (id := i + 3) (n := bn) (P' := flP n (i + 1) k 0 bn (dropR (T 2) a)) (by rw [List.length_append, List.length_cons]; simp; omega) (flsplit i (by omega)) hF.dird ha (by omega) (Or.inl (hF.kf i (Nat.le_refl _) hi)) (fun D f hq => ⟨hq.2.2.1 i (Nat.le_refl _) hi, fun e => by rw [hF.kf i (Nat.le_refl _) hi] at e; cases e⟩) (fun q q1 q2 hq hne r hr e => ?_) (fun D f f' hq e => ?_) hlim).mono ?_
  · rcases hF.dirs q q1 hq with rfl | rfl
    · rw [upd_other _ _ (by omega)] at hr
      rcases (hF.m1 r).1 hr with rfl | ⟨x, -, hx, rfl⟩
      · have e' : 2 = i + 3 := e
        omega
      · have e' : n + 3 + x = i + 3 := e
        omega
    · obtain ⟨x, h1, h2, rfl⟩ := (hF'.m2 r).1 hr
      have e' : x + 3 = i + 3 := e
      omega
  · rw [hdl, hl2] at e
    have h1 : f + bkL (1 + (k - 0)) + bkL (n - i) + (n - i) * bn + (k - 0) = 203 := hq.1
    refine ⟨?_, ?_, fun x hx1 hx => ?_, fun x _ hx => ?_⟩
    · show f' + bkL (1 + (k - 0)) + bkL (n - (i + 1)) + (n - (i + 1)) * bn + (k - 0) = 203
      have e2 : n - i - 1 = n - (i + 1) := by omega
      have e3 : n - i = n - (i + 1) + 1 := by omega
      rw [e2] at e
      have e4 : (n - i) * bn = (n - (i + 1)) * bn + bn := by rw [e3, Nat.succ_mul]
      rw [e4] at h1
      omega
    · rw [upd_other _ _ (by omega), upd_same]
    · rw [upd_other _ _ (by omega), upd_other _ _ (by omega)]
      exact hq.2.2.1 x (by omega) hx
    · rw [upd_other _ _ (by omega), upd_other _ _ (by omega)]
      exact hq.2.2.2 x (by omega) hx
  · rintro e w' ⟨rfl, hS'⟩
    refine ⟨rfl, _, _, hF', ?_⟩
    rw [upd_same]
    exact hS'
theorem fl_rmk (h : FlS rs fb hb xb bn n n k j lim w0 w) (hn : n <= 90) (hk : k <= 8) (hj : j < k) (hlim : lim <= 300000000) :
    Calls Tryz.prog 15 #[ptr fb, .string (mkB (47 :: nmP 107 j))] w fun e w' => e = .returned .nilIface /\ FlS rs fb hb xb bn n n k (j + 1) (lim + 1000) w0 w' := by
  obtain ⟨K, T, hF, hS⟩ := h
  obtain ⟨D0, f0, -, ht, -⟩ := hS.treeF
  have hnd1 := (ht.recs 1 (by omega) (by omega) hF.k1).2.nodup
  obtain ⟨a, ha⟩ := List.getElem?_of_mem ((hF.m1 ⟨nmP 107 j, n + 3 + j⟩).2 (Or.inr ⟨j, Nat.le_refl _, hj, rfl⟩))
  have hal := (List.getElem?_eq_some_iff.1 ha).1
  have hl1 : (T 1).length = 1 + (k - j) := hF.l1
  have hnl := nm_lenF 107 j (by omega)
  have hF' := hF.rmk hj (by omega) ha hnd1
  have hdl := dropR_len hal
  refine (gr_remove hS (s := nmP 107 j) (l := []) (p := 1) (i := a) (id := n + 3 + j) (n := 1) (P' := flP n n k (j + 1) bn (T 2)) (by rw [List.length_cons]; omega) (fksplit j (by omega)) hF.dir1 ha (by omega) (Or.inl (hF.kk j (Nat.le_refl _) hj)) (fun D f hq => ⟨hq.2.2.2 j (Nat.le_refl _) hj, fun e => by rw [hF.kk j (Nat.le_refl _) hj] at e; cases e⟩) (fun q q1 q2 hq hne r hr e => ?_) (fun D f f' hq e => ?_) hlim).mono ?_
  · rcases hF.dirs q q1 hq with rfl | rfl
    · rcases (hF'.m1 r).1 hr with rfl | ⟨x, h1, h2, rfl⟩
      · have e' : 2 = n + 3 + j := e
        omega
      · have e' : n + 3 + x = n + 3 + j := e
        omega
    · rw [upd_other _ _ (by omega)] at hr
      obtain ⟨x, h1, h2, rfl⟩ := (hF.m2 r).1 hr
      have e' : x + 3 = n + 3 + j := e
      omega
  · rw [hdl, hl1] at e
    have h1 : f + bkL (1 + (k - j)) + bkL (n - n) + (n - n) * bn + (k - j) = 203 := hq.1
    refine ⟨?_, ?_, fun x hx1 hx => absurd hx (by omega), fun x hx1 hx => ?_⟩
    · show f' + bkL (1 + (k - (j + 1))) + bkL (n - n) + (n - n) * bn + (k - (j + 1)) = 203
      have e2 : 1 + (k - j) - 1 = 1 + (k - (j + 1)) := by omega
      rw [e2] at e
      omega
    · rw [upd_other _ _ (by omega), upd_other _ _ (by omega)]
      exact hq.2.1
    · rw [upd_other _ _ (by omega), upd_other _ _ (by omega)]
      exact hq.2.2.2 x (by omega) hx
  · rintro e w' ⟨rfl, hS'⟩
    refine ⟨rfl, _, _, hF', ?_⟩
    rw [upd_other _ _ (by omega)]
    exact hS'
theorem fl_rmd {w6 : World} (h : FlS rs fb hb xb bn n n k k lim w0 w6) (hB : Below w6.heap.size w6 w) (hlim : lim <= 300000000) :
    Calls Tryz.prog 15 #[ptr fb, .string ⟨#[47, 100]⟩] w fun e w' => e = .returned .nilIface /\ (Below w0.heap.size w0 w' /\ Ground w' /\ GT w') /\ w'.cell? ⟨xb, 1, none⟩ = some (ptr fb) /\ ∀ b, w6.heap.size <= b -> b < w.heap.size -> ∀ j, w'.cell? ⟨b, j, none⟩ = w.cell? ⟨b, j, none⟩ := by
  obtain ⟨K, T, hF, hS⟩ := h
  obtain ⟨D0, f0, -, ht, hfb⟩ := hS.treeF
  have hnd1 := (ht.recs 1 (by omega) (by omega) hF.k1).2.nodup
  obtain ⟨a, ha⟩ := List.getElem?_of_mem ((hF.m1 ⟨[100], 2⟩).2 (Or.inl rfl))
  have hal := (List.getElem?_eq_some_iff.1 ha).1
  have hl1 : (T 1).length = 1 + (k - k) := hF.l1
  have hT2 : T 2 = [] := List.length_eq_zero_iff.1 (by rw [hF.l2]; omega)
  obtain ⟨⟨E, hR6, hw0⟩, hg⟩ := hS
  obtain ⟨D6, f6, -, hz6⟩ := hR6.st
  obtain ⟨l1, l2, -, -, l3, -⟩ := hz6.s.to.lts
  have hR := hR6.below hB
  obtain ⟨D, f, hq, hz⟩ := hR.st
  have e : D 2 = [] := by rw [hq.2.1, hT2]; rfl
  have kR := fRemove_ok (remove_dir hz hR.no (path := [47, 100]) (l := []) (s := [100]) (p := 1) (i := a) (r := ⟨[100], 2⟩) (n := 0) (by decide) (by decide) hF.dir1 ha rfl hF.k2 (by show (2 : Nat) ≠ 1; omega) (by show (2 : Nat) ≠ 1; omega) e (by rw [e]; rfl) (by omega) (fun q q1 q2 hqk hne r hr er => by
    rcases hF.dirs q q1 hqk with rfl | rfl
    · rw [upd_same, mem_dropR hnd1 ha, hF.m1] at hr
      rcases hr with ⟨rfl | ⟨x, h1, h2, rfl⟩, h3⟩
      · exact h3 rfl
      · omega
    · exact hne rfl) hlim)
  refine kR.mono ?_
  rintro ev w' ⟨rfl, ⟨f', -, hz'⟩, hT⟩
  have hS' : GrS rs fb hb xb 100 203 (fun _ _ => True) (upd K 2 0) (upd T 1 (dropR (T 1) a)) (lim + 1000) w0 w' := ⟨⟨E.rest, hR.turn hT trivial hz', hw0⟩, hg⟩
  have hA : Apart [E.d, E.g, E.mb, fb] w w' := hT
  exact ⟨rfl, ⟨hS'.bel, hS'.ground, hS'.gt⟩, hS'.x1, fun b b1 b2 j => hA.cell (p := ⟨b, j, none⟩) b2 (by simp; omega)⟩
end
end Go.Proofs.YtleafmdjhmnjmaaGreatDoor
