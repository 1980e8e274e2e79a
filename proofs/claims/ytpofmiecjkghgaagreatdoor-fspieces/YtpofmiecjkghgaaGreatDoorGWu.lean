/- Each call over the file system of any law (GrS). -/
import Derived.Test.YtpofmiecjkghgaaGreatDoorGWr
import Derived.Test.YtpofmiecjkghgaaGreatDoorGWs
import Derived.Test.YtpofmiecjkghgaaGreatDoorGWt
namespace Go.Proofs.YtpofmiecjkghgaaGreatDoor
open Go.RowKit Go.Extern.Stop Go.Stop Go.Extern Go.Maps Go.Sort Go.Shelf
set_option maxRecDepth 100000
section
variable {rs fb hb xb N dd lim : Nat} {P P' : (Nat -> List Int) -> Nat -> Prop} {K : Nat -> Nat} {T : Nat -> List Rec} {w0 w w' : World}
theorem gr_mkdir (h : GrS rs fb hb xb N dd P K T lim w0 w) {path s : List UInt8} {l : List (List UInt8)} {p id : Nat} (hlen : path.length <= 2000) (hp : splitB path = some (l ++ [s])) (hd : dirT K T l = .ok p) (hno : lookT (T p) s = none) (hl : (T p).length < 120) (h1 : 1 <= id) (h2 : id <= N) (hfree : K id = 0) (hT0 : T id = []) (hlow : ∀ i, 1 <= i -> i < id -> K i ≠ 0) (hP : ∀ D f, P D f -> 2 + rs <= f) (hP' : ∀ D f f', P D f -> D id = [] -> f' + bkL ((T p).length + 1) = f + bkL (T p).length -> P' (upd D p (recsL (T p ++ [⟨s, id⟩]))) f') (hlim : lim <= 300000000) :
    Calls Tryz.prog 9 #[ptr fb, .string (mkB path)] w fun e w' => e = .returned .nilIface /\ GrS rs fb hb xb N dd P' (upd K id 2) (upd T p (T p ++ [⟨s, id⟩])) (lim + 1000) w0 w' := by
  refine fMkdir_ok (h.step (R := fun e _ => e = .returned .nilIface) (fun E D f hR hq hz => ?_))
  have hb := bkL_one (T p).length (by omega)
  have hg := grow_bk (T p).length (by omega)
  have h2f := hP D f hq
  have e0z : growb 0 ((0 : Nat) : Int) = 0 := by simp [growb, blk]
  have hD0 : D id = [] := hz.s.to.noBytes h1 (by rw [hR.tn]; exact h2) hfree
  refine (create_new hz hlen hp hd hno hl (Or.inr rfl) h1 (by rw [hR.tn]; exact h2) hfree (fun _ => hT0) hlow hg (by rw [e0z]; unfold mayB; simp; omega) hlim).mono ?_
  rintro e w' ⟨rfl, ⟨f', hf', hz'⟩, hT⟩
  exact ⟨rfl, ⟨_, f', hP' D f f' hq hD0 (by omega), hz'⟩, hT⟩
theorem gr_put (h : GrS rs fb hb xb N dd P K T lim w0 w) {path s : List UInt8} {l : List (List UInt8)} {p id : Nat} {bv : Value} {zs : List Int} (hbv : ∀ E, GrR rs fb hb xb N dd P K T lim E w -> BytesC E.mb w bv zs) (hz4 : zs.length <= 4000) (hlen : path.length <= 2000) (hp : splitB path = some (l ++ [s])) (hd : dirT K T l = .ok p) (hno : lookT (T p) s = none) (hl : (T p).length < 120) (h1 : 1 <= id) (h2 : id <= N) (hfree : K id = 0) (hlow : ∀ i, 1 <= i -> i < id -> K i ≠ 0) {bn : Nat} (hbn : growb 0 (zs.length : Int) = (bn : Int)) (hP : ∀ D f, P D f -> 2 + bn + rs <= f) (hP' : ∀ D f f', P D f -> D id = [] -> f' + bkL ((T p).length + 1) + bn = f + bkL (T p).length -> P' (upd (upd D p (recsL (T p ++ [⟨s, id⟩]))) id zs) f') (hlim : lim <= 300000000) :
    Calls Tryz.prog 10 #[ptr fb, .string (mkB path), bv] w fun e w' => e = .returned .nilIface /\ GrS rs fb hb xb N dd P' (upd K id 1) (upd T p (T p ++ [⟨s, id⟩])) (lim + 1000) w0 w' := by
  have hh := h
  obtain ⟨⟨E0, hR0, -⟩, -⟩ := hh
  obtain ⟨ba, bc, rfl, -⟩ := hbv E0 hR0
  refine fPut_ok (h.step (R := fun e _ => e = .returned .nilIface) (fun E D f hR hq hz => ?_))
  have hb := bkL_one (T p).length (by omega)
  have hg := grow_bk (T p).length (by omega)
  have h2f := hP D f hq
  have hD0 : D id = [] := hz.s.to.noBytes h1 (by rw [hR.tn]; exact h2) hfree
  refine (put_new hz hlen hp (hbv E hR) hz4 hd hno hl h1 (by rw [hR.tn]; exact h2) hfree hlow false hg hbn (by unfold mayB; simp; omega) hlim).mono ?_
  rintro e w' ⟨rfl, ⟨f', hf', hz'⟩, hT⟩
  exact ⟨rfl, ⟨_, f', hP' D f f' hq hD0 (by omega), hz'⟩, hT⟩
theorem gr_enter (h : GrS rs fb hb xb N dd P K T lim w0 w) {a b s t : List UInt8} {l l2 : List (List UInt8)} {p q i : Nat} {r : Rec} {lv : List (List Nat)} (m : EnterT K T N a b l l2 s t p q i r lv) (hP : ∀ D f, P D f -> 2 + rs <= f) (hP' : ∀ D f f', P D f -> f' + bkL (dropR (T p) i).length + bkL ((T q).length + 1) = f + bkL (T p).length + bkL (T q).length -> P' (upd (upd D p (recsL (dropR (T p) i))) q (recsL (T q ++ [⟨t, r.id⟩]))) f') (hlim : lim <= 300000000) :
    Calls Tryz.prog 13 #[ptr fb, .string (mkB a), .string (mkB b)] w fun e w' => e = .returned .nilIface /\ GrS rs fb hb xb N dd P' K (upd (upd T p (dropR (T p) i)) q (T q ++ [⟨t, r.id⟩])) (lim + 1000) w0 w' := by
  refine fRename_ok (h.step (R := fun e _ => e = .returned .nilIface) (fun E D f hR hq hz => ?_))
  have hb := bkL_one (T q).length (by have := m.few; omega)
  have h2f := hP D f hq
  refine (rename_enter hz hR.no (by rw [hR.tn]; exact m) (by unfold mayB; simp; omega) hlim).mono ?_
  rintro e w' ⟨rfl, ⟨f', hf', hz'⟩, hT⟩
  exact ⟨rfl, ⟨_, f', hP' D f f' hq hf', hz'⟩, hT⟩
theorem gr_loop (h : GrS rs fb hb xb N dd P K T lim w0 w) {a b s t : List UInt8} {l l2 : List (List UInt8)} {p i : Nat} {r : Rec} {lv : List (List Nat)} (m : LoopT K T N a b l l2 s t p i r lv) :
    Calls Tryz.prog 13 #[ptr fb, .string (mkB a), .string (mkB b)] w fun e w' => ∃ ev, e = .returned ev /\ ErN sRename (mkB a) 20 ev w' /\ GrS rs fb hb xb N dd P K T lim w0 w' :=
  h.told (fun E D f hR hq hz => fRename_err (rename_loop hz (by rw [hR.tn]; exact m)))
theorem gr_deep (h : GrS rs fb hb xb N dd P K T lim w0 w) {a b s t : List UInt8} {l l2 : List (List UInt8)} {p i : Nat} {r : Rec} {lv : List (List Nat)} (m : DeepT K T N a b l l2 s t p i r lv) :
    Calls Tryz.prog 13 #[ptr fb, .string (mkB a), .string (mkB b)] w fun e w' => ∃ ev, e = .returned ev /\ ErN sRename (mkB a) 10 ev w' /\ GrS rs fb hb xb N dd P K T lim w0 w' :=
  h.told (fun E D f hR hq hz => fRename_err (rename_deep hz (by rw [hR.tn]; exact m)))
theorem gr_list (h : GrS rs fb hb xb N dd P K T lim w0 w) {path : List UInt8} {l : List (List UInt8)} {q : Nat} (hlen : path.length <= 2000) (hp : splitB path = some l) (hq : walkT K T 1 l = .ok q) (hk : K q = 2) (hlim : lim <= 300000000) :
    Calls Tryz.prog 25 #[ptr fb, .string (mkB path)] w fun e w' => (∃ v, e = .returned (.tuple #[v, .nilIface]) /\ KeptT w.heap.size w' v (namesT T q)) /\ GrS rs fb hb xb N dd P K T (lim + 1000) w0 w' := by
  refine h.step (R := fun e w' => ∃ v, e = .returned (.tuple #[v, .nilIface]) /\ KeptT w.heap.size w' v (namesT T q)) (fun E D f hR hx hz => ?_)
  refine (fList_ok (list_ok hz hlen hp hq hk hlim)).mono ?_
  rintro e w' ⟨v, rfl, hV, hz', hT⟩
  exact ⟨⟨v, rfl, hV⟩, ⟨D, f, hx, hz'⟩, hT⟩
theorem gr_get (h : GrS rs fb hb xb N dd P K T lim w0 w) {path : List UInt8} {l : List (List UInt8)} {q : Nat} {zs : List Int} (hlen : path.length <= 2000) (hp : splitB path = some l) (hq : walkT K T 1 l = .ok q) (hk : K q = 1) (hD : ∀ D f, P D f -> D q = zs) (hlim : lim <= 300000000) :
    Calls Tryz.prog 17 #[ptr fb, .string (mkB path)] w fun e w' => (∃ v, e = .returned (.tuple #[v, .nilIface]) /\ OwnV w.heap.size w' v zs) /\ GrS rs fb hb xb N dd P K T (lim + 1000) w0 w' := by
  refine h.step (R := fun e w' => ∃ v, e = .returned (.tuple #[v, .nilIface]) /\ OwnV w.heap.size w' v zs) (fun E D f hR hx hz => ?_)
  refine (fGet_ok (get_ok hz hlen hp hq hk hlim)).mono ?_
  rintro e w' ⟨v, rfl, hV, hz', hT⟩
  rw [hD D f hx] at hV
  exact ⟨⟨v, rfl, hV⟩, ⟨D, f, hx, hz'⟩, hT⟩
theorem gr_check (h : GrS rs fb hb xb N dd P K T lim w0 w) {rk : Nat -> Nat} (m : RankT K T N rk) (hdd : dd <= 500) (hlim : lim <= 300000000) :
    Calls Tryz.prog 16 #[ptr fb] w fun e w' => e = .returned .nilIface /\ GrS rs fb hb xb N dd P K T (lim + 1000) w0 w' := by
  refine h.step (R := fun e _ => e = .returned .nilIface) (fun E D f hR hx hz => ?_)
  have ht := hz.tree
  rw [hR.tn] at ht
  obtain ⟨lv, hS⟩ := sound_rank ht (by have := hz.pl.tn1; rw [hR.tn] at this; exact this) m
  refine (fCheck_ok hz (by rw [hR.tn]; exact hS) (by rw [hR.k]; exact hdd) hlim).mono ?_
  rintro e w' ⟨rfl, hz', hT⟩
  exact ⟨rfl, ⟨D, f, hx, hz'⟩, hT⟩
end
section
variable {rs fb hb xb N dd lim : Nat} {P P' : (Nat -> List Int) -> Nat -> Prop} {K : Nat -> Nat} {T : Nat -> List Rec} {w0 w w' : World}
theorem gr_remove (h : GrS rs fb hb xb N dd P K T lim w0 w) {path s : List UInt8} {l : List (List UInt8)} {p i id n : Nat} (hlen : path.length <= 2000) (hp : splitB path = some (l ++ [s])) (hd : dirT K T l = .ok p) (hi : (T p)[i]? = some ⟨s, id⟩) (hl : (T p).length <= 120) (hk : K id = 1 \/ (K id = 2 /\ id ≠ p /\ id ≠ 1)) (hn : ∀ D f, P D f -> blk ((D id).length : Int) = (n : Int) /\ (K id = 2 -> D id = [])) (hu : ∀ q, 1 <= q -> q <= N -> K q = 2 -> q ≠ id -> ∀ x ∈ upd T p (dropR (T p) i) q, x.id ≠ id) (hP' : ∀ D f f', P D f -> f' + bkL (dropR (T p) i).length = f + bkL (T p).length + n -> P' (upd (upd D p (recsL (dropR (T p) i))) id []) f') (hlim : lim <= 300000000) :
    Calls Tryz.prog 12 #[ptr fb, .string (mkB path)] w fun e w' => e = .returned .nilIface /\ GrS rs fb hb xb N dd P' (upd K id 0) (upd T p (dropR (T p) i)) (lim + 1000) w0 w' := by
  refine fRemove_ok (h.step (R := fun e _ => e = .returned .nilIface) (fun E D f hR hq hz => ?_))
  obtain ⟨n1, n2⟩ := hn D f hq
  have hu' : ∀ q, 1 <= q -> q <= E.tn -> K q = 2 -> q ≠ id -> ∀ x ∈ upd T p (dropR (T p) i) q, x.id ≠ id := by rw [hR.tn]; exact hu
  have kR : Calls Tryz.prog 37 #[ptr fb, .string (mkB path)] w fun e w' => e = .returned .nilIface /\ (∃ f', f' + bkL (dropR (T p) i).length = f + bkL (T p).length + n /\ Fsz fb rs hb E.rest (upd K id 0) (upd (upd D p (recsL (dropR (T p) i))) id []) (upd T p (dropR (T p) i)) f' (lim + 1000) w') /\ E.Turns fb w w' := by
    rcases hk with hk | ⟨hk, hip, hi1⟩
    · exact remove_file hz hR.no (r := ⟨s, id⟩) hlen hp hd hi rfl hk n1 hl hu' hlim
    · exact remove_dir hz hR.no (r := ⟨s, id⟩) hlen hp hd hi rfl hk hip hi1 (n2 hk) n1 hl hu' hlim
  refine kR.mono ?_
  rintro e w' ⟨rfl, ⟨f', hf', hz'⟩, hT⟩
  exact ⟨rfl, ⟨_, f', hP' D f f' hq hf', hz'⟩, hT⟩
theorem gr_room (h : GrS rs fb hb xb N dd P K T lim w0 w) (hlim : lim <= 300000000) :
    Calls Tryz.prog 8 #[ptr fb] w fun e w' => (∃ D f, P D f /\ e = .returned (.tuple #[rmV (f : Nat) (rs : Nat) (cntN K (N + 1) : Nat) (dd : Nat), .nilIface])) /\ GrS rs fb hb xb N dd P K T (lim + 1000) w0 w' := by
  refine h.step (R := fun e _ => ∃ D f, P D f /\ e = .returned (.tuple #[rmV (f : Nat) (rs : Nat) (cntN K (N + 1) : Nat) (dd : Nat), .nilIface])) (fun E D f hR hx hz => ?_)
  refine (fRoom_ok hz hlim).mono ?_
  rintro e w' ⟨he, hz', hT⟩
  rw [hR.tn, hR.k] at he
  exact ⟨⟨D, f, hx, he⟩, ⟨D, f, hx, hz'⟩, hT⟩
theorem gr_poor (h : GrS rs fb hb xb N dd P K T lim w0 w) {path s : List UInt8} {l : List (List UInt8)} {p id : Nat} {ba : Option Addr} {bc : Nat} {zs : List Int} (hz4 : zs.length <= 4000) (hlen : path.length <= 2000) (hp : splitB path = some (l ++ [s])) (hd : dirT K T l = .ok p) (hno : lookT (T p) s = none) (hl : (T p).length < 120) (h1 : 1 <= id) (h2 : id <= N) (hfree : K id = 0) (hmay : ∀ D f, P D f -> mayB (f : Int) (rs : Int) (((bkL ((T p).length + 1) - bkL (T p).length : Nat) : Int) + growb 0 (zs.length : Int)) false = false) :
    Calls Tryz.prog 10 #[ptr fb, .string (mkB path), .slice ba zs.length bc] w fun e w' => ∃ ev, e = .returned ev /\ ErN sPut (mkB path) 15 ev w' /\ GrS rs fb hb xb N dd P K T lim w0 w' :=
  h.told (fun E D f hR hq hz => fPut_err (put_poor hz hlen hp ⟨ba, bc, rfl⟩ hz4 false hd hno hl h1 (by rw [hR.tn]; exact h2) hfree (grow_bk (T p).length (by omega)) (hmay D f hq)))
end
end Go.Proofs.YtpofmiecjkghgaaGreatDoor
