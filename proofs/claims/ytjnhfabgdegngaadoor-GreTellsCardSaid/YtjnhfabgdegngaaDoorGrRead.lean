/-
  What is proved: gre's readIf and readFields by contract, with all of their outcomes.
  Conditions: the bytes are fewer than 2^40.
-/
import Derived.Test.YtjnhfabgdegngaaDoorGrEnc
namespace Go.Proofs.YtjnhfabgdegngaaDoor
open Go.RowKit

/-- The number of the first four bytes. -/
def num4 (bs : List UInt8) : Nat := (((bs.getD 0 0).toNat * 256 + (bs.getD 1 0).toNat) * 256 + (bs.getD 2 0).toNat) * 256 + (bs.getD 3 0).toNat
theorem num4_lt (bs : List UInt8) : num4 bs < 4294967296 := by
  unfold num4
  have h0 := (bs.getD 0 0).toNat_lt
  have h1 := (bs.getD 1 0).toNat_lt
  have h2 := (bs.getD 2 0).toNat_lt
  have h3 := (bs.getD 3 0).toNat_lt
  omega
/-- A field that may be there. -/
def gskip (t : Bool) (bs : List UInt8) : List UInt8 := if t then bs.drop 4 else bs
def gnum (t : Bool) (bs : List UInt8) : Nat := if t then num4 bs else 0
def gfew (t : Bool) (bs : List UInt8) : Bool := t && decide (bs.length < 4)
theorem gnum_lt (t : Bool) (bs : List UInt8) : gnum t bs < 4294967296 := by unfold gnum; split; exact num4_lt bs; decide
theorem gskip_le (t : Bool) (bs : List UInt8) : (gskip t bs).length ≤ bs.length := by unfold gskip; split <;> simp
theorem grfour {bs : List UInt8} (h : 4 ≤ bs.length) : ∃ b0 b1 b2 b3 r, bs = b0 :: b1 :: b2 :: b3 :: r := by
  match bs, h with
  | b0 :: b1 :: b2 :: b3 :: r, _ => exact ⟨b0, b1, b2, b3, r, rfl⟩
/-- What readIf tells. -/
def GIf (t : Bool) (p : Addr) (bs : List UInt8) (w : World) (e : Ending) (w' : World) : Prop :=
  (gfew t bs = true ∧ ∃ u, e = .returned (.tuple #[.int .u32 0, .iface 74 u]) ∧ Chain w' 2 [octetsWord] (.iface 74 u) ∧ Fr (· = p) w w') ∨
  (gfew t bs = false ∧ e = .returned (.tuple #[.int .u32 (gnum t bs : Nat), .nilIface]) ∧ Rdr w' p (gskip t bs) ∧ Fr (· = p) w w')
theorem grif_any (t : Bool) (p : Addr) (bs : List UInt8) (w : World) (h : Rdr w p bs) (hL : bs.length ≤ 1099511627776) :
    Calls Tryd.prog 47 #[.bool t, .pointer (some p)] w (GIf t p bs w) := by
  unfold GIf
  cases t
  · have HR := Lib.hid h
    clear h hL
    go_enter Tryd.func47, Tryd.ntmps47
    go_wp2_with fail
    go_ret2
    exact .inr ⟨rfl, rfl, HR.out, Fr.refl _ _⟩
  · by_cases h4 : bs.length < 4
    · have HT := Lib.hid (U32_short p bs w h h4)
      have HF : Hid (gfew true bs = true) := by unfold gfew; rw [decide_eq_true h4]; rfl
      clear h h4 hL
      go_enter Tryd.func47, Tryd.ntmps47
      go_wp2_with fail
      refine HT.out.mono ?_
      rintro e w' ⟨rfl, hw⟩
      obtain ⟨hc, hb⟩ := wrong_facts 2 octetsWord hw
      have HC := Lib.hid hc
      have HB := Lib.hid hb
      clear hw hc hb
      go_wp2_with fail
      go_ret2
      exact .inl ⟨HF.out, _, rfl, HC.out, Fr.of_below HB.out⟩
    · obtain ⟨b0, b1, b2, b3, r, rfl⟩ := grfour (by omega : 4 ≤ bs.length)
      have HT := Lib.hid (U32_ok p b0 b1 b2 b3 r w h hL)
      have HF : Hid (gfew true (b0 :: b1 :: b2 :: b3 :: r) = false) := by unfold gfew; rw [decide_eq_false h4]; rfl
      have HN : Hid (((((b0.toNat : Int) * 256 + b1.toNat) * 256 + b2.toNat) * 256 + b3.toNat) = ((gnum true (b0 :: b1 :: b2 :: b3 :: r) : Nat) : Int)) := by show _ = (((((b0.toNat * 256 + b1.toNat) * 256 + b2.toNat) * 256 + b3.toNat : Nat)) : Int); omega
      rw [HN.out] at HT
      clear h h4 hL HN
      go_enter Tryd.func47, Tryd.ntmps47
      go_wp2_with fail
      refine HT.out.mono ?_
      rintro e w' ⟨rfl, hr, hf, hz⟩
      have HR := Lib.hid hr
      have HFr := Lib.hid hf
      clear hr hf hz
      go_wp2_with fail
      go_ret2
      exact .inr ⟨HF.out, rfl, HR.out, HFr.out⟩

/-- The state of readFields: the reader, the cell of the result, and the box of the header. -/
structure GRF (w : World) (p : Addr) (Z G : Nat) (h : GH) (bs : List UInt8) (W : World) : Prop where
  rdr : Rdr W p bs
  fr : Fr (· = p) w W
  z : W.heap[Z]? = some gr0.obj
  box : GBox W G h
  loZ : w.heap.size ≤ Z
  lo : w.heap.size ≤ G
  ne : Z ≠ G
  pl : p.block < w.heap.size
section
variable {w W W' : World} {p : Addr} {Z G : Nat} {h : GH} {bs cs : List UInt8}
theorem GRF.call (r : GRF w p Z G h bs W) (hf : Fr (· = p) W W') (hr : Rdr W' p cs) : GRF w p Z G h cs W' :=
  ⟨hr, r.fr.trans hf, (hf.block Z (Array.getElem?_eq_some_iff.1 r.z).1 (fun a ha => by subst ha; have := r.pl; have := r.loZ; omega)).trans r.z,
   ⟨(hf.block G r.box.lt (fun a ha => by subst ha; have := r.pl; have := r.lo; omega)).trans r.box.o⟩, r.loZ, r.lo, r.ne, r.pl⟩
theorem gbox_bytes (b : GBox W G h) (i : Nat) (u : UInt8) : W.cell? ⟨G, i, none⟩ ≠ some (B8 u) := by
  rw [cell_of_row W G i _ _ _ b.o]
  unfold GH.row
  match i with
  | 0 => simp [B8]
  | 1 => simp [B8]
  | 2 => simp [B8]
  | 3 => simp [B8]
  | 4 => simp [B8]
  | n + 5 => simp
theorem gset_heap (W : World) (G i : Nat) (v : Value) (cs : Array Value) (t : TypeId) (f : Nat × Nat) (hg : W.heap[G]? = some (.cells cs t f)) : (W.setCell ⟨G, i, none⟩ v).heap[G]? = some (.cells (cs.setIfInBounds i v) t f) := by
  unfold World.setCell
  simp only [Array.getElem?_modify]
  rw [hg]
  simp
theorem gset_other (W : World) (G i k : Nat) (v : Value) (hk : k ≠ G) : (W.setCell ⟨G, i, none⟩ v).heap[k]? = W.heap[k]? := by
  unfold World.setCell
  simp only [Array.getElem?_modify]
  rw [if_neg (Ne.symm hk)]
theorem GRF.set (r : GRF w p Z G h bs W) (i : Nat) (v : Value) (h' : GH) (hh : h.row.setIfInBounds i v = h'.row) : GRF w p Z G h' bs (W.setCell ⟨G, i, none⟩ v) := by
  have hf : Fr (· = (⟨G, i, none⟩ : Addr)) W (W.setCell ⟨G, i, none⟩ v) := Fr.of_set W _ v rfl
  refine ⟨r.rdr.fr hf (fun e => ?_) (fun x u hx e => ?_), r.fr.then hf (fun x hx hl => ?_), (gset_other W G i Z v r.ne).trans r.z, ⟨?_⟩, r.loZ, r.lo, r.ne, r.pl⟩
  · have h1 := r.pl; have h2 := r.lo; rw [e] at h1; simp only at h1; omega
  · subst e; exact gbox_bytes r.box i u hx
  · subst hx; have := r.lo; simp only at hl; omega
  · have := gset_heap W G i v _ _ _ r.box.o
    rw [hh] at this
    exact this
end
/-- Where no header is: the number, and all but the reader is as it was. -/
def GRNo (n : Int) (l : List ByteArray) (p : Addr) (w : World) (e : Ending) (w' : World) : Prop :=
  ∃ T u, e = .returned (.tuple #[.agg gr0.row, .iface T u]) ∧ Chain w' n l (.iface T u) ∧ Fr (· = p) w w'
/-- Where one is. -/
def GRYes (h : GH) (r : List UInt8) (p : Addr) (w : World) (e : Ending) (w' : World) : Prop :=
  e = .returned (.tuple #[.agg h.row, .nilIface]) ∧ Rdr w' p r ∧ Fr (· = p) w w'
theorem GBox.free {W : World} {G : Nat} {h : GH} (b : GBox W G h) (i : Nat) : W.frozen? ⟨G, i, none⟩ = false := by
  unfold World.frozen?
  rw [b.o]
  simp [GH.obj]
theorem grrow_plain (h : GH) : Plain h.row := by
  intro v hv
  simp [GH.row] at hv
  rcases hv with rfl | rfl | rfl | rfl | rfl <;> exact ⟨fun _ h => (by cases h), fun _ _ h => (by cases h)⟩
theorem grrow_bytes {w : World} {G : Nat} {h : GH} {t : TypeId} {fr : Nat × Nat} (hg : w.heap[G]? = some (.cells h.row t fr)) {a : Addr} (e : a.block = G) (u : UInt8) : w.cell? a ≠ some (B8 u) := by
  obtain ⟨b, i, n⟩ := a
  have e' : b = G := e
  subst e'
  cases n with
  | some n => unfold World.cell?; simp only [hg]; simp
  | none =>
    rw [cell_of_row w b i _ _ _ hg]
    unfold GH.row
    match i with
    | 0 => simp [B8]
    | 1 => simp [B8]
    | 2 => simp [B8]
    | 3 => simp [B8]
    | 4 => simp [B8]
    | n + 5 => simp
/-- The same where bytes have ended. -/
structure GRE (w : World) (p : Addr) (Z G : Nat) (h : GH) (n : Int) (l : List ByteArray) (v : Value) (W : World) : Prop where
  ch : Chain W n l v
  fr : Fr (· = p) w W
  z : W.heap[Z]? = some gr0.obj
  box : GBox W G h
  loZ : w.heap.size ≤ Z
  lo : w.heap.size ≤ G
  ne : Z ≠ G
section
variable {w W W' : World} {p : Addr} {Z G : Nat} {h : GH} {bs : List UInt8} {n : Int} {l : List ByteArray} {v : Value}
theorem GRF.ends (r : GRF w p Z G h bs W) (hf : Fr (· = p) W W') (hc : Chain W' n l v) : GRE w p Z G h n l v W' :=
  ⟨hc, r.fr.trans hf, (hf.block Z (Array.getElem?_eq_some_iff.1 r.z).1 (fun a ha => by subst ha; have := r.pl; have := r.loZ; omega)).trans r.z,
   ⟨(hf.block G r.box.lt (fun a ha => by subst ha; have := r.pl; have := r.lo; omega)).trans r.box.o⟩, r.loZ, r.lo, r.ne⟩
theorem GRE.set (r : GRE w p Z G h n l v W) (i : Nat) (x : Value) (h' : GH) (hh : h.row.setIfInBounds i x = h'.row) : GRE w p Z G h' n l v (W.setCell ⟨G, i, none⟩ x) := by
  have hf : Fr (· = (⟨G, i, none⟩ : Addr)) W (W.setCell ⟨G, i, none⟩ x) := Fr.of_set W _ x rfl
  refine ⟨r.ch.fr2 hf (fun a s e => ?_) (fun a T u e => ?_), r.fr.then hf (fun x hx hl => ?_), (gset_other W G i Z x r.ne).trans r.z, ⟨?_⟩, r.loZ, r.lo, r.ne⟩
  · subst e; exact (Plain.cell (a := ⟨G, i, none⟩) (grrow_plain h) r.box.o).1 s
  · subst e; exact (Plain.cell (a := ⟨G, i, none⟩) (grrow_plain h) r.box.o).2 T u
  · subst hx; have := r.lo; simp only at hl; omega
  · have := gset_heap W G i x _ _ _ r.box.o
    rw [hh] at this
    exact this
theorem GRE.no (r : GRE w p Z G h n l v W) : Chain (W.setRow Z gr0.row) n l v ∧ Fr (· = p) w (W.setRow Z gr0.row) := ⟨r.ch.row r.z (grrow_plain _), r.fr.row r.loZ _⟩
end
/-- The fields that the flags tell of, one behind the other. -/
def gfields (s k q : Bool) (bs : List UInt8) : GH := ⟨s, k, gnum k (gskip s bs), q, gnum q (gskip k (gskip s bs))⟩
def gends (s k q : Bool) (bs : List UInt8) : Bool := gfew s bs || gfew k (gskip s bs) || gfew q (gskip k (gskip s bs))
def gleft (s k q : Bool) (bs : List UInt8) : List UInt8 := gskip q (gskip k (gskip s bs))
set_option maxRecDepth 100000 in
set_option maxHeartbeats 4000000 in
theorem grfields_any (p : Addr) (T a1 a2 a3 : Int) (s k q : Bool) (bs : List UInt8) (w : World) (h : Rdr w p bs) (hL : bs.length ≤ 1099511627776)
    (x1 : bits .and .u32 T 32768 = a1) (x2 : bits .and .u32 T 8192 = a2) (x3 : bits .and .u32 T 4096 = a3) (y1 : (a1 != 0) = s) (y2 : (a2 != 0) = k) (y3 : (a3 != 0) = q) :
    Calls Tryd.prog 42 #[.pointer (some p), .int .u32 T] w fun e w' => (gends s k q bs = true ∧ GRNo 2 [octetsWord] p w e w') ∨ (gends s k q bs = false ∧ GRYes (gfields s k q bs) (gleft s k q bs) p w e w') := by
  have H0 : Hid (GRF w p w.heap.size (w.heap.size + 1) ⟨s, k, 0, q, 0⟩ bs ((w.alloc gr0.obj).alloc (GH.obj ⟨s, k, 0, q, 0⟩))) :=
    { rdr := h.below (gbelow_al ((Below.refl _ _).alloc (Nat.le_refl _) _) _)
      fr := Fr.of_below (gbelow_al ((Below.refl _ _).alloc (Nat.le_refl _) _) _)
      z := (((Below.refl _ _).alloc (Nat.le_refl _) _).block _ (by rw [World.size_alloc]; omega)).trans (heap_alloc_new _ _)
      box := by have b := GBox.new (w.alloc gr0.obj) ⟨s, k, 0, q, 0⟩; rw [World.size_alloc] at b; exact b
      loZ := Nat.le_refl _, lo := by omega, ne := by omega, pl := h.at_ }
  have HL := Lib.hid hL
  clear h hL
  go_enter Tryd.func42, Tryd.ntmps42
  go_upto_region 2 with fail
  generalize hW : (w.alloc gr0.obj).alloc (GH.obj ⟨s, k, 0, q, 0⟩) = W at H0
  have hW2 : (w.alloc (.cells #[.bool false, .bool false, .int .u32 0, .bool false, .int .u32 0] 24)).alloc (.cells #[.bool s, .bool k, .int .u32 0, .bool q, .int .u32 0] 24) = W := hW
  rw [hW2]
  clear hW hW2 x1 x2 x3 y1 y2 y3
  generalize w.heap.size + 1 = G at *
  generalize w.heap.size = Z at *
  have c0 := H0.out.box.c0
  go_wp2_with fail
  refine (grif_any s p bs _ H0.out.rdr HL.out).mono ?_
  rintro e w1 (⟨hfew, u, rfl, hc, hf⟩ | ⟨hfew, rfl, hr, hf⟩)
  · have he : Hid (gends s k q bs = true) := by unfold gends; rw [hfew]; rfl
    have HE := Lib.hid (H0.out.ends hf hc)
    have hZ := Lib.hid HE.out.z
    clear hfew hc hf c0 H0
    go_wp2_with (refine wpList_store_row rfl 24 (.tmp 4) (.tmp 29) rfl Z gr0.row rfl rfl 24 _ hZ.out grSize rfl (GH.one _) ?_)
    (try simp only [Exit.inBlock, Exit.then])
    refine bodyPost_ret (results_cell_tmp_row rfl _ _ Z _ gr0.row (0, 0) _ rfl (setRow_heap _ _ _ _ _ _ hZ.out) Tryd.underlying24 rfl grSize) rfl ?_
    exact .inl ⟨he.out, _, _, rfl, HE.out.no⟩
  have H1 := Lib.hid (H0.out.call hf hr)
  have E1 := Lib.hid hfew
  have HL1 := Lib.hid (Nat.le_trans (gskip_le s bs) HL.out)
  clear hfew hr hf c0 H0
  generalize hr1 : gskip s bs = r1 at *
  have R1 := Lib.hid hr1
  clear hr1
  have c1 := H1.out.box.c1
  go_wp2_with fail
  refine (grif_any k p r1 _ H1.out.rdr HL1.out).mono ?_
  rintro e w2 (⟨hfew, u, rfl, hc, hf⟩ | ⟨hfew, rfl, hr, hf⟩)
  · have he : Hid (gends s k q bs = true) := by unfold gends; rw [R1.out, hfew, Bool.or_true]; rfl
    have HE := Lib.hid (H1.out.ends hf hc)
    have HE2 := Lib.hid (HE.out.set 2 (.int .u32 0) ⟨s, k, 0, q, 0⟩ rfl)
    have hZ := Lib.hid HE2.out.z
    have c2 := HE.out.box.c2
    have f2 := HE.out.box.free 2
    clear hfew hc hf c1 H1
    go_wp2_with (refine wpList_store_row rfl 24 (.tmp 4) (.tmp 41) rfl Z gr0.row rfl rfl 24 _ hZ.out grSize rfl (GH.one _) ?_)
    (try simp only [Exit.inBlock, Exit.then])
    refine bodyPost_ret (results_cell_tmp_row rfl _ _ Z _ gr0.row (0, 0) _ rfl (setRow_heap _ _ _ _ _ _ hZ.out) Tryd.underlying24 rfl grSize) rfl ?_
    exact .inl ⟨he.out, _, _, rfl, HE2.out.no⟩
  have H2 := Lib.hid (H1.out.call hf hr)
  have H3 := Lib.hid (H2.out.set 2 (.int .u32 (gnum k r1 : Nat)) ⟨s, k, gnum k r1, q, 0⟩ rfl)
  have E2 := Lib.hid hfew
  have HL2 := Lib.hid (Nat.le_trans (gskip_le k r1) HL1.out)
  have c2 := H2.out.box.c2
  have f2 := H2.out.box.free 2
  clear hfew hr hf c1 H1
  generalize hr2 : gskip k r1 = r2 at *
  have R2 := Lib.hid hr2
  clear hr2
  have c3 := H3.out.box.c3
  generalize hkey : gnum k r1 = key at *
  have HK := Lib.hid hkey
  clear hkey
  go_wp2_with fail
  refine (grif_any q p r2 _ H3.out.rdr HL2.out).mono ?_
  rintro e w3 (⟨hfew, u, rfl, hc, hf⟩ | ⟨hfew, rfl, hr, hf⟩)
  · have he : Hid (gends s k q bs = true) := by unfold gends; rw [R1.out, R2.out, hfew, Bool.or_true]; rfl
    have HE := Lib.hid (H3.out.ends hf hc)
    have HE2 := Lib.hid (HE.out.set 4 (.int .u32 0) ⟨s, k, key, q, 0⟩ rfl)
    have hZ := Lib.hid HE2.out.z
    have c4 := HE.out.box.c4
    have f4 := HE.out.box.free 4
    clear hfew hc hf c2 f2 c3 H2 H3
    go_wp2_with (refine wpList_store_row rfl 24 (.tmp 4) (.tmp 53) rfl Z gr0.row rfl rfl 24 _ hZ.out grSize rfl (GH.one _) ?_)
    (try simp only [Exit.inBlock, Exit.then])
    refine bodyPost_ret (results_cell_tmp_row rfl _ _ Z _ gr0.row (0, 0) _ rfl (setRow_heap _ _ _ _ _ _ hZ.out) Tryd.underlying24 rfl grSize) rfl ?_
    exact .inl ⟨he.out, _, _, rfl, HE2.out.no⟩
  have H4 := Lib.hid (H3.out.call hf hr)
  have H5 := Lib.hid (H4.out.set 4 (.int .u32 (gnum q r2 : Nat)) ⟨s, k, key, q, gnum q r2⟩ rfl)
  have E3 : Hid (gends s k q bs = false) := by unfold gends; rw [R1.out, R2.out, E1.out, E2.out, hfew]; rfl
  have EF : Hid (gfields s k q bs = ⟨s, k, key, q, gnum q r2⟩) := by unfold gfields; rw [R1.out, R2.out, HK.out]; rfl
  have EL : Hid (gleft s k q bs = gskip q r2) := by unfold gleft; rw [R1.out, R2.out]; rfl
  have c4 := H4.out.box.c4
  have f4 := H4.out.box.free 4
  have hZ := Lib.hid H5.out.z
  clear hfew hr hf c2 f2 c3 H2 H3 E1 E2 HK R1 R2
  generalize hseq : gnum q r2 = seq at *
  clear hseq
  obtain ⟨d0, d1, d2, d3, d4⟩ := H5.out.box.cells
  simp only at d0 d1 d2 d3 d4
  go_wp2_with (refine wpList_store_row rfl 24 (.tmp 4) (.tmp 55) rfl Z (GH.row ⟨s, k, key, q, seq⟩) rfl rfl 24 _ hZ.out grSize rfl (GH.one _) ?_)
  (try simp only [Exit.inBlock, Exit.then])
  refine bodyPost_ret (results_cell_tmp_row rfl _ _ Z _ (GH.row ⟨s, k, key, q, seq⟩) (0, 0) _ rfl (setRow_heap _ _ _ _ _ _ hZ.out) Tryd.underlying24 rfl grSize) rfl ?_
  have hf3 : Fr (fun a => a.block = Z) (w3.setCell ⟨G, 4, none⟩ (.int .u32 (seq : Int))) ((w3.setCell ⟨G, 4, none⟩ (.int .u32 (seq : Int))).setRow Z (GH.row ⟨s, k, key, q, seq⟩)) := Fr.of_row _ _ _
  refine .inr ⟨E3.out, by rw [EF.out]; rfl, ?_, H5.out.fr.row H5.out.loZ _⟩
  rw [EL.out]
  exact H5.out.rdr.fr hf3 (fun e => by have h1 := H5.out.pl; have h2 := H5.out.loZ; omega) (fun x u hx e => grrow_bytes (h := gr0) hZ.out e u hx)
end Go.Proofs.YtjnhfabgdegngaaDoor
