/-
  What is proved: udp's Parse and Bytes by contract.
  Conditions: the bytes are fewer than 2^40; the datagram's numbers fit their types.
-/
import Derived.Test.YtikcnlcpbifobaaDoorUUntil
namespace Go.Proofs.YtikcnlcpbifobaaDoor
open Go.RowKit

theorem one_cell {w : World} {g : Nat} {v : Value} {T : TypeId} (h : w.heap[g]? = some (.cells #[v] T)) : w.cell? ⟨g, 0, none⟩ = some v := by
  rw [cell_of_row w g _ _ _ _ h]
  rfl
set_option maxRecDepth 100000 in
set_option maxHeartbeats 2000000 in
theorem closP_err (n0 n1 n2 : Nat) (v : Value) (s t : Nat) (W : World) (h0 : W.heap[n0]? = some (.cells #[v] 22)) (h1 : W.heap[n1]? = some (.cells #[.int .u32 (s : Int)] 32)) (h2 : W.heap[n2]? = some (.cells #[.int .u32 (t : Int)] 32)) (n : Int) (l : List ByteArray) (hX : ∀ W', Below W.heap.size W W' → Calls Tryd.prog 18 #[v, .int .u32 (s : Int), .int .u32 (t : Int)] W' (PErr n l W')) :
    Calls Tryd.prog 17 #[.pointer (some ⟨n0, 0, none⟩), .pointer (some ⟨n1, 0, none⟩), .pointer (some ⟨n2, 0, none⟩)] W (PErr n l W) := by
  have HB := Lib.hid (below_al (Below.refl W.heap.size W) noDgObj)
  have HX := Lib.hid (hX _ HB.out)
  have HZ : Hid ((W.alloc noDgObj).heap[W.heap.size]? = some (.cells noDgRow 25)) := heap_alloc_new W _
  have HL : Hid (W.heap.size < (W.alloc noDgObj).heap.size) := (Array.getElem?_eq_some_iff.1 HZ.out).1
  have c0 := one_cell (be_block HB.out h0)
  have c1 := one_cell (be_block HB.out h1)
  have c2 := one_cell (be_block HB.out h2)
  clear hX h0 h1 h2
  generalize hW : W.alloc noDgObj = W1 at *
  unfold noDgObj at hW
  go_enter Tryd.func17, Tryd.ntmps17
  go_upto_region 1 with fail
  (try rw [hW])
  clear hW
  go_wp2_with fail
  refine HX.out.mono ?_
  rintro e w1 ⟨T, u, rfl, hc, hb⟩
  have HC := Lib.hid hc
  have HQ := Lib.hid (below_to HB.out hb HB.out.size)
  clear hc hb c0 c1 c2 HX HB HZ HL
  go_wp2_with fail
  exact ⟨rfl, _, _, rfl, HC.out, HQ.out⟩
set_option maxRecDepth 100000 in
set_option maxHeartbeats 2000000 in
theorem closP_ok (n0 n1 n2 : Nat) (v : Value) (s t : Nat) (W : World) (h0 : W.heap[n0]? = some (.cells #[v] 22)) (h1 : W.heap[n1]? = some (.cells #[.int .u32 (s : Int)] 32)) (h2 : W.heap[n2]? = some (.cells #[.int .u32 (t : Int)] 32)) (a b m : Nat) (p : Bool) (l : List UInt8) (hX : ∀ W', Below W.heap.size W W' → Calls Tryd.prog 18 #[v, .int .u32 (s : Int), .int .u32 (t : Int)] W' (PGot a b p l m W')) :
    Calls Tryd.prog 17 #[.pointer (some ⟨n0, 0, none⟩), .pointer (some ⟨n1, 0, none⟩), .pointer (some ⟨n2, 0, none⟩)] W (PGot a b p l m W) := by
  have HB := Lib.hid (below_al (Below.refl W.heap.size W) noDgObj)
  have HX := Lib.hid (hX _ HB.out)
  have HZ : Hid ((W.alloc noDgObj).heap[W.heap.size]? = some (.cells noDgRow 25)) := heap_alloc_new W _
  have HL : Hid (W.heap.size < (W.alloc noDgObj).heap.size) := (Array.getElem?_eq_some_iff.1 HZ.out).1
  have c0 := one_cell (be_block HB.out h0)
  have c1 := one_cell (be_block HB.out h1)
  have c2 := one_cell (be_block HB.out h2)
  clear hX h0 h1 h2
  generalize hW : W.alloc noDgObj = W1 at *
  unfold noDgObj at hW
  go_enter Tryd.func17, Tryd.ntmps17
  go_upto_region 1 with fail
  (try rw [hW])
  clear hW
  go_wp2_with fail
  refine HX.out.mono ?_
  rintro e w1 ⟨bb, rfl, h1, h2, h3⟩
  have HZ1 := Lib.hid (be_block h3 HZ.out)
  have HQ := Lib.hid (And.intro (Nat.lt_of_lt_of_le HL.out h1) (And.intro h2 (below_to HB.out h3 HB.out.size)))
  clear h1 h2 h3 c0 c1 c2 HX HB HZ HL
  go_wp2_with (refine wpList_store_row rfl 25 (.tmp 3) (.tmp 7) rfl W.heap.size #[.int .u16 a, .int .u16 b, .bool p, .slice (some ⟨bb, 0, none⟩) m m] rfl rfl 25 _ HZ1.out dgSize rfl (by simp [Value.oneCell']) ?_)
  (try simp only [Exit.inBlock, Exit.then])
  refine bodyPost_ret (results_cell_row rfl _ _ W.heap.size _ #[.int .u16 a, .int .u16 b, .bool p, .slice (some ⟨bb, 0, none⟩) m m] (0, 0) _ rfl (setRow_heap _ _ _ _ _ _ HZ1.out) Tryd.underlying25 rfl dgSize) rfl ?_
  exact ⟨bb, rfl, Nat.le_of_lt HQ.out.1, (setRow_other _ _ _ (Nat.ne_of_gt HQ.out.1)).trans HQ.out.2.1, ((Fr.of_below (p := fun _ => False) HQ.out.2.2).row (Nat.le_refl _) _).below (Nat.le_refl _) (fun _ h => h.elim)⟩
set_option maxRecDepth 100000 in
set_option maxHeartbeats 2000000 in
theorem uParse_err (n : Int) (l : List ByteArray) (A0 : Option Addr) (nn cp : Nat) (s t : Nat) (w : World) (hX : ∀ W', Below w.heap.size w W' → Calls Tryd.prog 18 #[.slice A0 nn cp, .int .u32 (s : Int), .int .u32 (t : Int)] W' (PErr n l W')) :
    Calls Tryd.prog 9 #[.slice A0 nn cp, .int .u32 (s : Int), .int .u32 (t : Int)] w (ToldErr (.agg noDgRow) n (udpWord :: l) w) := by
  have hb4 := below_al (below_al (below_al (below_al (Below.refl w.heap.size w) (.cells #[.slice A0 nn cp] 22)) (.cells #[.int .u32 (s : Int)] 32)) (.cells #[.int .u32 (t : Int)] 32)) noDgObj
  have b1 := below_al (Below.refl (w.alloc (.cells #[.slice A0 nn cp] 22)).heap.size _) (.cells #[.int .u32 (s : Int)] 32)
  have b2 := below_al (Below.refl ((w.alloc (.cells #[.slice A0 nn cp] 22)).alloc (.cells #[.int .u32 (s : Int)] 32)).heap.size _) (.cells #[.int .u32 (t : Int)] 32)
  have b3 := below_al (Below.refl (((w.alloc (.cells #[.slice A0 nn cp] 22)).alloc (.cells #[.int .u32 (s : Int)] 32)).alloc (.cells #[.int .u32 (t : Int)] 32)).heap.size _) noDgObj
  have k0 : ((((w.alloc (.cells #[.slice A0 nn cp] 22)).alloc (.cells #[.int .u32 (s : Int)] 32)).alloc (.cells #[.int .u32 (t : Int)] 32)).alloc noDgObj).heap[w.heap.size]? = some (.cells #[.slice A0 nn cp] 22) := be_block b3 (be_block b2 (be_block b1 (heap_alloc_new w _)))
  have k1 : ((((w.alloc (.cells #[.slice A0 nn cp] 22)).alloc (.cells #[.int .u32 (s : Int)] 32)).alloc (.cells #[.int .u32 (t : Int)] 32)).alloc noDgObj).heap[w.heap.size + 1]? = some (.cells #[.int .u32 (s : Int)] 32) := by
    have h := be_block b3 (be_block b2 (heap_alloc_new (w.alloc (.cells #[.slice A0 nn cp] 22)) (.cells #[.int .u32 (s : Int)] 32)))
    rwa [World.size_alloc] at h
  have k2 : ((((w.alloc (.cells #[.slice A0 nn cp] 22)).alloc (.cells #[.int .u32 (s : Int)] 32)).alloc (.cells #[.int .u32 (t : Int)] 32)).alloc noDgObj).heap[w.heap.size + 1 + 1]? = some (.cells #[.int .u32 (t : Int)] 32) := by
    have h := be_block b3 (heap_alloc_new ((w.alloc (.cells #[.slice A0 nn cp] 22)).alloc (.cells #[.int .u32 (s : Int)] 32)) (.cells #[.int .u32 (t : Int)] 32))
    rwa [World.size_alloc, World.size_alloc] at h
  have k3 : ((((w.alloc (.cells #[.slice A0 nn cp] 22)).alloc (.cells #[.int .u32 (s : Int)] 32)).alloc (.cells #[.int .u32 (t : Int)] 32)).alloc noDgObj).heap[w.heap.size + 1 + 1 + 1]? = some (.cells noDgRow 25) := by
    have h := heap_alloc_new (((w.alloc (.cells #[.slice A0 nn cp] 22)).alloc (.cells #[.int .u32 (s : Int)] 32)).alloc (.cells #[.int .u32 (t : Int)] 32)) noDgObj
    rw [World.size_alloc, World.size_alloc, World.size_alloc] at h
    exact h
  clear b1 b2 b3
  have HB := Lib.hid hb4
  have HZ := Lib.hid k3
  generalize hW : ((((w.alloc (.cells #[.slice A0 nn cp] 22)).alloc (.cells #[.int .u32 (s : Int)] 32)).alloc (.cells #[.int .u32 (t : Int)] 32)).alloc noDgObj) = W4 at *
  have bz := below_al (below_al (Below.refl W4.heap.size W4) noDgObj) (.cells #[.nilIface] 29)
  have X := Lib.hid (untilD_bad ⟨w.heap.size, 0, none⟩ ⟨w.heap.size + 1, 0, none⟩ ⟨w.heap.size + 1 + 1, 0, none⟩ n l W4 (closP_err _ _ _ (.slice A0 nn cp) s t _ (be_block bz k0) (be_block bz k1) (be_block bz k2) n l fun W' h => hX W' (below_to hb4 (below_to bz h bz.size) hb4.size)))
  clear hX k0 k1 k2 k3 hb4 bz
  unfold noDgObj at hW
  go_enter Tryd.func9, Tryd.ntmps9
  go_upto_region 1 with fail
  (try rw [hW])
  clear hW
  have hmf : ∀ (fn : Fn) (first cap : Array Value) (w : World), (Instr.makeFunc fn first cap).run Tryd.prog w = .ok (.func fn first cap) w := fun _ _ _ _ => rfl
  go_wp2_with fail
  refine X.out.mono ?_
  rintro e w1 ⟨bb, rfl, hc, hb⟩
  have HC := Lib.hid hc
  have HZ1 := Lib.hid (be_block hb HZ.out)
  have HQ := Lib.hid (below_to HB.out hb HB.out.size)
  clear hc hb HZ HB X hmf
  unfold noDgRow at *
  go_wp2_with (refine wpList_store_row rfl 25 (.tmp 6) (.tmp 10) rfl (w.heap.size + 1 + 1 + 1) noDgRow rfl rfl 25 _ HZ1.out dgSize rfl noDgRow_one ?_)
  (try simp only [Exit.inBlock, Exit.then])
  refine bodyPost_ret (results_cell_tmp_row rfl _ _ (w.heap.size + 1 + 1 + 1) _ noDgRow (0, 0) _ rfl (setRow_heap _ _ _ _ _ _ HZ1.out) Tryd.underlying25 rfl dgSize) rfl ?_
  exact ⟨_, rfl, HC.out.row HZ1.out noDgRow_plain, ((Fr.of_below (p := fun _ => False) HQ.out).row (Nat.le_add_right _ _) _).below (Nat.le_refl _) (fun _ h => h.elim)⟩
set_option maxRecDepth 100000 in
set_option maxHeartbeats 2000000 in
theorem uParse_got (a b m : Nat) (p : Bool) (l : List UInt8) (A0 : Option Addr) (nn cp : Nat) (s t : Nat) (w : World) (hX : ∀ W', Below w.heap.size w W' → Calls Tryd.prog 18 #[.slice A0 nn cp, .int .u32 (s : Int), .int .u32 (t : Int)] W' (PGot a b p l m W')) :
    Calls Tryd.prog 9 #[.slice A0 nn cp, .int .u32 (s : Int), .int .u32 (t : Int)] w fun e w' => ∃ bb, e = .returned (.tuple #[.agg #[.int .u16 a, .int .u16 b, .bool p, .slice (some ⟨bb, 0, none⟩) m m], .nilIface]) ∧ w.heap.size ≤ bb ∧ w'.heap[bb]? = some (bytesObj l) ∧ Below w.heap.size w w' := by
  have hb4 := below_al (below_al (below_al (below_al (Below.refl w.heap.size w) (.cells #[.slice A0 nn cp] 22)) (.cells #[.int .u32 (s : Int)] 32)) (.cells #[.int .u32 (t : Int)] 32)) noDgObj
  have b1 := below_al (Below.refl (w.alloc (.cells #[.slice A0 nn cp] 22)).heap.size _) (.cells #[.int .u32 (s : Int)] 32)
  have b2 := below_al (Below.refl ((w.alloc (.cells #[.slice A0 nn cp] 22)).alloc (.cells #[.int .u32 (s : Int)] 32)).heap.size _) (.cells #[.int .u32 (t : Int)] 32)
  have b3 := below_al (Below.refl (((w.alloc (.cells #[.slice A0 nn cp] 22)).alloc (.cells #[.int .u32 (s : Int)] 32)).alloc (.cells #[.int .u32 (t : Int)] 32)).heap.size _) noDgObj
  have k0 : ((((w.alloc (.cells #[.slice A0 nn cp] 22)).alloc (.cells #[.int .u32 (s : Int)] 32)).alloc (.cells #[.int .u32 (t : Int)] 32)).alloc noDgObj).heap[w.heap.size]? = some (.cells #[.slice A0 nn cp] 22) := be_block b3 (be_block b2 (be_block b1 (heap_alloc_new w _)))
  have k1 : ((((w.alloc (.cells #[.slice A0 nn cp] 22)).alloc (.cells #[.int .u32 (s : Int)] 32)).alloc (.cells #[.int .u32 (t : Int)] 32)).alloc noDgObj).heap[w.heap.size + 1]? = some (.cells #[.int .u32 (s : Int)] 32) := by
    have h := be_block b3 (be_block b2 (heap_alloc_new (w.alloc (.cells #[.slice A0 nn cp] 22)) (.cells #[.int .u32 (s : Int)] 32)))
    rwa [World.size_alloc] at h
  have k2 : ((((w.alloc (.cells #[.slice A0 nn cp] 22)).alloc (.cells #[.int .u32 (s : Int)] 32)).alloc (.cells #[.int .u32 (t : Int)] 32)).alloc noDgObj).heap[w.heap.size + 1 + 1]? = some (.cells #[.int .u32 (t : Int)] 32) := by
    have h := be_block b3 (heap_alloc_new ((w.alloc (.cells #[.slice A0 nn cp] 22)).alloc (.cells #[.int .u32 (s : Int)] 32)) (.cells #[.int .u32 (t : Int)] 32))
    rwa [World.size_alloc, World.size_alloc] at h
  have k3 : ((((w.alloc (.cells #[.slice A0 nn cp] 22)).alloc (.cells #[.int .u32 (s : Int)] 32)).alloc (.cells #[.int .u32 (t : Int)] 32)).alloc noDgObj).heap[w.heap.size + 1 + 1 + 1]? = some (.cells noDgRow 25) := by
    have h := heap_alloc_new (((w.alloc (.cells #[.slice A0 nn cp] 22)).alloc (.cells #[.int .u32 (s : Int)] 32)).alloc (.cells #[.int .u32 (t : Int)] 32)) noDgObj
    rw [World.size_alloc, World.size_alloc, World.size_alloc] at h
    exact h
  clear b1 b2 b3
  have HB := Lib.hid hb4
  have HZ := Lib.hid k3
  generalize hW : ((((w.alloc (.cells #[.slice A0 nn cp] 22)).alloc (.cells #[.int .u32 (s : Int)] 32)).alloc (.cells #[.int .u32 (t : Int)] 32)).alloc noDgObj) = W4 at *
  have bz := below_al (below_al (Below.refl W4.heap.size W4) noDgObj) (.cells #[.nilIface] 29)
  have X := Lib.hid (untilD_ok ⟨w.heap.size, 0, none⟩ ⟨w.heap.size + 1, 0, none⟩ ⟨w.heap.size + 1 + 1, 0, none⟩ a b m p l W4 (closP_ok _ _ _ (.slice A0 nn cp) s t _ (be_block bz k0) (be_block bz k1) (be_block bz k2) a b m p l fun W' h => hX W' (below_to hb4 (below_to bz h bz.size) hb4.size)))
  clear hX k0 k1 k2 k3 hb4 bz
  unfold noDgObj at hW
  go_enter Tryd.func9, Tryd.ntmps9
  go_upto_region 1 with fail
  (try rw [hW])
  clear hW
  have hmf : ∀ (fn : Fn) (first cap : Array Value) (w : World), (Instr.makeFunc fn first cap).run Tryd.prog w = .ok (.func fn first cap) w := fun _ _ _ _ => rfl
  go_wp2_with fail
  refine X.out.mono ?_
  rintro e w1 ⟨bb, rfl, h1, h2, h3⟩
  have HZ1 := Lib.hid (be_block h3 HZ.out)
  have HQ := Lib.hid (And.intro (Nat.lt_of_lt_of_le (Array.getElem?_eq_some_iff.1 HZ.out).1 h1) (And.intro h2 (below_to HB.out h3 HB.out.size)))
  clear h1 h2 h3 HZ HB X hmf
  go_wp2_with (refine wpList_store_row rfl 25 (.tmp 6) (.tmp 10) rfl (w.heap.size + 1 + 1 + 1) #[.int .u16 a, .int .u16 b, .bool p, .slice (some ⟨bb, 0, none⟩) m m] rfl rfl 25 _ HZ1.out dgSize rfl (by simp [Value.oneCell']) ?_)
  (try simp only [Exit.inBlock, Exit.then])
  refine bodyPost_ret (results_cell_tmp_row rfl _ _ (w.heap.size + 1 + 1 + 1) _ #[.int .u16 a, .int .u16 b, .bool p, .slice (some ⟨bb, 0, none⟩) m m] (0, 0) _ rfl (setRow_heap _ _ _ _ _ _ HZ1.out) Tryd.underlying25 rfl dgSize) rfl ?_
  have hlt := HQ.out.1
  exact ⟨bb, rfl, by omega, (setRow_other _ _ _ (Nat.ne_of_gt hlt)).trans HQ.out.2.1, ((Fr.of_below (p := fun _ => False) HQ.out.2.2).row (Nat.le_add_right _ _) _).below (Nat.le_refl _) (fun _ h => h.elim)⟩
set_option maxRecDepth 100000 in
set_option maxHeartbeats 2000000 in
theorem closB_err (d : Dg) (A : Option Addr) (cap : Nat) (n0 n1 n2 : Nat) (s t : Nat) (n : Int) (l : List ByteArray) (W : World) (h0 : DgAt W n0 d (.slice A d.b.length cap)) (h1 : W.heap[n1]? = some (.cells #[.int .u32 (s : Int)] 32)) (h2 : W.heap[n2]? = some (.cells #[.int .u32 (t : Int)] 32)) (hX : Calls Tryd.prog 24 #[.agg #[.int .u16 d.src, .int .u16 d.dst, .bool d.plain, .slice A d.b.length cap], .int .u32 (s : Int), .int .u32 (t : Int)] W (PErr n l W)) :
    Calls Tryd.prog 23 #[.pointer (some ⟨n0, 0, none⟩), .pointer (some ⟨n1, 0, none⟩), .pointer (some ⟨n2, 0, none⟩)] W (PErr n l W) := by
  have HX := Lib.hid hX
  obtain ⟨d0, d1, d2, d3⟩ := h0.cells
  have c1 := one_cell h1
  have c2 := one_cell h2
  clear hX h0 h1 h2
  go_enter Tryd.func23, Tryd.ntmps23
  go_wp2_with fail
  refine HX.out.mono ?_
  rintro e w1 ⟨T, u, rfl, hc, hb⟩
  have HC := Lib.hid hc
  have HQ := Lib.hid hb
  clear hc hb c1 c2 d0 d1 d2 d3 HX
  go_wp2_with fail
  exact ⟨rfl, _, _, rfl, HC.out, HQ.out⟩
set_option maxRecDepth 100000 in
set_option maxHeartbeats 2000000 in
theorem closB_ok (d : Dg) (A : Option Addr) (cap : Nat) (n0 n1 n2 : Nat) (s t : Nat) (l : List UInt8) (W : World) (h0 : DgAt W n0 d (.slice A d.b.length cap)) (h1 : W.heap[n1]? = some (.cells #[.int .u32 (s : Int)] 32)) (h2 : W.heap[n2]? = some (.cells #[.int .u32 (t : Int)] 32)) (hX : Calls Tryd.prog 24 #[.agg #[.int .u16 d.src, .int .u16 d.dst, .bool d.plain, .slice A d.b.length cap], .int .u32 (s : Int), .int .u32 (t : Int)] W (BytesTold l W)) :
    Calls Tryd.prog 23 #[.pointer (some ⟨n0, 0, none⟩), .pointer (some ⟨n1, 0, none⟩), .pointer (some ⟨n2, 0, none⟩)] W (BytesTold l W) := by
  have HX := Lib.hid hX
  obtain ⟨d0, d1, d2, d3⟩ := h0.cells
  have c1 := one_cell h1
  have c2 := one_cell h2
  clear hX h0 h1 h2
  go_enter Tryd.func23, Tryd.ntmps23
  go_wp2_with fail
  refine HX.out.mono ?_
  rintro e w1 ⟨b, rfl, h1, h2, h3⟩
  have HQ := Lib.hid (And.intro h1 (And.intro h2 h3))
  clear h1 h2 h3 c1 c2 d0 d1 d2 d3 HX
  go_wp2_with fail
  go_ret
  exact ⟨b, rfl, HQ.out⟩
set_option maxRecDepth 100000 in
set_option maxHeartbeats 2000000 in
theorem uBytes_err (n : Int) (l : List ByteArray) (d : Dg) (A : Option Addr) (cap : Nat) (s t : Nat) (w : World) (hX : ∀ W', Below w.heap.size w W' → Calls Tryd.prog 24 #[.agg #[.int .u16 d.src, .int .u16 d.dst, .bool d.plain, .slice A d.b.length cap], .int .u32 (s : Int), .int .u32 (t : Int)] W' (PErr n l W')) :
    Calls Tryd.prog 13 #[.agg #[.int .u16 d.src, .int .u16 d.dst, .bool d.plain, .slice A d.b.length cap], .int .u32 (s : Int), .int .u32 (t : Int)] w (ToldErr (.slice none 0 0) n (udpWord :: l) w) := by
  have hb3 := below_al (below_al (below_al (Below.refl w.heap.size w) (d.obj (.slice A d.b.length cap))) (.cells #[.int .u32 (s : Int)] 32)) (.cells #[.int .u32 (t : Int)] 32)
  have b1 := below_al (Below.refl (w.alloc (d.obj (.slice A d.b.length cap))).heap.size _) (.cells #[.int .u32 (s : Int)] 32)
  have b2 := below_al (Below.refl ((w.alloc (d.obj (.slice A d.b.length cap))).alloc (.cells #[.int .u32 (s : Int)] 32)).heap.size _) (.cells #[.int .u32 (t : Int)] 32)
  have k0 : DgAt (((w.alloc (d.obj (.slice A d.b.length cap))).alloc (.cells #[.int .u32 (s : Int)] 32)).alloc (.cells #[.int .u32 (t : Int)] 32)) w.heap.size d (.slice A d.b.length cap) := be_block b2 (be_block b1 (heap_alloc_new w _))
  have k1 : (((w.alloc (d.obj (.slice A d.b.length cap))).alloc (.cells #[.int .u32 (s : Int)] 32)).alloc (.cells #[.int .u32 (t : Int)] 32)).heap[w.heap.size + 1]? = some (.cells #[.int .u32 (s : Int)] 32) := by
    have h := be_block b2 (heap_alloc_new (w.alloc (d.obj (.slice A d.b.length cap))) (.cells #[.int .u32 (s : Int)] 32))
    rwa [World.size_alloc] at h
  have k2 : (((w.alloc (d.obj (.slice A d.b.length cap))).alloc (.cells #[.int .u32 (s : Int)] 32)).alloc (.cells #[.int .u32 (t : Int)] 32)).heap[w.heap.size + 1 + 1]? = some (.cells #[.int .u32 (t : Int)] 32) := by
    have h := heap_alloc_new ((w.alloc (d.obj (.slice A d.b.length cap))).alloc (.cells #[.int .u32 (s : Int)] 32)) (.cells #[.int .u32 (t : Int)] 32)
    rwa [World.size_alloc, World.size_alloc] at h
  clear b1 b2
  have HB := Lib.hid hb3
  generalize hW : (((w.alloc (d.obj (.slice A d.b.length cap))).alloc (.cells #[.int .u32 (s : Int)] 32)).alloc (.cells #[.int .u32 (t : Int)] 32)) = W3 at *
  have bz := below_al (Below.refl W3.heap.size W3) (.cells #[.nilIface] 29)
  have X := Lib.hid (untilB_bad ⟨w.heap.size, 0, none⟩ ⟨w.heap.size + 1, 0, none⟩ ⟨w.heap.size + 1 + 1, 0, none⟩ n l W3 (closB_err d A cap _ _ _ s t n l _ (k0.below bz) (be_block bz k1) (be_block bz k2) (hX _ (below_to hb3 bz hb3.size))))
  clear hX k0 k1 k2 hb3 bz
  unfold Dg.obj at hW
  go_enter Tryd.func13, Tryd.ntmps13
  go_upto_region 1 with fail
  (try rw [hW])
  clear hW
  have hmf : ∀ (fn : Fn) (first cap : Array Value) (w : World), (Instr.makeFunc fn first cap).run Tryd.prog w = .ok (.func fn first cap) w := fun _ _ _ _ => rfl
  go_wp2_with fail
  refine X.out.mono ?_
  rintro e w1 ⟨bb, rfl, hc, hb⟩
  have HC := Lib.hid hc
  have HQ := Lib.hid (below_to HB.out hb HB.out.size)
  clear hc hb HB X hmf
  go_wp2_with fail
  go_ret2
  exact ⟨_, rfl, HC.out, HQ.out⟩
set_option maxRecDepth 100000 in
set_option maxHeartbeats 2000000 in
theorem uBytes_told (l : List UInt8) (d : Dg) (A : Option Addr) (cap : Nat) (s t : Nat) (w : World) (hX : ∀ W', Below w.heap.size w W' → Calls Tryd.prog 24 #[.agg #[.int .u16 d.src, .int .u16 d.dst, .bool d.plain, .slice A d.b.length cap], .int .u32 (s : Int), .int .u32 (t : Int)] W' (BytesTold l W')) :
    Calls Tryd.prog 13 #[.agg #[.int .u16 d.src, .int .u16 d.dst, .bool d.plain, .slice A d.b.length cap], .int .u32 (s : Int), .int .u32 (t : Int)] w fun e w' => ∃ b, e = .returned (.tuple #[.slice (some ⟨b, 0, none⟩) l.length l.length, .nilIface]) ∧ w.heap.size ≤ b ∧ w'.heap[b]? = some (bytesObj l) ∧ Below w.heap.size w w' := by
  have hb3 := below_al (below_al (below_al (Below.refl w.heap.size w) (d.obj (.slice A d.b.length cap))) (.cells #[.int .u32 (s : Int)] 32)) (.cells #[.int .u32 (t : Int)] 32)
  have b1 := below_al (Below.refl (w.alloc (d.obj (.slice A d.b.length cap))).heap.size _) (.cells #[.int .u32 (s : Int)] 32)
  have b2 := below_al (Below.refl ((w.alloc (d.obj (.slice A d.b.length cap))).alloc (.cells #[.int .u32 (s : Int)] 32)).heap.size _) (.cells #[.int .u32 (t : Int)] 32)
  have k0 : DgAt (((w.alloc (d.obj (.slice A d.b.length cap))).alloc (.cells #[.int .u32 (s : Int)] 32)).alloc (.cells #[.int .u32 (t : Int)] 32)) w.heap.size d (.slice A d.b.length cap) := be_block b2 (be_block b1 (heap_alloc_new w _))
  have k1 : (((w.alloc (d.obj (.slice A d.b.length cap))).alloc (.cells #[.int .u32 (s : Int)] 32)).alloc (.cells #[.int .u32 (t : Int)] 32)).heap[w.heap.size + 1]? = some (.cells #[.int .u32 (s : Int)] 32) := by
    have h := be_block b2 (heap_alloc_new (w.alloc (d.obj (.slice A d.b.length cap))) (.cells #[.int .u32 (s : Int)] 32))
    rwa [World.size_alloc] at h
  have k2 : (((w.alloc (d.obj (.slice A d.b.length cap))).alloc (.cells #[.int .u32 (s : Int)] 32)).alloc (.cells #[.int .u32 (t : Int)] 32)).heap[w.heap.size + 1 + 1]? = some (.cells #[.int .u32 (t : Int)] 32) := by
    have h := heap_alloc_new ((w.alloc (d.obj (.slice A d.b.length cap))).alloc (.cells #[.int .u32 (s : Int)] 32)) (.cells #[.int .u32 (t : Int)] 32)
    rwa [World.size_alloc, World.size_alloc] at h
  clear b1 b2
  have HB := Lib.hid hb3
  generalize hW : (((w.alloc (d.obj (.slice A d.b.length cap))).alloc (.cells #[.int .u32 (s : Int)] 32)).alloc (.cells #[.int .u32 (t : Int)] 32)) = W3 at *
  have bz := below_al (Below.refl W3.heap.size W3) (.cells #[.nilIface] 29)
  have X := Lib.hid (untilB_ok ⟨w.heap.size, 0, none⟩ ⟨w.heap.size + 1, 0, none⟩ ⟨w.heap.size + 1 + 1, 0, none⟩ l W3 (closB_ok d A cap _ _ _ s t l _ (k0.below bz) (be_block bz k1) (be_block bz k2) (hX _ (below_to hb3 bz hb3.size))))
  clear hX k0 k1 k2 hb3 bz
  unfold Dg.obj at hW
  go_enter Tryd.func13, Tryd.ntmps13
  go_upto_region 1 with fail
  (try rw [hW])
  clear hW
  have hmf : ∀ (fn : Fn) (first cap : Array Value) (w : World), (Instr.makeFunc fn first cap).run Tryd.prog w = .ok (.func fn first cap) w := fun _ _ _ _ => rfl
  go_wp2_with fail
  refine X.out.mono ?_
  rintro e w1 ⟨b, rfl, h1, h2, h3⟩
  have HQ := Lib.hid (And.intro (Nat.le_trans HB.out.size h1) (And.intro h2 (below_to HB.out h3 HB.out.size)))
  clear h1 h2 h3 HB X hmf
  go_wp2_with fail
  go_ret2
  exact ⟨b, rfl, HQ.out⟩
/-- What udp tells of a wrong call. -/
def UErr (v : Value) (n : Int) (l : List ByteArray) (w : World) (e : Ending) (w' : World) : Prop := ToldErr v n (udpWord :: l) w e w'
theorem uBytes_big (d : Dg) (hd : d.In) (hn : 65515 < d.n) (A : Option Addr) (cap : Nat) (s t : Nat) (w : World) :
    Calls Tryd.prog 13 #[.agg #[.int .u16 d.src, .int .u16 d.dst, .bool d.plain, .slice A d.b.length cap], .int .u32 (s : Int), .int .u32 (t : Int)] w (ToldErr (.slice none 0 0) 7 [udpWord] w) :=
  uBytes_err 7 [] d A cap s t w fun W' _ => (utold_big d hd hn A cap s t W').mono fun _ _ ⟨he, hb⟩ => ⟨_, _, he, chain_errno _ _, hb⟩
theorem uBytes_ok (d : Dg) (hd : d.In) (hn : d.n ≤ 65515) (A : Option Addr) (cap : Nat) (s t : Nat) (w : World) (hr : Rd w (.slice A d.b.length cap) d.b) :
    Calls Tryd.prog 13 #[.agg #[.int .u16 d.src, .int .u16 d.dst, .bool d.plain, .slice A d.b.length cap], .int .u32 (s : Int), .int .u32 (t : Int)] w fun e w' => ∃ b, e = .returned (.tuple #[.slice (some ⟨b, 0, none⟩) d.n d.n, .nilIface]) ∧ w.heap.size ≤ b ∧ w'.heap[b]? = some (bytesObj (d.bs s t)) ∧ Below w.heap.size w w' := by
  have h := uBytes_told (d.bs s t) d A cap s t w fun W' hb => (utold_ok d hd hn A cap s t W' (hr.below hb)).mono fun e w' ⟨b, he, h1, h2, h3⟩ => ⟨b, by rw [d.bs_len s t]; exact he, h1, h2, h3⟩
  rw [d.bs_len s t] at h
  exact h
/-- What a header and bytes are told as: 0 if they are a datagram's. -/
def ucode (s t a b n c : Nat) (r : List UInt8) : Nat := if n < 8 then 3 else if 8 + r.length < n then 2 else if c ≠ 0 ∧ ck (psd s t 17 (n : Nat) ++ (hd8 a b n c ++ r).take n) ≠ 0 then 4 else 0
def PDgTold (d : Dg) (w : World) (e : Ending) (w' : World) : Prop := ∃ bb, e = .returned (.tuple #[.agg #[.int .u16 d.src, .int .u16 d.dst, .bool d.plain, .slice (some ⟨bb, 0, none⟩) d.b.length d.b.length], .nilIface]) ∧ w.heap.size ≤ bb ∧ w'.heap[bb]? = some (bytesObj d.b) ∧ Below w.heap.size w w'
theorem uParse_short (l : List UInt8) (hs : l.length < 8) (A : Option Addr) (cap : Nat) (s t : Nat) (w : World) (hr : Rd w (.slice A l.length cap) l) :
    Calls Tryd.prog 9 #[.slice A l.length cap, .int .u32 (s : Int), .int .u32 (t : Int)] w (ToldErr (.agg noDgRow) 2 [udpWord, octetsWord] w) :=
  uParse_err 2 [octetsWord] A l.length cap s t w fun W' hb => uparse_short l hs _ s t W' (hr.below hb)
theorem uParse_long (a : Nat) (ha : a < 65536) (b : Nat) (hb : b < 65536) (n : Nat) (hn : n < 65536) (c : Nat) (hc : c < 65536) (r : List UInt8) (A : Option Addr) (cap : Nat) (s t : Nat) (w : World) (hr : Rd w (.slice A (8 + r.length) cap) (hd8 a b n c ++ r)) (hL : (hd8 a b n c ++ r).length ≤ 1099511627776) :
    Calls Tryd.prog 9 #[.slice A (8 + r.length) cap, .int .u32 (s : Int), .int .u32 (t : Int)] w fun e w' => (ucode s t a b n c r ≠ 0 ∧ ToldErr (.agg noDgRow) (ucode s t a b n c r) [udpWord] w e w') ∨ (ucode s t a b n c r = 0 ∧ PDgTold ⟨a, b, decide (c = 0), r.take (n - 8)⟩ w e w') := by
  unfold ucode
  by_cases h1 : n < 8
  · rw [if_pos h1]
    exact (uParse_err 3 [] A _ cap s t w fun W' h => uparse_form a ha b hb n hn c hc r s t h1 A cap W' (hr.below h) hL).mono fun e w' he => .inl ⟨by decide, he⟩
  · rw [if_neg h1]
    by_cases h2 : 8 + r.length < n
    · rw [if_pos h2]
      exact (uParse_err 2 [] A _ cap s t w fun W' h => uparse_less a ha b hb n hn c hc r s t (by omega) h2 A cap W' (hr.below h) hL).mono fun e w' he => .inl ⟨by decide, he⟩
    · rw [if_neg h2]
      have hm : (r.take (n - 8)).length = n - 8 := by rw [List.length_take]; omega
      by_cases h3 : c = 0
      · rw [if_neg (by rintro ⟨h, _⟩; exact h h3), decide_eq_true h3]
        refine (uParse_got a b (n - 8) true (r.take (n - 8)) A _ cap s t w fun W' h => uparse_plain a ha b hb n hn c hc r s t (by omega) (by omega) h3 A cap W' (hr.below h) hL).mono ?_
        rintro e w' ⟨bb, he, hq⟩
        exact .inr ⟨rfl, bb, by rw [hm]; exact he, hq⟩
      · by_cases h4 : ck (psd s t 17 (n : Nat) ++ (hd8 a b n c ++ r).take n) = 0
        · rw [if_neg (by rintro ⟨_, h⟩; exact h h4), decide_eq_false h3]
          refine (uParse_got a b (n - 8) false (r.take (n - 8)) A _ cap s t w fun W' h => uparse_ok a ha b hb n hn c hc r s t (by omega) (by omega) h3 h4 A cap W' (hr.below h) hL).mono ?_
          rintro e w' ⟨bb, he, hq⟩
          exact .inr ⟨rfl, bb, by rw [hm]; exact he, hq⟩
        · rw [if_pos ⟨h3, h4⟩]
          exact (uParse_err 4 [] A _ cap s t w fun W' h => uparse_sum a ha b hb n hn c hc r s t (by omega) (by omega) h3 h4 A cap W' (hr.below h) hL).mono fun e w' he => .inl ⟨by decide, he⟩
end Go.Proofs.YtikcnlcpbifobaaDoor
