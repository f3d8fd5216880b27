/-
  What is proved: icmp's parse and Parse by contract: bytes that end too early, a sum that is another one, a message.
  Conditions: the bytes are fewer than 2^40.
-/
import Derived.Test.YtlhanaglhkmcfaaDoorINext
import Derived.Test.YtlhanaglhkmcfaaDoorITurn
namespace Go.Proofs.YtlhanaglhkmcfaaDoor
open Go.RowKit

def noMs : Ms := ⟨0, 0, 0, []⟩
def noMsRow : Array Value := #[.int .u8 0, .int .u8 0, .int .u32 0, .slice none 0 0]
def noMsVal : Value := .agg #[.int .u8 0, .int .u8 0, .int .u32 0, .slice none 0 0]
def noMsObj : Obj := .cells #[.int .u8 0, .int .u8 0, .int .u32 0, .slice none 0 0] 25
theorem noMs_obj : noMs.obj (.slice none 0 0) = noMsObj := rfl
theorem noMsRow_one : noMsRow.all (·.oneCell') = true := by simp [noMsRow, Value.oneCell']
theorem noMsRow_plain : Plain noMsRow := msRow_plain noMs none 0 0
/-- What is told of what is no message. -/
def MErr (n : Int) (l : List ByteArray) (w : World) (e : Ending) (w' : World) : Prop := ∃ (T : TypeId) (u : Value), e = .returned (.tuple #[noMsVal, .iface T u]) ∧ Chain w' n l (.iface T u) ∧ Below w.heap.size w w'
/-- What is told of a message. -/
def MOk (m : Ms) (w : World) (e : Ending) (w' : World) : Prop := ∃ b, e = .returned (.tuple #[.agg #[.int .u8 m.typ, .int .u8 m.code, .int .u32 m.rest, .slice (some ⟨b, 0, none⟩) m.b.length m.b.length], .nilIface]) ∧ w.heap.size ≤ b ∧ BAt w' b m.b ∧ Below w.heap.size w w'

theorem Fr.msAt {q : Nat} {W W' : World} {G : Nat} {m : Ms} {bv : Value} (hf : Fr (· = ⟨q, 0, none⟩) W W') (h : MsAt W G m bv) (hq : G ≠ q) : MsAt W' G m bv :=
  (hf.block G h.lt (fun a ha => by subst ha; exact fun e => hq e.symm)).trans h
/-- The numbers' block, where fewer than 'k' bytes are left, or bytes ended too early. -/
def NsX (w W : World) (K : Nat) (k : Nat) : Prop := (∃ q bs, Ns w W K q .nilIface bs ∧ bs.length < k) ∨ (∃ q ev, NsE w W K q ev)
theorem NsX.e {w W : World} {K : Nat} (h : NsX w W K 0) : ∃ q ev, NsE w W K q ev := by
  rcases h with ⟨q, bs, _, h⟩ | h
  · omega
  · exact h
theorem be2_pair (x y : UInt8) : ∃ n, n < 65536 ∧ be2 n = [x, y] := by
  have hx := x.toNat_lt
  have hy := y.toNat_lt
  have ofe : ∀ (u : UInt8) (n : Nat), n % 256 = u.toNat → UInt8.ofNat n = u := fun u n h => by apply UInt8.toNat_inj.1; rw [ofNat_lt, h]
  refine ⟨x.toNat * 256 + y.toNat, by omega, ?_⟩
  unfold be2
  rw [ofe x _ (by omega), ofe y _ (by omega)]
theorem next8_x {w W : World} {K k : Nat} (h : NsX w W K (k + 1)) :
    Calls Tryd.prog 33 #[.pointer (some ⟨K, 0, none⟩), .func (.func 34) #[] #[]] W fun e w' => ∃ z : Int, e = .returned (.int .u8 z) ∧ NsX w w' K k := by
  rcases h with ⟨q, bs, h, hl⟩ | ⟨q, ev, h⟩
  · by_cases hs : bs.length < 1
    · refine (next8_short h hs).mono ?_
      rintro e w' ⟨rfl, ev, he⟩
      exact ⟨0, rfl, .inr ⟨q, ev, he⟩⟩
    · match bs, hl with
      | [], _ => exact absurd (by simp) hs
      | b :: r, hl =>
        have hb : UInt8.ofNat b.toNat = b := by apply UInt8.toNat_inj.1; rw [ofNat_lt]; exact Nat.mod_eq_of_lt b.toNat_lt
        rw [← hb] at h
        refine (next8_ok b.toNat b.toNat_lt h).mono ?_
        rintro e w' ⟨rfl, he⟩
        exact ⟨_, rfl, .inl ⟨q, r, he, by simp at hl; omega⟩⟩
  · refine (next8_err h).mono ?_
    rintro e w' ⟨rfl, rfl⟩
    exact ⟨0, rfl, .inr ⟨q, ev, h⟩⟩
theorem next16_x {w W : World} {K k : Nat} (h : NsX w W K (k + 2)) :
    Calls Tryd.prog 35 #[.pointer (some ⟨K, 0, none⟩), .func (.func 36) #[] #[]] W fun e w' => ∃ z : Int, e = .returned (.int .u16 z) ∧ NsX w w' K k := by
  rcases h with ⟨q, bs, h, hl⟩ | ⟨q, ev, h⟩
  · by_cases hs : bs.length < 2
    · refine (next16_short h hs).mono ?_
      rintro e w' ⟨rfl, ev, he⟩
      exact ⟨0, rfl, .inr ⟨q, ev, he⟩⟩
    · match bs, hl with
      | [], _ => exact absurd (by simp) hs
      | [b], _ => exact absurd (by simp) hs
      | b :: c :: r, hl =>
        obtain ⟨n, hn, hb⟩ := be2_pair b c
        have hb2 : b :: c :: r = be2 n ++ r := by rw [hb]; rfl
        rw [hb2] at h
        refine (next16_ok n hn h).mono ?_
        rintro e w' ⟨rfl, he⟩
        exact ⟨_, rfl, .inl ⟨q, r, he, by simp at hl; omega⟩⟩
  · refine (next16_err h).mono ?_
    rintro e w' ⟨rfl, rfl⟩
    exact ⟨0, rfl, .inr ⟨q, ev, h⟩⟩
theorem next32_x {w W : World} {K : Nat} (h : NsX w W K 4) :
    Calls Tryd.prog 37 #[.pointer (some ⟨K, 0, none⟩), .func (.func 38) #[] #[]] W fun e w' => ∃ z : Int, e = .returned (.int .u32 z) ∧ NsX w w' K 0 := by
  rcases h with ⟨q, bs, h, hl⟩ | ⟨q, ev, h⟩
  · by_cases hs : bs.length < 4
    · refine (next32_short h hs).mono ?_
      rintro e w' ⟨rfl, ev, he⟩
      exact ⟨0, rfl, .inr ⟨q, ev, he⟩⟩
    · exact absurd hl hs
  · refine (next32_err h).mono ?_
    rintro e w' ⟨rfl, rfl⟩
    exact ⟨0, rfl, .inr ⟨q, ev, h⟩⟩
set_option maxRecDepth 100000 in
set_option maxHeartbeats 4000000 in
theorem iparse_short (bs : List UInt8) (v : Value) (w : World) (hr : Rd w v bs) (hs : bs.length < 8) :
    Calls Tryd.prog 18 #[v] w (MErr 2 [octetsWord] w) := by
  have hL : bs.length ≤ 1099511627776 := by omega
  have HX := Lib.hid (MsAt.new w noMs (.slice none 0 0))
  have HB := Lib.hid (below_al (Below.refl w.heap.size w) noMsObj)
  have HR := Lib.hid (Read_facts v (bs) (w.alloc noMsObj) (hr.below (below_al (Below.refl _ _) _)) hL)
  rw [noMs_obj] at HX
  have HL := Lib.hid hL
  have HG : Hid (w.heap.size < (w.alloc noMsObj).heap.size) := by show _ < _; simp
  have HS : Hid (bs.length < 8) := hs
  clear hr hs hL
  generalize hW : w.alloc noMsObj = W at HX HB HR HG
  unfold noMsObj at hW
  go_enter Tryd.func18, Tryd.ntmps18
  go_upto_region 1 with fail
  clear hW
  go_wp2_with fail
  refine HR.out.mono ?_
  rintro e w1 ⟨q, rfl, h1, h2, h3⟩
  have N0 : Hid (Ns W (w1.alloc (.cells #[.pointer (some ⟨q, 0, none⟩), .nilIface] 76)) w1.heap.size q .nilIface (bs)) :=
    ⟨heap_alloc_new w1 _, ⟨h2.below (below_al (Below.refl _ _) _), below_al h3 _, h1, HL.out⟩, h3.size, by have a := h2.at_; simp at a; omega⟩
  clear h1 h2 h3 HR
  go_upto_region 2 with fail
  generalize w1.alloc (.cells #[.pointer (some ⟨q, 0, none⟩), .nilIface] 76) = w2 at *
  generalize w1.heap.size = K at *
  have X0 : Hid (NsX W w2 K (6 + 1 + 1)) := .inl ⟨q, bs, N0.out, HS.out⟩
  clear N0
  go_wp2_with fail
  refine (next8_x X0.out).mono ?_
  rintro e w3 ⟨z1, rfl, h3⟩
  have X1 := Lib.hid h3
  clear h3 X0
  go_wp2_with fail
  refine (next8_x X1.out).mono ?_
  rintro e w4 ⟨z2, rfl, h4⟩
  have X2 : Hid (NsX W w4 K (4 + 2)) := h4
  clear h4 X1
  go_wp2_with fail
  refine (next16_x X2.out).mono ?_
  rintro e w5 ⟨z3, rfl, h5⟩
  have X3 := Lib.hid h5
  clear h5 X2
  go_wp2_with fail
  refine (next32_x X3.out).mono ?_
  rintro e w6 ⟨z4, rfl, h6⟩
  obtain ⟨q6, ev, hE⟩ := h6.e
  clear h6 X3
  obtain ⟨b, rfl⟩ := hE.told
  obtain ⟨c0, c1, k1⟩ := ns_cells hE.at_
  have HZ := Lib.hid (HX.out.below hE.old)
  have HQ := Lib.hid (below_to HB.out hE.old HB.out.size)
  have HC := Lib.hid hE.chain
  have HK : Hid (w.heap.size < K) := by have a := hE.new; have b := HG.out; show _ < _; omega
  clear hE HX HB
  go_upto_region 6 with fail
  have HZd : Hid (w6.drew.heap[w.heap.size]? = some (noMs.obj (.slice none 0 0))) := HZ.out
  have d1 : (w6.drew.setRow w.heap.size noMsRow).cell? ⟨K, 1, none⟩ = some (.iface 87 (.pointer (some ⟨b, 0, none⟩))) := by
    rw [World.cell?_of_block (setRow_other w6.drew w.heap.size noMsRow (Nat.ne_of_gt HK.out))]
    exact c1
  have HCd : Hid (Chain w6.drew 2 [octetsWord] (.iface 87 (.pointer (some ⟨b, 0, none⟩)))) := HC.out.below (below_drew w6)
  have HQd : Hid (Below w.heap.size w w6.drew) := vbelow_dr HQ.out
  refine wp_region_any (by kernel_rfl) ?_
  change wpAny _ _ _ _ _ _ _ (World.drew _)
  clear k1
  refine wpAny_take (i := 0) (oi := ⟨some 25, _, _, _, _, _⟩) (v := .agg #[.int .u8 0, .int .u8 0, .int .u32 0, .slice none 0 0]) rfl (by kernel_rfl) (by kernel_rfl) (by kernel_rfl) (fun _ _ _ h => h) (Or.inl ⟨by rfl, ?_⟩) ?_
  · intro W
    go_simp
  try simp only [Act.put, List.setIfInBounds_toArray, List.set_cons_zero, List.set_cons_succ]
  refine wpAny_take (i := 1) (oi := ⟨some 26, _, _, _, _, _⟩) (v := (.pointer (some ⟨K, 0, none⟩))) rfl (by kernel_rfl) (by kernel_rfl) (by kernel_rfl) (fun _ _ _ h => h) (Or.inl ⟨by rfl, ?_⟩) ?_
  · intro W
    go_simp
  try simp only [Act.put, List.setIfInBounds_toArray, List.set_cons_zero, List.set_cons_succ]
  refine wpAny_take (i := 2) (oi := ⟨some 27, _, _, _, _, _⟩) (v := (.pointer (some ⟨K, 0, none⟩))) rfl (by kernel_rfl) (by kernel_rfl) (by kernel_rfl) (fun _ _ _ h => h) (Or.inl ⟨by rfl, ?_⟩) ?_
  · intro W
    go_simp
  try simp only [Act.put, List.setIfInBounds_toArray, List.set_cons_zero, List.set_cons_succ]
  refine wpAny_take (i := 3) (oi := ⟨some 28, _, _, _, _, _⟩) (v := (.pointer (some ⟨K, 1, none⟩))) rfl (by kernel_rfl) (by kernel_rfl) (by kernel_rfl) (fun _ _ _ h => h) (Or.inl ⟨by rfl, ?_⟩) ?_
  · intro W
    go_simp
  try simp only [Act.put, List.setIfInBounds_toArray, List.set_cons_zero, List.set_cons_succ]
  refine wpAny_ready (rs := [4, 5]) (by kernel_rfl) (by simp) ?_
  refine AllReady.cons (o := ⟨some 29, _, _, _, _, _⟩) rfl (fun K hK => ?_) ?_
  · go_simp
    refine hK _ _ ?_
    clear hK K
    try simp only [Act.put, List.setIfInBounds_toArray, List.set_cons_zero, List.set_cons_succ]
    refine wpAny_ready (rs := [5]) (by kernel_rfl) (by simp) ?_
    refine AllReady.cons (o := ⟨none, _, _, _, _, _⟩) rfl (fun K hK => ?_) ?_
    · refine step_store_row rfl 25 (.tmp 2) (.tmp 25) rfl w.heap.size noMsRow rfl rfl _ _ HZd.out msSize rfl noMsRow_one rfl ?_
      refine hK _ _ ?_
      clear hK K
      try simp only [Act.put]
      refine wpAny_take (i := 6) (oi := ⟨some 3, _, _, _, _, _⟩) (v := (.iface 87 (.pointer (some ⟨b, 0, none⟩)))) rfl (by kernel_rfl) (by kernel_rfl) (by kernel_rfl) (fun _ _ _ h => h) (Or.inl ⟨by rfl, ?_⟩) ?_
      · intro W
        go_simp
      try simp only [Act.put, List.setIfInBounds_toArray, List.set_cons_zero, List.set_cons_succ]
      refine wpAny_done (by kernel_rfl) ?_ _
      go_wp2_with fail
      (try simp only [Exit.inBlock, Exit.then])
      refine bodyPost_ret (results_cell_tmp_row rfl _ _ w.heap.size _ noMsRow (0, 0) _ rfl (setRow_heap _ _ _ _ _ _ HZd.out) Tryd.underlying25 rfl msSize) rfl ?_
      exact ⟨_, _, rfl, HCd.out.row HZd.out noMsRow_plain, ((Fr.of_below (p := fun _ => False) HQd.out).row (Nat.le_refl _) _).below (Nat.le_refl _) (fun _ h => h.elim)⟩
    exact AllReady.nil
  refine AllReady.cons (o := ⟨none, _, _, _, _, _⟩) rfl (fun K hK => ?_) ?_
  · refine step_store_row rfl 25 (.tmp 2) (.tmp 25) rfl w.heap.size noMsRow rfl rfl _ _ HZd.out msSize rfl noMsRow_one rfl ?_
    refine hK _ _ ?_
    clear hK K
    try simp only [Act.put]
    refine wpAny_ready (rs := [4]) (by kernel_rfl) (by simp) ?_
    refine AllReady.cons (o := ⟨some 29, _, _, _, _, _⟩) rfl (fun K hK => ?_) ?_
    · go_simp
      refine hK _ _ ?_
      clear hK K
      try simp only [Act.put, List.setIfInBounds_toArray, List.set_cons_zero, List.set_cons_succ]
      refine wpAny_take (i := 6) (oi := ⟨some 3, _, _, _, _, _⟩) (v := (.iface 87 (.pointer (some ⟨b, 0, none⟩)))) rfl (by kernel_rfl) (by kernel_rfl) (by kernel_rfl) (fun _ _ _ h => h) (Or.inl ⟨by rfl, ?_⟩) ?_
      · intro W
        go_simp
      try simp only [Act.put, List.setIfInBounds_toArray, List.set_cons_zero, List.set_cons_succ]
      refine wpAny_done (by kernel_rfl) ?_ _
      go_wp2_with fail
      (try simp only [Exit.inBlock, Exit.then])
      refine bodyPost_ret (results_cell_tmp_row rfl _ _ w.heap.size _ noMsRow (0, 0) _ rfl (setRow_heap _ _ _ _ _ _ HZd.out) Tryd.underlying25 rfl msSize) rfl ?_
      exact ⟨_, _, rfl, HCd.out.row HZd.out noMsRow_plain, ((Fr.of_below (p := fun _ => False) HQd.out).row (Nat.le_refl _) _).below (Nat.le_refl _) (fun _ h => h.elim)⟩
    exact AllReady.nil
  exact AllReady.nil
set_option maxRecDepth 100000 in
set_option maxHeartbeats 4000000 in
theorem iparse_sum (t c s r : Nat) (x : List UInt8) (ht : t < 256) (hc : c < 256) (hs : s < 65536) (hr4 : r < 4294967296) (v : Value) (w : World) (hr : Rd w v (hi8 t c s r ++ x)) (hL : (hi8 t c s r ++ x).length ≤ 1099511627776) (hk : ck (hi8 t c s r ++ x) ≠ 0) :
    Calls Tryd.prog 18 #[v] w (MErr 4 [] w) := by
  have hr0 := hr
  obtain ⟨A, cap, rfl, _, _⟩ := hr
  have HX := Lib.hid (MsAt.new w noMs (.slice none 0 0))
  have HB := Lib.hid (below_al (Below.refl w.heap.size w) noMsObj)
  have HR := Lib.hid (Read_facts (.slice A (hi8 t c s r ++ x).length cap) (hi8 t c s r ++ x) (w.alloc noMsObj) (hr0.below (below_al (Below.refl _ _) _)) hL)
  rw [noMs_obj] at HX
  have HL := Lib.hid hL
  have HV : Hid (Rd w (.slice A (hi8 t c s r ++ x).length cap) (hi8 t c s r ++ x)) := hr0
  have HG : Hid (w.heap.size < (w.alloc noMsObj).heap.size) := by show _ < _; simp
  have HT : Hid (t < 256 ∧ c < 256 ∧ s < 65536 ∧ r < 4294967296) := ⟨ht, hc, hs, hr4⟩
  have HK0 := Lib.hid hk
  clear hr0 hL ht hc hs hr4 hk
  generalize hln : (hi8 t c s r ++ x).length = ln at *
  have HLN := Lib.hid hln
  clear hln
  generalize hW : w.alloc noMsObj = W at HX HB HR HG
  unfold noMsObj at hW
  go_enter Tryd.func18, Tryd.ntmps18
  go_upto_region 1 with fail
  clear hW
  go_wp2_with fail
  refine HR.out.mono ?_
  rintro e w1 ⟨q, rfl, h1, h2, h3⟩
  have N0 : Hid (Ns W (w1.alloc (.cells #[.pointer (some ⟨q, 0, none⟩), .nilIface] 76)) w1.heap.size q .nilIface (UInt8.ofNat t :: UInt8.ofNat c :: (be2 s ++ (be4 r ++ x)))) :=
    ⟨heap_alloc_new w1 _, ⟨h2.below (below_al (Below.refl _ _) _), below_al h3 _, h1, by have := HL.out; rw [← HLN.out] at this; exact this⟩, h3.size, by have a := h2.at_; simp at a; omega⟩
  clear h1 h2 h3 HR
  go_upto_region 2 with fail
  generalize w1.alloc (.cells #[.pointer (some ⟨q, 0, none⟩), .nilIface] 76) = w2 at *
  generalize w1.heap.size = K at *
  go_wp2_with fail
  refine (next8_ok t HT.out.1 N0.out).mono ?_
  rintro e w3 ⟨rfl, h3⟩
  have N1 := Lib.hid h3
  clear h3 N0
  go_wp2_with fail
  refine (next8_ok c HT.out.2.1 N1.out).mono ?_
  rintro e w4 ⟨rfl, h4⟩
  have N2 := Lib.hid h4
  clear h4 N1
  go_wp2_with fail
  refine (next16_ok s HT.out.2.2.1 N2.out).mono ?_
  rintro e w5 ⟨rfl, h5⟩
  have N3 := Lib.hid h5
  clear h5 N2
  go_wp2_with fail
  refine (next32_ok r HT.out.2.2.2 N3.out).mono ?_
  rintro e w6 ⟨rfl, h6⟩
  have N4 := Lib.hid h6
  clear h6 N3
  obtain ⟨c0, c1, k1⟩ := ns_cells N4.out.at_
  have HV6 := Lib.hid (HV.out.below (below_to HB.out N4.out.rs.old HB.out.size))
  have HVX : Hid (Calls Tryd.prog 39 #[.slice (some ⟨w6.heap.size, 0, none⟩) 1 1] (w6.alloc (.cells #[.slice A ln cap] 23)) fun e w' => e = .returned (.bool (decide (ck (hi8 t c s r ++ x) = 0))) ∧ w6.alloc (.cells #[.slice A ln cap] 23) = w') := Valid_one rfl HV6.out (by rw [HLN.out]; exact HL.out)
  have hb7 := below_al (Below.refl w6.heap.size w6) (.cells #[.slice A ln cap] 23)
  have N5 := Lib.hid (N4.out.below hb7)
  have HZ := Lib.hid ((HX.out.below N4.out.rs.old).below hb7)
  have HQ := Lib.hid (below_to HB.out N5.out.rs.old HB.out.size)
  have HK : Hid (w.heap.size < K) := by have a := N4.out.new; have b := HG.out; show _ < _; omega
  clear hb7 N4 HV6 HX
  rw [decide_eq_false HK0.out] at HVX
  go_wp2_with fail
  refine HVX.out.mono ?_
  rintro e w7 ⟨rfl, rfl⟩
  clear c0 c1 k1 HVX
  go_wp2_with (refine wpList_store_row rfl 25 (.tmp 2) (.tmp 34) rfl w.heap.size noMsRow rfl rfl 25 _ HZ.out msSize rfl noMsRow_one ?_)
  (try simp only [Exit.inBlock, Exit.then])
  refine bodyPost_ret (results_cell_tmp_row rfl _ _ w.heap.size _ noMsRow (0, 0) _ rfl (setRow_heap _ _ _ _ _ _ HZ.out) Tryd.underlying25 rfl msSize) rfl ?_
  exact ⟨_, _, rfl, rfl, ((Fr.of_below (p := fun _ => False) HQ.out).row (Nat.le_refl _) _).below (Nat.le_refl _) (fun _ h => h.elim)⟩
set_option maxRecDepth 100000 in
set_option maxHeartbeats 4000000 in
theorem iparse_ok (t c s r : Nat) (x : List UInt8) (ht : t < 256) (hc : c < 256) (hs : s < 65536) (hr4 : r < 4294967296) (v : Value) (w : World) (hr : Rd w v (hi8 t c s r ++ x)) (hL : (hi8 t c s r ++ x).length ≤ 1099511627776) (hk : ck (hi8 t c s r ++ x) = 0) :
    Calls Tryd.prog 18 #[v] w (MOk ⟨t, c, r, x⟩ w) := by
  have hr0 := hr
  obtain ⟨A, cap, rfl, _, _⟩ := hr
  have HX := Lib.hid (MsAt.new w noMs (.slice none 0 0))
  have HB := Lib.hid (below_al (Below.refl w.heap.size w) noMsObj)
  have HR := Lib.hid (Read_facts (.slice A (hi8 t c s r ++ x).length cap) (hi8 t c s r ++ x) (w.alloc noMsObj) (hr0.below (below_al (Below.refl _ _) _)) hL)
  rw [noMs_obj] at HX
  have HL := Lib.hid hL
  have HV : Hid (Rd w (.slice A (hi8 t c s r ++ x).length cap) (hi8 t c s r ++ x)) := hr0
  have HG : Hid (w.heap.size < (w.alloc noMsObj).heap.size) := by show _ < _; simp
  have HT : Hid (t < 256 ∧ c < 256 ∧ s < 65536 ∧ r < 4294967296) := ⟨ht, hc, hs, hr4⟩
  have HK0 := Lib.hid hk
  clear hr0 hL ht hc hs hr4 hk
  generalize hln : (hi8 t c s r ++ x).length = ln at *
  have HLN := Lib.hid hln
  clear hln
  generalize hW : w.alloc noMsObj = W at HX HB HR HG
  unfold noMsObj at hW
  go_enter Tryd.func18, Tryd.ntmps18
  go_upto_region 1 with fail
  clear hW
  go_wp2_with fail
  refine HR.out.mono ?_
  rintro e w1 ⟨q, rfl, h1, h2, h3⟩
  have N0 : Hid (Ns W (w1.alloc (.cells #[.pointer (some ⟨q, 0, none⟩), .nilIface] 76)) w1.heap.size q .nilIface (UInt8.ofNat t :: UInt8.ofNat c :: (be2 s ++ (be4 r ++ x)))) :=
    ⟨heap_alloc_new w1 _, ⟨h2.below (below_al (Below.refl _ _) _), below_al h3 _, h1, by have := HL.out; rw [← HLN.out] at this; exact this⟩, h3.size, by have a := h2.at_; simp at a; omega⟩
  clear h1 h2 h3 HR
  go_upto_region 2 with fail
  generalize w1.alloc (.cells #[.pointer (some ⟨q, 0, none⟩), .nilIface] 76) = w2 at *
  generalize w1.heap.size = K at *
  go_wp2_with fail
  refine (next8_ok t HT.out.1 N0.out).mono ?_
  rintro e w3 ⟨rfl, h3⟩
  have N1 := Lib.hid h3
  clear h3 N0
  go_wp2_with fail
  refine (next8_ok c HT.out.2.1 N1.out).mono ?_
  rintro e w4 ⟨rfl, h4⟩
  have N2 := Lib.hid h4
  clear h4 N1
  go_wp2_with fail
  refine (next16_ok s HT.out.2.2.1 N2.out).mono ?_
  rintro e w5 ⟨rfl, h5⟩
  have N3 := Lib.hid h5
  clear h5 N2
  go_wp2_with fail
  refine (next32_ok r HT.out.2.2.2 N3.out).mono ?_
  rintro e w6 ⟨rfl, h6⟩
  have N4 := Lib.hid h6
  clear h6 N3
  obtain ⟨c0, c1, k1⟩ := ns_cells N4.out.at_
  have HV6 := Lib.hid (HV.out.below (below_to HB.out N4.out.rs.old HB.out.size))
  have HVX : Hid (Calls Tryd.prog 39 #[.slice (some ⟨w6.heap.size, 0, none⟩) 1 1] (w6.alloc (.cells #[.slice A ln cap] 23)) fun e w' => e = .returned (.bool (decide (ck (hi8 t c s r ++ x) = 0))) ∧ w6.alloc (.cells #[.slice A ln cap] 23) = w') := Valid_one rfl HV6.out (by rw [HLN.out]; exact HL.out)
  have hb7 := below_al (Below.refl w6.heap.size w6) (.cells #[.slice A ln cap] 23)
  have N5 := Lib.hid (N4.out.below hb7)
  have HZ := Lib.hid ((HX.out.below N4.out.rs.old).below hb7)
  have HQ := Lib.hid (below_to HB.out N5.out.rs.old HB.out.size)
  have HK : Hid (w.heap.size < K) := by have a := N4.out.new; have b := HG.out; show _ < _; omega
  clear hb7 N4 HV6 HX
  rw [decide_eq_true HK0.out] at HVX
  go_wp2_with fail
  refine HVX.out.mono ?_
  rintro e w7 ⟨rfl, rfl⟩
  generalize w6.alloc (.cells #[.slice A ln cap] 23) = w7 at *
  clear c0 c1 k1 HVX
  obtain ⟨c0, c1, k1⟩ := ns_cells N5.out.at_
  have XR : Hid (Calls Tryd.prog 40 #[.pointer (some ⟨q, 0, none⟩)] w7 fun e w' => ∃ b, e = .returned (.slice (some ⟨b, 0, none⟩) x.length x.length) ∧ w7.heap.size ≤ b ∧ BAt w' b x ∧ Rs W w' q [] ∧ Fr (· = ⟨q, 0, none⟩) w7 w') := by
    refine (Rest_any _ _ _ N5.out.rs.rdr N5.out.rs.len).mono ?_
    rintro e w' ⟨rfl, ht⟩
    refine ⟨_, rfl, Nat.le_refl _, ?_, ?_, ht.fr⟩
    · have a := ht.part
      rw [List.take_length] at a
      exact a
    · have a := N5.out.rs.step ht.rdr ht.fr (by rw [List.drop_length]; exact Nat.zero_le _)
      rw [List.drop_length] at a
      exact a
  go_wp2_with fail
  refine XR.out.mono ?_
  rintro e w8 ⟨b, rfl, hb, hy, hs8, hf⟩
  clear c0 c1 k1 XR
  have HZ8 := Lib.hid (hf.msAt HZ.out (by have a := N5.out.rs.new; have b := HG.out; omega))
  have HQ8 := Lib.hid (below_to HB.out hs8.old HB.out.size)
  have HY := Lib.hid hy
  have HGB : Hid (w.heap.size < b) := by have a := HZ.out.lt; show _ < _; omega
  clear hb hy hs8 hf
  obtain ⟨xl, hxl⟩ : ∃ xl, x.length = xl := ⟨_, rfl⟩
  have HXL := Lib.hid hxl
  rw [hxl]
  clear hxl
  unfold MOk
  go_wp2_with (refine wpList_store_row rfl 25 (.tmp 2) (.tmp 44) rfl w.heap.size #[.int .u8 t, .int .u8 c, .int .u32 r, .slice (some ⟨b, 0, none⟩) xl xl] rfl rfl 25 _ HZ8.out msSize rfl (by simp [Value.oneCell']) ?_)
  (try simp only [Exit.inBlock, Exit.then])
  refine bodyPost_ret (results_cell_tmp_row rfl _ _ w.heap.size _ #[.int .u8 t, .int .u8 c, .int .u32 r, .slice (some ⟨b, 0, none⟩) xl xl] (0, 0) _ rfl (setRow_heap _ _ _ _ _ _ HZ8.out) Tryd.underlying25 rfl msSize) rfl ?_
  refine ⟨b, ?_, Nat.le_of_lt HGB.out, ?_, ((Fr.of_below (p := fun _ => False) HQ8.out).row (Nat.le_refl _) _).below (Nat.le_refl _) (fun _ h => h.elim)⟩
  · show _ = Ending.returned (.tuple #[.agg #[.int .u8 t, .int .u8 c, .int .u32 r, .slice (some ⟨b, 0, none⟩) x.length x.length], .nilIface])
    rw [HXL.out]
    rfl
  · exact (setRow_other _ _ _ (by have a := HGB.out; omega)).trans HY.out
end Go.Proofs.YtlhanaglhkmcfaaDoor
