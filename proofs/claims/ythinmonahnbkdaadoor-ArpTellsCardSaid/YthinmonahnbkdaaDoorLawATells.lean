/-
  What is proved: ArpTells' function by contract: it returns true and leaves all older memory as it was; both Parses of layer 4 side by side.
  Conditions: errors.errorType holds the handle of the type error; the packet's numbers fit their types; the bytes' capacities are ints.
-/
import Derived.Test.YthinmonahnbkdaaDoorARef
namespace Go.Proofs.YthinmonahnbkdaaDoor
open Go.RowKit

/-- What both Parses answer of bytes that are no packet. -/
structure NoPk (ls : List UInt8) (m : Nat) (k : List ByteArray) (tx : ByteArray) : Prop where
  num : m < 14
  few : (text m k).size ≤ 1000000000
  said : text m k = tx
  some : (tx.toList == []) = false
  parse : ∀ (v : Value) (w : World), Rd w v ls → Calls Tryd.prog 5 #[v] w (PErr m k w)
  ref : ∀ w : World, Calls Tryd.prog 6 #[.string (txt ls)] w (RaErr tx w)
/-- What both Parses answer of a packet's bytes. -/
structure APk (ls : List UInt8) (p : Pkt) : Prop where
  inn : p.In
  parse : ∀ (v : Value) (w : World), Rd w v ls → Calls Tryd.prog 5 #[v] w fun e w' => e = .returned (.tuple #[p.val, .nilIface]) ∧ Below w.heap.size w w'
  ref : ∀ w : World, Calls Tryd.prog 6 #[.string (txt ls)] w (RaOk p w)
theorem some_text (x : UInt8) (l : List UInt8) : ((⟨(x :: l).toArray⟩ : ByteArray).toList == []) = false := by rw [ByteArray.toList_mk]; rfl
theorem pk_or_none (ls : List UInt8) (hL : ls.length ≤ 100) : (∃ m k tx, NoPk ls m k tx) ∨ ∃ p, APk ls p := by
  by_cases hs : ls.length < 28
  · exact .inl ⟨2, [arpWord, octetsWord], _, by decide, by decide, by decide, by exact some_text _ _, fun v w hr => aParse_short v ls w hr hs, fun w => refAParse_short ls hs w⟩
  · obtain ⟨hd, p, r, hp, rfl⟩ := bytes_split ls (by omega)
    have hr : r.length ≤ 72 := by
      simp only [List.length_append, M6.bs, List.length_cons, List.length_nil, be2_len, be4_len] at hL
      omega
    have hL2 : (hd.bs ++ (be2 p.op ++ (p.sha.bs ++ (be4 p.spa ++ (p.tha.bs ++ (be4 p.tpa ++ r)))))).length ≤ 1099511627776 := by omega
    by_cases h1 : hd.bs = arpHead
    · have e2 : hd.bs ++ (be2 p.op ++ (p.sha.bs ++ (be4 p.spa ++ (p.tha.bs ++ (be4 p.tpa ++ r))))) = p.bs ++ r := by rw [h1]; simp only [Pkt.bs, List.append_assoc]
      by_cases h2 : p.op = 1 ∨ p.op = 2
      · refine .inr ⟨p, hp, fun v w hrd => ?_, fun w => refAParse_ok hd p hp r hr h1 h2 w⟩
        rw [e2] at hrd hL2
        exact aParse_ok v p r w hp h2 hL2 hrd
      · refine .inl ⟨3, [arpWord], _, by decide, by decide, by decide, by exact some_text _ _, fun v w hrd => ?_, fun w => refAParse_form hd p hp r hr h1 (fun h => h2 (.inl h)) (fun h => h2 (.inr h)) w⟩
        rw [e2] at hrd hL2
        exact aParse_form v p r w hp (fun h => h2 (.inl h)) (fun h => h2 (.inr h)) hL2 hrd
    · exact .inl ⟨12, [arpWord], _, by decide, by decide, by decide, by exact some_text _ _, fun v w hrd => aParse_proto v hd.bs p r w rfl hp h1 hL2 hrd, fun w => refAParse_head hd p hp r hr h1 w⟩
theorem cells5 {W : World} {G : Nat} {a b c d e : Value} {T : TypeId} (h : W.heap[G]? = some (.cells #[a, b, c, d, e] T)) : W.cell? ⟨G, 0, none⟩ = some a ∧ W.cell? ⟨G, 1, none⟩ = some b ∧ W.cell? ⟨G, 2, none⟩ = some c ∧ W.cell? ⟨G, 3, none⟩ = some d ∧ W.cell? ⟨G, 4, none⟩ = some e := by
  refine ⟨?_, ?_, ?_, ?_, ?_⟩ <;> (rw [cell_of_row W G _ _ _ _ h]; rfl)
theorem noPkt_inn : noPkt.In := ⟨by decide, by decide, by decide⟩
theorem build_nopk (W : World) : (Instr.build 29 #[]).run Tryd.prog W = .ok (.agg #[.int .u16 0, .int .u8 0, .int .u8 0, .int .u8 0, .int .u8 0, .int .u8 0, .int .u8 0, .int .u32 0, .int .u8 0, .int .u8 0, .int .u8 0, .int .u8 0, .int .u8 0, .int .u8 0, .int .u32 0]) W := run_build W _ _ _ (by kernel_rfl)
def refPkB (p q : Pkt) : Bool := decide ((p.op : Int) = q.op) && (decide ((txt p.sha.bs).toList = (txt q.sha.bs).toList) && (decide ((txt p.tha.bs).toList = (txt q.tha.bs).toList) && (decide ((p.spa : Int) = q.spa) && (decide ((p.tpa : Int) = q.tpa) && true))))
theorem aite_ok {c : Prop} [Decidable c] (b : Bool) (w : World) : (if c then (Result.ok b w : Result Bool) else Result.ok false w) = Result.ok (decide c && b) w := by
  by_cases h : c <;> simp [h]
set_option maxRecDepth 100000 in
set_option maxHeartbeats 2000000 in
theorem refPk_eq (a0 a3 a4 b0 b3 b4 : Int) (a1 a2 b1 b2 : ByteArray) (w : World) : (Op.equalIn 10000 36 (.agg #[.int .u32 a0, .string a1, .string a2, .int .u32 a3, .int .u32 a4]) (.agg #[.int .u32 b0, .string b1, .string b2, .int .u32 b3, .int .u32 b4])).run Tryd.prog w =
    .ok (decide (a0 = b0) && (decide (a1.toList = b1.toList) && (decide (a2.toList = b2.toList) && (decide (a3 = b3) && (decide (a4 = b4) && true))))) w := by
  have u1 := Tryd.underlying26
  have u4 := Tryd.underlying9
  have a1' := Tryd.isAgg26
  have a4' := Tryd.isAgg9
  have z1 := Tryd.sizeOf26
  have z4 := Tryd.sizeOf9
  have hS : Tryd.prog.underlying 36 = some (.struct (Tryd.prog.fieldsOf 36)) := by kernel_rfl
  have hp : Tryd.prog.stoodInHeld 36 = false := by kernel_rfl
  rw [show (10000 : Nat) = 9999 + 1 from rfl, run_equalIn_agg w 9999 36 _ _ hS hp]
  simp only [Program.fieldsOf, Tryd.underlying36]
  go_simp
  simp only [aite_ok, Bool.and_true]
theorem refPk_same (p : Pkt) (w : World) : (Op.equalIn 10000 36 (.agg #[.int .u32 p.op, .string (txt p.sha.bs), .string (txt p.tha.bs), .int .u32 p.spa, .int .u32 p.tpa]) (.agg #[.int .u32 p.op, .string (txt p.sha.bs), .string (txt p.tha.bs), .int .u32 p.spa, .int .u32 p.tpa])).run Tryd.prog w = .ok true w := by
  rw [refPk_eq]
  simp
set_option maxRecDepth 100000 in
set_option maxHeartbeats 40000000 in
theorem arpTells_any (A0 : Option Addr) (c0 : Nat) (l0 : List UInt8) (q : Pkt) (w : World) (hg : Hdl w) (hr0 : Rd w (.slice A0 l0.length c0) l0) (_hc0 : c0 ≤ 9223372036854775807) (hq : q.In) :
    Calls Tryd.prog 3 #[.slice A0 l0.length c0, q.val] w fun e w' => e = .returned (.bool true) ∧ Below w.heap.size w w' := by
  have b1 := below_al (Below.refl w.heap.size w) q.obj
  have hlc0 : l0.length ≤ c0 := by
    obtain ⟨A', c', e, hc, _⟩ := hr0
    simp only [Value.slice.injEq] at e
    rw [e.2.2]
    exact hc
  obtain ⟨ls, hls⟩ : ∃ ls, l0.take 100 = ls := ⟨_, rfl⟩
  have HS := Lib.hid (aShown_any _ (hg.below b1))
  have HX0 : Hid (PktAt (w.alloc q.obj) w.heap.size q) := PktAt.new w q
  have HB0 := Lib.hid b1
  have HQI := Lib.hid hq
  have HR0 : Hid (Rd w (.slice A0 ls.length c0) ls) := by rw [← hls]; exact afront_any hr0 100
  have hk1 : ls.length ≤ l0.length := by rw [← hls, List.length_take]; omega
  have hk2 : ls.length ≤ 100 := by rw [← hls, List.length_take]; omega
  have hmin := fun W => min_run (P := Tryd.prog) #[3, 3] 3 (l0.length : Int) 100 (ls.length : Int) (by rw [← hls, List.length_take]; omega) W
  have hi1 : (ls.length : Int) ≤ (l0.length : Int) := by omega
  have HK : Hid (ls.length ≤ 100) := hk2
  clear hg b1 hr0 hq hls
  generalize l0.length = n0 at *
  have hmc : ls.length ≤ c0 := by omega
  have hmc2 : ¬ c0 < ls.length := by omega
  have hmc3 : (ls.length : Int) ≤ (c0 : Int) := by omega
  rw [Pkt.val_lit]
  generalize hW0 : w.alloc q.obj = W0 at *
  unfold Pkt.obj at hW0
  go_enter Tryd.func3, Tryd.ntmps3
  go_upto_region 1 with fail
  (try rw [hW0])
  clear hW0
  go_wp2_with fail
  refine HS.out.mono ?_
  rintro e w1 ⟨rfl, hl⟩
  have hx1 := HX0.out.below hl
  have hb1 := below_to HB0.out hl HB0.out.size
  obtain ⟨g, c', W2, run1, mine1, _, _, _⟩ := (Mine.first (Below.refl w1.heap.size w1)).append ls _ (HR0.out.below (below_al hb1 _)) (by simp; omega)
  rw [List.nil_append] at run1 mine1
  have E1 := Lib.hid run1
  have HX2 := Lib.hid (hx1.below mine1.old)
  have HRB2 := Lib.hid mine1.rd
  have hb2 := below_to hb1 mine1.old hb1.size
  generalize hn : w.heap.size = n at *
  have HW := Lib.hid hn
  have HB2 := Lib.hid hb2
  clear HS hl HX0 HB0 HR0 hx1 hb1 run1 mine1 hb2 hn
  go_upto_region 3 with (at_builtin; refine wpList_append_eq rfl (.tmp 12) (.tmp 17) 22 rfl _ _ rfl rfl _ _ E1.out ?_)
  clear E1 hmin hk1 hk2 hi1 hmc hmc2 hmc3
  have v0 := convert_rd HRB2.out
  go_upto_region 4 with fail
  clear v0
  rcases pk_or_none ls HK.out with ⟨m, k, t, hno⟩ | ⟨z, han⟩
  · as_aux_lemma =>
      have HNO := Lib.hid hno
      have XP := Lib.hid (hno.parse _ W2 HRB2.out)
      clear hno
      unfold PErr noPktVal at XP
      go_wp2_with fail
      refine XP.out.mono ?_
      rintro e w3 ⟨b3, rfl, hc3, hl3⟩
      have hb4 := below_al (Below.refl w3.heap.size w3) (.cells #[.int .u16 0, .int .u8 0, .int .u8 0, .int .u8 0, .int .u8 0, .int .u8 0, .int .u8 0, .int .u32 0, .int .u8 0, .int .u8 0, .int .u8 0, .int .u8 0, .int .u8 0, .int .u8 0, .int .u32 0] 29)
      have l4 := below_to hl3 hb4 hl3.size
      have H7 := Lib.hid (heap_alloc_new w3 (.cells #[.int .u16 0, .int .u8 0, .int .u8 0, .int .u8 0, .int .u8 0, .int .u8 0, .int .u8 0, .int .u32 0, .int .u8 0, .int .u8 0, .int .u8 0, .int .u8 0, .int .u8 0, .int .u8 0, .int .u32 0] 29))
      have HC4 := Lib.hid (hc3.below hb4)
      have HX4 := Lib.hid (HX2.out.below l4)
      have HRB4 := Lib.hid (HRB2.out.below l4)
      have HB4 := Lib.hid (below_on HB2.out HW.out l4)
      clear hc3 hl3 hb4 l4 XP HX2 HRB2 HB2
      generalize hw4 : w3.alloc (.cells #[.int .u16 0, .int .u8 0, .int .u8 0, .int .u8 0, .int .u8 0, .int .u8 0, .int .u8 0, .int .u32 0, .int .u8 0, .int .u8 0, .int .u8 0, .int .u8 0, .int .u8 0, .int .u8 0, .int .u32 0] 29) = w4 at *
      have HWW := Lib.hid hw4
      clear hw4
      go_upto_region 5 with fail
      rw [HWW.out]
      clear HWW
      generalize w3.heap.size = g7 at *
      have XR := Lib.hid (HNO.out.ref w4)
      unfold RaErr at XR
      go_wp2_with fail
      refine XR.out.mono ?_
      rintro e w5 ⟨rfl, hl5⟩
      have hb6 := below_al (Below.refl w5.heap.size w5) (.cells #[.int .u32 0, .string ⟨#[]⟩, .string ⟨#[]⟩, .int .u32 0, .int .u32 0] 36)
      have l6 := below_to hl5 hb6 hl5.size
      have H76 := Lib.hid (abe_block l6 H7.out)
      have HC6 := Lib.hid (HC4.out.below l6)
      have HX6 := Lib.hid (HX4.out.below l6)
      have HRB6 := Lib.hid (HRB4.out.below l6)
      have HB6 := Lib.hid (below_on HB4.out HW.out l6)
      clear hl5 hb6 l6 XR H7 HC4 HX4 HRB4 HB4
      generalize hw6 : w5.alloc (.cells #[.int .u32 0, .string ⟨#[]⟩, .string ⟨#[]⟩, .int .u32 0, .int .u32 0] 36) = w6 at *
      have HWW := Lib.hid hw6
      clear hw6
      go_upto_region 6 with fail
      rw [HWW.out]
      clear HWW
      generalize w5.heap.size = g9 at *
      have XT := Lib.hid (told_arp HNO.out.num HNO.out.few (HC6.out.below (below_drew w6)) t HNO.out.said)
      have HSOME := HNO.out.some
      have heq : ∀ W, (Op.equalIn 10000 29 (.agg #[.int .u16 0, .int .u8 0, .int .u8 0, .int .u8 0, .int .u8 0, .int .u8 0, .int .u8 0, .int .u32 0, .int .u8 0, .int .u8 0, .int .u8 0, .int .u8 0, .int .u8 0, .int .u8 0, .int .u32 0]) (.agg #[.int .u16 0, .int .u8 0, .int .u8 0, .int .u8 0, .int .u8 0, .int .u8 0, .int .u8 0, .int .u32 0, .int .u8 0, .int .u8 0, .int .u8 0, .int .u8 0, .int .u8 0, .int .u8 0, .int .u32 0])).run Tryd.prog W = .ok true W := fun W => by
        have h := pkt_eq noPkt noPkt W
        rw [pktB_same] at h
        exact h
      go_cut [53] (fun s53 wx => s53 = .bool false ∧ Below w6.heap.size w6 wx)
      case first =>
        refine wp_region_any (by kernel_rfl) ?_
        change wpAny _ _ _ _ _ _ _ (World.drew _)
        refine wpAny_take (i := 0) (oi := ⟨some 31, _, _, _, _, _⟩) (v := (.iface 76 (.pointer (some ⟨b3, 0, none⟩)))) rfl (by kernel_rfl) (by kernel_rfl) (by kernel_rfl) (fun _ _ _ h => h) (Or.inl ⟨by rfl, ?_⟩) ?_
        · intro W
          go_simp
        try simp only [Act.put, List.setIfInBounds_toArray, List.set_cons_zero, List.set_cons_succ]
        refine wpAny_take (i := 2) (oi := ⟨some 33, _, _, _, _, _⟩) (v := (.string t)) rfl (by kernel_rfl) (by kernel_rfl) (by kernel_rfl) (fun _ _ _ h => h) (Or.inl ⟨by rfl, ?_⟩) ?_
        · intro W
          go_simp
        try simp only [Act.put, List.setIfInBounds_toArray, List.set_cons_zero, List.set_cons_succ]
        refine wpAny_ready (rs := [1]) (by kernel_rfl) (by simp) ?_
        refine AllReady.cons (o := ⟨some 32, _, _, _, _, _⟩) rfl (fun K hK => ?_) ?_
        · have hk := Lib.hid hK
          clear hK
          go_simp
          go_at_call 7
          refine (XT.out).mono ?_
          rintro e w7 ⟨rfl, hl⟩
          dsimp only
          have HL7 := Lib.hid ((below_drew w6).trans hl)
          have H77 := Lib.hid (abe_block HL7.out H76.out)
          clear hl
          refine hk.out _ _ ?_
          clear hk K
          try simp only [Act.put, List.setIfInBounds_toArray, List.set_cons_zero, List.set_cons_succ]
          refine wpAny_take (i := 3) (oi := ⟨some 34, _, _, _, _, _⟩) (v := (.bool false)) rfl (by kernel_rfl) (by kernel_rfl) (by kernel_rfl) (fun _ _ _ h => h) (Or.inl ⟨by rfl, ?_⟩) ?_
          · intro W
            go_simp
          try simp only [Act.put, List.setIfInBounds_toArray, List.set_cons_zero, List.set_cons_succ]
          refine wpAny_take (i := 4) (oi := ⟨some 35, _, _, _, _, _⟩) (v := (.bool false)) rfl (by kernel_rfl) (by kernel_rfl) (by kernel_rfl) (fun _ _ _ h => h) (Or.inl ⟨by rfl, ?_⟩) ?_
          · intro W
            go_simp
          try simp only [Act.put, List.setIfInBounds_toArray, List.set_cons_zero, List.set_cons_succ]
          refine wpAny_take (i := 5) (oi := ⟨some 36, _, _, _, _, _⟩) (v := (.string t)) rfl (by kernel_rfl) (by kernel_rfl) (by kernel_rfl) (fun _ _ _ h => h) (Or.inl ⟨by rfl, ?_⟩) ?_
          · intro W
            go_simp
          try simp only [Act.put, List.setIfInBounds_toArray, List.set_cons_zero, List.set_cons_succ]
          refine wpAny_take (i := 6) (oi := ⟨some 37, _, _, _, _, _⟩) (v := (.bool false)) rfl (by kernel_rfl) (by kernel_rfl) (by kernel_rfl) (fun _ _ _ h => h) (Or.inl ⟨by rfl, ?_⟩) ?_
          · intro W
            go_simp
          try simp only [Act.put, List.setIfInBounds_toArray, List.set_cons_zero, List.set_cons_succ]
          refine wpAny_take (i := 7) (oi := ⟨some 38, _, _, _, _, _⟩) (v := (.bool false)) rfl (by kernel_rfl) (by kernel_rfl) (by kernel_rfl) (fun _ _ _ h => h) (Or.inl ⟨by rfl, ?_⟩) ?_
          · intro W
            go_simp
          try simp only [Act.put, List.setIfInBounds_toArray, List.set_cons_zero, List.set_cons_succ]
          refine wpAny_take (i := 8) (oi := ⟨some 39, _, _, _, _, _⟩) (v := undef) rfl (by kernel_rfl) (by kernel_rfl) (by kernel_rfl) (fun _ _ _ h => h) (Or.inr ⟨by rfl, rfl⟩) ?_
          try simp only [Act.put, List.setIfInBounds_toArray, List.set_cons_zero, List.set_cons_succ]
          refine wpAny_take (i := 9) (oi := ⟨some 40, _, _, _, _, _⟩) (v := undef) rfl (by kernel_rfl) (by kernel_rfl) (by kernel_rfl) (fun _ _ _ h => h) (Or.inr ⟨by rfl, rfl⟩) ?_
          try simp only [Act.put, List.setIfInBounds_toArray, List.set_cons_zero, List.set_cons_succ]
          refine wpAny_take (i := 10) (oi := ⟨some 41, _, _, _, _, _⟩) (v := undef) rfl (by kernel_rfl) (by kernel_rfl) (by kernel_rfl) (fun _ _ _ h => h) (Or.inr ⟨by rfl, rfl⟩) ?_
          try simp only [Act.put, List.setIfInBounds_toArray, List.set_cons_zero, List.set_cons_succ]
          refine wpAny_take (i := 11) (oi := ⟨some 42, _, _, _, _, _⟩) (v := undef) rfl (by kernel_rfl) (by kernel_rfl) (by kernel_rfl) (fun _ _ _ h => h) (Or.inr ⟨by rfl, rfl⟩) ?_
          try simp only [Act.put, List.setIfInBounds_toArray, List.set_cons_zero, List.set_cons_succ]
          refine wpAny_take (i := 12) (oi := ⟨some 43, _, _, _, _, _⟩) (v := (.bool false)) rfl (by kernel_rfl) (by kernel_rfl) (by kernel_rfl) (fun _ _ _ h => h) (Or.inl ⟨by rfl, ?_⟩) ?_
          · intro W
            go_simp
          try simp only [Act.put, List.setIfInBounds_toArray, List.set_cons_zero, List.set_cons_succ]
          refine wpAny_take (i := 13) (oi := ⟨some 44, _, _, _, _, _⟩) (v := (.bool false)) rfl (by kernel_rfl) (by kernel_rfl) (by kernel_rfl) (fun _ _ _ h => h) (Or.inl ⟨by rfl, ?_⟩) ?_
          · intro W
            go_simp
          try simp only [Act.put, List.setIfInBounds_toArray, List.set_cons_zero, List.set_cons_succ]
          refine wpAny_take (i := 14) (oi := ⟨some 45, _, _, _, _, _⟩) (v := (.bool false)) rfl (by kernel_rfl) (by kernel_rfl) (by kernel_rfl) (fun _ _ _ h => h) (Or.inl ⟨by rfl, ?_⟩) ?_
          · intro W
            go_simp
          try simp only [Act.put, List.setIfInBounds_toArray, List.set_cons_zero, List.set_cons_succ]
          refine wpAny_take (i := 15) (oi := ⟨some 46, _, _, _, _, _⟩) (v := (.string t)) rfl (by kernel_rfl) (by kernel_rfl) (by kernel_rfl) (fun _ _ _ h => h) (Or.inl ⟨by rfl, ?_⟩) ?_
          · intro W
            go_simp
          try simp only [Act.put, List.setIfInBounds_toArray, List.set_cons_zero, List.set_cons_succ]
          refine wpAny_take (i := 16) (oi := ⟨some 47, _, _, _, _, _⟩) (v := (.bool true)) rfl (by kernel_rfl) (by kernel_rfl) (by kernel_rfl) (fun _ _ _ h => h) (Or.inl ⟨by rfl, ?_⟩) ?_
          · intro W
            go_simp
          try simp only [Act.put, List.setIfInBounds_toArray, List.set_cons_zero, List.set_cons_succ]
          refine wpAny_take (i := 17) (oi := ⟨some 48, _, _, _, _, _⟩) (v := (.bool true)) rfl (by kernel_rfl) (by kernel_rfl) (by kernel_rfl) (fun _ _ _ h => h) (Or.inl ⟨by rfl, ?_⟩) ?_
          · intro W
            go_simp
          try simp only [Act.put, List.setIfInBounds_toArray, List.set_cons_zero, List.set_cons_succ]
          refine wpAny_take (i := 19) (oi := ⟨some 50, _, _, _, _, _⟩) (v := (.agg #[.int .u16 0, .int .u8 0, .int .u8 0, .int .u8 0, .int .u8 0, .int .u8 0, .int .u8 0, .int .u32 0, .int .u8 0, .int .u8 0, .int .u8 0, .int .u8 0, .int .u8 0, .int .u8 0, .int .u32 0])) rfl (by kernel_rfl) (by kernel_rfl) (by kernel_rfl) (fun _ _ _ h => h) (Or.inl ⟨by rfl, ?_⟩) ?_
          · intro W
            have hb := build_nopk W
            go_simp
          try simp only [Act.put, List.setIfInBounds_toArray, List.set_cons_zero, List.set_cons_succ]
          refine wpAny_ready (rs := [18]) (by kernel_rfl) (by simp) ?_
          refine AllReady.cons (o := ⟨some 49, _, _, _, _, _⟩) rfl (fun K hK => ?_) ?_
          · have hk := Lib.hid hK
            clear hK
            rw [if_pos (by rfl)]
            refine wp_load_row 29 (.tmp 7) rfl g7 rfl 29 #[.int .u16 0, .int .u8 0, .int .u8 0, .int .u8 0, .int .u8 0, .int .u8 0, .int .u8 0, .int .u32 0, .int .u8 0, .int .u8 0, .int .u8 0, .int .u8 0, .int .u8 0, .int .u8 0, .int .u32 0] (0, 0) _ H77.out Tryd.underlying29 rfl pktSize ?_
            refine hk.out _ _ ?_
            clear hk K
            try simp only [Act.put, List.setIfInBounds_toArray, List.set_cons_zero, List.set_cons_succ]
            refine wpAny_take (i := 20) (oi := ⟨some 51, _, _, _, _, _⟩) (v := (.bool false)) rfl (by kernel_rfl) (by kernel_rfl) (by kernel_rfl) (fun _ _ _ h => h) (Or.inl ⟨by rfl, ?_⟩) ?_
            · intro W
              go_simp
            try simp only [Act.put, List.setIfInBounds_toArray, List.set_cons_zero, List.set_cons_succ]
            refine wpAny_take (i := 21) (oi := ⟨some 52, _, _, _, _, _⟩) (v := (.bool false)) rfl (by kernel_rfl) (by kernel_rfl) (by kernel_rfl) (fun _ _ _ h => h) (Or.inl ⟨by rfl, ?_⟩) ?_
            · intro W
              go_simp
            try simp only [Act.put, List.setIfInBounds_toArray, List.set_cons_zero, List.set_cons_succ]
            refine wpAny_take (i := 22) (oi := ⟨some 53, _, _, _, _, _⟩) (v := (.bool false)) rfl (by kernel_rfl) (by kernel_rfl) (by kernel_rfl) (fun _ _ _ h => h) (Or.inl ⟨by rfl, ?_⟩) ?_
            · intro W
              go_simp
            try simp only [Act.put, List.setIfInBounds_toArray, List.set_cons_zero, List.set_cons_succ]
            refine wpAny_done (by kernel_rfl) ?_ _
            go_wp2_with fail
            go_meet
            exact ⟨rfl, HL7.out⟩
          exact AllReady.nil
        exact AllReady.nil
      obtain ⟨rfl, hl⟩ := hcut
      have HX8 := Lib.hid (HX6.out.below hl)
      have HRB8 := Lib.hid (HRB6.out.below hl)
      have HB8 := Lib.hid (below_on HB6.out HW.out hl)
      clear hl HX6 HRB6 HB6 HC6 H76 XT heq HSOME HNO
      generalize wc = w8 at *
      go_upto_region 8 with fail
      have KS : Hid (∀ W, Below w8.heap.size w8 W → (W.cell? ⟨n, 0, none⟩ = some (.int .u16 q.op) ∧ W.cell? ⟨n, 1, none⟩ = some (.int .u8 q.sha.a.toNat) ∧ W.cell? ⟨n, 2, none⟩ = some (.int .u8 q.sha.b.toNat) ∧ W.cell? ⟨n, 3, none⟩ = some (.int .u8 q.sha.c.toNat) ∧ W.cell? ⟨n, 4, none⟩ = some (.int .u8 q.sha.d.toNat) ∧ W.cell? ⟨n, 5, none⟩ = some (.int .u8 q.sha.e.toNat) ∧ W.cell? ⟨n, 6, none⟩ = some (.int .u8 q.sha.f.toNat) ∧ W.cell? ⟨n, 7, none⟩ = some (.int .u32 q.spa) ∧ W.cell? ⟨n, 8, none⟩ = some (.int .u8 q.tha.a.toNat) ∧ W.cell? ⟨n, 9, none⟩ = some (.int .u8 q.tha.b.toNat) ∧ W.cell? ⟨n, 10, none⟩ = some (.int .u8 q.tha.c.toNat) ∧ W.cell? ⟨n, 11, none⟩ = some (.int .u8 q.tha.d.toNat) ∧ W.cell? ⟨n, 12, none⟩ = some (.int .u8 q.tha.e.toNat) ∧ W.cell? ⟨n, 13, none⟩ = some (.int .u8 q.tha.f.toNat) ∧ W.cell? ⟨n, 14, none⟩ = some (.int .u32 q.tpa)) ∧ (convert 22 9 (.slice (some ⟨g, 0, none⟩) ls.length c')).run Tryd.prog W = .ok (.string (txt ls)) W) := fun W h => ⟨(HX8.out.below h).cells, convert_rd (HRB8.out.below h)⟩
      have X1 := Lib.hid (aBytes_lit q HQI.out w8.drew)
      have XF : Hid (∀ W : World, Calls Tryd.prog 8 #[.agg #[.int .u16 q.op, .int .u8 q.sha.a.toNat, .int .u8 q.sha.b.toNat, .int .u8 q.sha.c.toNat, .int .u8 q.sha.d.toNat, .int .u8 q.sha.e.toNat, .int .u8 q.sha.f.toNat, .int .u32 q.spa, .int .u8 q.tha.a.toNat, .int .u8 q.tha.b.toNat, .int .u8 q.tha.c.toNat, .int .u8 q.tha.d.toNat, .int .u8 q.tha.e.toNat, .int .u8 q.tha.f.toNat, .int .u32 q.tpa]] W fun e w' => e = .returned (.agg #[.int .u32 q.op, .string (txt q.sha.bs), .string (txt q.tha.bs), .int .u32 q.spa, .int .u32 q.tpa]) ∧ Below W.heap.size W w') := fun W => aOf_any q W HQI.out
      have XB : Hid (∀ W : World, _) := fun W => refABytes q HQI.out W
      have HNS : Hid (n ≤ w8.heap.size) := by have := HB8.out.size; rw [HW.out] at this; exact this
      clear HX8 HRB8
      obtain ⟨tq, htq⟩ : ∃ tq, txt q.bs = tq := ⟨_, rfl⟩
      have HTQ := Lib.hid htq
      rw [htq] at XB
      clear htq
      generalize txt ls = tl at *
      generalize txt q.sha.bs = ta at *
      generalize txt q.tha.bs = tb at *
      go_region_held_law (fun W => (W.cell? ⟨n, 0, none⟩ = some (.int .u16 q.op) ∧ W.cell? ⟨n, 1, none⟩ = some (.int .u8 q.sha.a.toNat) ∧ W.cell? ⟨n, 2, none⟩ = some (.int .u8 q.sha.b.toNat) ∧ W.cell? ⟨n, 3, none⟩ = some (.int .u8 q.sha.c.toNat) ∧ W.cell? ⟨n, 4, none⟩ = some (.int .u8 q.sha.d.toNat) ∧ W.cell? ⟨n, 5, none⟩ = some (.int .u8 q.sha.e.toNat) ∧ W.cell? ⟨n, 6, none⟩ = some (.int .u8 q.sha.f.toNat) ∧ W.cell? ⟨n, 7, none⟩ = some (.int .u32 q.spa) ∧ W.cell? ⟨n, 8, none⟩ = some (.int .u8 q.tha.a.toNat) ∧ W.cell? ⟨n, 9, none⟩ = some (.int .u8 q.tha.b.toNat) ∧ W.cell? ⟨n, 10, none⟩ = some (.int .u8 q.tha.c.toNat) ∧ W.cell? ⟨n, 11, none⟩ = some (.int .u8 q.tha.d.toNat) ∧ W.cell? ⟨n, 12, none⟩ = some (.int .u8 q.tha.e.toNat) ∧ W.cell? ⟨n, 13, none⟩ = some (.int .u8 q.tha.f.toNat) ∧ W.cell? ⟨n, 14, none⟩ = some (.int .u32 q.tpa)) ∧ (convert 22 9 (.slice (some ⟨g, 0, none⟩) ls.length c')).run Tryd.prog W = .ok (.string tl) W)
        (first | assumption | exact KS.out _ HL3.out | exact KS.out _ HL2.out | exact KS.out _ HL1.out | exact KS.out _ (below_drew w8))
        (first
          | (go_at_call 9; (with_reducible refine X1.out.mono ?_); rintro e x1 ⟨b1, rfl, _, ho1, hl1⟩; (have HL1 := Lib.hid ((below_drew w8).trans hl1)); (have v1 := convert_rd (show Rd x1 (.slice (some ⟨b1, 0, none⟩) 28 28) q.bs from Rd.of_obj ho1 (Nat.le_refl _))); rw [HTQ.out] at v1; (have HO1 := Lib.hid ho1); clear ho1 hl1)
          | (go_at_call 8; (with_reducible refine (XF.out _).mono ?_); rintro e x2 ⟨rfl, hl2⟩; (have HL2 := Lib.hid (below_to HL1.out hl2 HL1.out.size)); (have HO2 := Lib.hid (abe_block hl2 HO1.out)); (have v2 := convert_rd (show Rd x2 (.slice (some ⟨b1, 0, none⟩) 28 28) q.bs from Rd.of_obj HO2.out (Nat.le_refl _))); rw [HTQ.out] at v2; clear hl2)
          | (go_at_call 10; (with_reducible refine (XB.out _).mono ?_); rintro e x3 ⟨rfl, hl3⟩; (have HL3 := Lib.hid (below_to HL2.out hl3 HL2.out.size)); (have v3 := convert_rd (show Rd x3 (.slice (some ⟨b1, 0, none⟩) 28 28) q.bs from Rd.of_obj (abe_block hl3 HO2.out) (Nat.le_refl _))); rw [HTQ.out] at v3; clear hl3))
      all_goals
        go_wp2_with fail
        go_ret
        exact ⟨rfl, by rw [HW.out]; exact below_to HB8.out HL3.out HNS.out⟩
  · as_aux_lemma =>
      have HAN := Lib.hid han
      have XP := Lib.hid (han.parse _ W2 HRB2.out)
      clear han
      rw [Pkt.val_lit] at XP
      go_wp2_with fail
      refine XP.out.mono ?_
      rintro e w3 ⟨rfl, hl3⟩
      have hb4 := below_al (Below.refl w3.heap.size w3) (.cells #[.int .u16 z.op, .int .u8 z.sha.a.toNat, .int .u8 z.sha.b.toNat, .int .u8 z.sha.c.toNat, .int .u8 z.sha.d.toNat, .int .u8 z.sha.e.toNat, .int .u8 z.sha.f.toNat, .int .u32 z.spa, .int .u8 z.tha.a.toNat, .int .u8 z.tha.b.toNat, .int .u8 z.tha.c.toNat, .int .u8 z.tha.d.toNat, .int .u8 z.tha.e.toNat, .int .u8 z.tha.f.toNat, .int .u32 z.tpa] 29)
      have l4 := below_to hl3 hb4 hl3.size
      have H7 : Hid (PktAt (w3.alloc (.cells #[.int .u16 z.op, .int .u8 z.sha.a.toNat, .int .u8 z.sha.b.toNat, .int .u8 z.sha.c.toNat, .int .u8 z.sha.d.toNat, .int .u8 z.sha.e.toNat, .int .u8 z.sha.f.toNat, .int .u32 z.spa, .int .u8 z.tha.a.toNat, .int .u8 z.tha.b.toNat, .int .u8 z.tha.c.toNat, .int .u8 z.tha.d.toNat, .int .u8 z.tha.e.toNat, .int .u8 z.tha.f.toNat, .int .u32 z.tpa] 29)) w3.heap.size z) := PktAt.new w3 z
      have HX4 := Lib.hid (HX2.out.below l4)
      have HRB4 := Lib.hid (HRB2.out.below l4)
      have HB4 := Lib.hid (below_on HB2.out HW.out l4)
      clear hl3 hb4 l4 XP HX2 HRB2 HB2
      generalize hw4 : w3.alloc (.cells #[.int .u16 z.op, .int .u8 z.sha.a.toNat, .int .u8 z.sha.b.toNat, .int .u8 z.sha.c.toNat, .int .u8 z.sha.d.toNat, .int .u8 z.sha.e.toNat, .int .u8 z.sha.f.toNat, .int .u32 z.spa, .int .u8 z.tha.a.toNat, .int .u8 z.tha.b.toNat, .int .u8 z.tha.c.toNat, .int .u8 z.tha.d.toNat, .int .u8 z.tha.e.toNat, .int .u8 z.tha.f.toNat, .int .u32 z.tpa] 29) = w4 at *
      have HWW := Lib.hid hw4
      clear hw4
      go_upto_region 5 with fail
      rw [HWW.out]
      clear HWW
      generalize w3.heap.size = g7 at *
      have XR := Lib.hid (HAN.out.ref w4)
      unfold RaOk at XR
      go_wp2_with fail
      refine XR.out.mono ?_
      rintro e w5 ⟨rfl, hl5⟩
      have hb6 := below_al (Below.refl w5.heap.size w5) (.cells #[.int .u32 z.op, .string (txt z.sha.bs), .string (txt z.tha.bs), .int .u32 z.spa, .int .u32 z.tpa] 36)
      have l6 := below_to hl5 hb6 hl5.size
      have H9 := Lib.hid (heap_alloc_new w5 (.cells #[.int .u32 z.op, .string (txt z.sha.bs), .string (txt z.tha.bs), .int .u32 z.spa, .int .u32 z.tpa] 36))
      have H76 := Lib.hid (H7.out.below l6)
      have HX6 := Lib.hid (HX4.out.below l6)
      have HRB6 := Lib.hid (HRB4.out.below l6)
      have HB6 := Lib.hid (below_on HB4.out HW.out l6)
      clear hl5 hb6 l6 XR H7 HX4 HRB4 HB4
      generalize hw6 : w5.alloc (.cells #[.int .u32 z.op, .string (txt z.sha.bs), .string (txt z.tha.bs), .int .u32 z.spa, .int .u32 z.tpa] 36) = w6 at *
      have HWW := Lib.hid hw6
      clear hw6
      go_upto_region 6 with fail
      rw [HWW.out]
      clear HWW
      generalize w5.heap.size = g9 at *
      have XO : Hid (∀ W : World, Calls Tryd.prog 8 #[.agg #[.int .u16 z.op, .int .u8 z.sha.a.toNat, .int .u8 z.sha.b.toNat, .int .u8 z.sha.c.toNat, .int .u8 z.sha.d.toNat, .int .u8 z.sha.e.toNat, .int .u8 z.sha.f.toNat, .int .u32 z.spa, .int .u8 z.tha.a.toNat, .int .u8 z.tha.b.toNat, .int .u8 z.tha.c.toNat, .int .u8 z.tha.d.toNat, .int .u8 z.tha.e.toNat, .int .u8 z.tha.f.toNat, .int .u32 z.tpa]] W fun e w' => e = .returned (.agg #[.int .u32 z.op, .string (txt z.sha.bs), .string (txt z.tha.bs), .int .u32 z.spa, .int .u32 z.tpa]) ∧ Below W.heap.size W w') := fun W => aOf_any z W HAN.out.inn
      have heq : ∀ W, (Op.equalIn 10000 36 (.agg #[.int .u32 z.op, .string (txt z.sha.bs), .string (txt z.tha.bs), .int .u32 z.spa, .int .u32 z.tpa]) (.agg #[.int .u32 z.op, .string (txt z.sha.bs), .string (txt z.tha.bs), .int .u32 z.spa, .int .u32 z.tpa])).run Tryd.prog W = .ok true W := fun W => refPk_same z W
      go_cut [53] (fun s53 wx => s53 = .bool false ∧ Below w6.heap.size w6 wx)
      case first =>
        refine wp_region_any (by kernel_rfl) ?_
        change wpAny _ _ _ _ _ _ _ (World.drew _)
        refine wpAny_take (i := 0) (oi := ⟨some 31, _, _, _, _, _⟩) (v := .nilIface) rfl (by kernel_rfl) (by kernel_rfl) (by kernel_rfl) (fun _ _ _ h => h) (Or.inl ⟨by rfl, ?_⟩) ?_
        · intro W
          go_simp
        try simp only [Act.put, List.setIfInBounds_toArray, List.set_cons_zero, List.set_cons_succ]
        refine wpAny_take (i := 2) (oi := ⟨some 33, _, _, _, _, _⟩) (v := (.string ⟨#[]⟩)) rfl (by kernel_rfl) (by kernel_rfl) (by kernel_rfl) (fun _ _ _ h => h) (Or.inl ⟨by rfl, ?_⟩) ?_
        · intro W
          go_simp
        try simp only [Act.put, List.setIfInBounds_toArray, List.set_cons_zero, List.set_cons_succ]
        refine wpAny_ready (rs := [1]) (by kernel_rfl) (by simp) ?_
        refine AllReady.cons (o := ⟨some 32, _, _, _, _, _⟩) rfl (fun K hK => ?_) ?_
        · have hk := Lib.hid hK
          clear hK
          go_simp
          go_at_call 7
          refine (told_nil w6.drew).mono ?_
          rintro e w7 ⟨rfl, rfl⟩
          dsimp only
          refine hk.out _ _ ?_
          clear hk K
          try simp only [Act.put, List.setIfInBounds_toArray, List.set_cons_zero, List.set_cons_succ]
          refine wpAny_take (i := 3) (oi := ⟨some 34, _, _, _, _, _⟩) (v := (.bool false)) rfl (by kernel_rfl) (by kernel_rfl) (by kernel_rfl) (fun _ _ _ h => h) (Or.inl ⟨by rfl, ?_⟩) ?_
          · intro W
            go_simp
          try simp only [Act.put, List.setIfInBounds_toArray, List.set_cons_zero, List.set_cons_succ]
          refine wpAny_take (i := 4) (oi := ⟨some 35, _, _, _, _, _⟩) (v := (.bool false)) rfl (by kernel_rfl) (by kernel_rfl) (by kernel_rfl) (fun _ _ _ h => h) (Or.inl ⟨by rfl, ?_⟩) ?_
          · intro W
            go_simp
          try simp only [Act.put, List.setIfInBounds_toArray, List.set_cons_zero, List.set_cons_succ]
          refine wpAny_take (i := 5) (oi := ⟨some 36, _, _, _, _, _⟩) (v := (.string ⟨#[]⟩)) rfl (by kernel_rfl) (by kernel_rfl) (by kernel_rfl) (fun _ _ _ h => h) (Or.inl ⟨by rfl, ?_⟩) ?_
          · intro W
            go_simp
          try simp only [Act.put, List.setIfInBounds_toArray, List.set_cons_zero, List.set_cons_succ]
          refine wpAny_take (i := 6) (oi := ⟨some 37, _, _, _, _, _⟩) (v := (.bool true)) rfl (by kernel_rfl) (by kernel_rfl) (by kernel_rfl) (fun _ _ _ h => h) (Or.inl ⟨by rfl, ?_⟩) ?_
          · intro W
            go_simp
          try simp only [Act.put, List.setIfInBounds_toArray, List.set_cons_zero, List.set_cons_succ]
          refine wpAny_take (i := 7) (oi := ⟨some 38, _, _, _, _, _⟩) (v := (.bool true)) rfl (by kernel_rfl) (by kernel_rfl) (by kernel_rfl) (fun _ _ _ h => h) (Or.inl ⟨by rfl, ?_⟩) ?_
          · intro W
            go_simp
          try simp only [Act.put, List.setIfInBounds_toArray, List.set_cons_zero, List.set_cons_succ]
          refine wpAny_ready (rs := [8, 10]) (by kernel_rfl) (by simp) ?_
          refine AllReady.cons (o := ⟨some 39, _, _, _, _, _⟩) rfl (fun K hK => ?_) ?_
          · have hk := Lib.hid hK
            clear hK
            rw [if_pos (by rfl)]
            refine wp_load_row 29 (.tmp 7) rfl g7 rfl 29 #[.int .u16 z.op, .int .u8 z.sha.a.toNat, .int .u8 z.sha.b.toNat, .int .u8 z.sha.c.toNat, .int .u8 z.sha.d.toNat, .int .u8 z.sha.e.toNat, .int .u8 z.sha.f.toNat, .int .u32 z.spa, .int .u8 z.tha.a.toNat, .int .u8 z.tha.b.toNat, .int .u8 z.tha.c.toNat, .int .u8 z.tha.d.toNat, .int .u8 z.tha.e.toNat, .int .u8 z.tha.f.toNat, .int .u32 z.tpa] (0, 0) _ (H76.out.below (below_drew w6)) Tryd.underlying29 rfl pktSize ?_
            refine hk.out _ _ ?_
            clear hk K
            try simp only [Act.put, List.setIfInBounds_toArray, List.set_cons_zero, List.set_cons_succ]
            refine wpAny_ready (rs := [9, 10]) (by kernel_rfl) (by simp) ?_
            refine AllReady.cons (o := ⟨some 40, _, _, _, _, _⟩) rfl (fun K hK => ?_) ?_
            · have hk := Lib.hid hK
              clear hK
              go_simp
              go_at_call 8
              refine (XO.out _).mono ?_
              rintro e w8 ⟨rfl, hl⟩
              dsimp only
              have HL8 := Lib.hid ((below_drew w6).trans hl)
              clear hl
              refine hk.out _ _ ?_
              clear hk K
              try simp only [Act.put, List.setIfInBounds_toArray, List.set_cons_zero, List.set_cons_succ]
              refine wpAny_ready (rs := [10]) (by kernel_rfl) (by simp) ?_
              refine AllReady.cons (o := ⟨some 41, _, _, _, _, _⟩) rfl (fun K hK => ?_) ?_
              · have hk := Lib.hid hK
                clear hK
                rw [if_pos (by rfl)]
                refine wp_load_row 36 (.tmp 9) rfl g9 rfl 36 #[.int .u32 z.op, .string (txt z.sha.bs), .string (txt z.tha.bs), .int .u32 z.spa, .int .u32 z.tpa] (0, 0) _ (abe_block HL8.out H9.out) Tryd.underlying36 rfl refPktSize ?_
                refine hk.out _ _ ?_
                clear hk K
                try simp only [Act.put, List.setIfInBounds_toArray, List.set_cons_zero, List.set_cons_succ]
                refine wpAny_take (i := 11) (oi := ⟨some 42, _, _, _, _, _⟩) (v := (.bool false)) rfl (by kernel_rfl) (by kernel_rfl) (by kernel_rfl) (fun _ _ _ h => h) (Or.inl ⟨by rfl, ?_⟩) ?_
                · intro W
                  go_simp
                try simp only [Act.put, List.setIfInBounds_toArray, List.set_cons_zero, List.set_cons_succ]
                refine wpAny_take (i := 12) (oi := ⟨some 43, _, _, _, _, _⟩) (v := (.bool false)) rfl (by kernel_rfl) (by kernel_rfl) (by kernel_rfl) (fun _ _ _ h => h) (Or.inl ⟨by rfl, ?_⟩) ?_
                · intro W
                  go_simp
                try simp only [Act.put, List.setIfInBounds_toArray, List.set_cons_zero, List.set_cons_succ]
                refine wpAny_take (i := 13) (oi := ⟨some 44, _, _, _, _, _⟩) (v := (.bool false)) rfl (by kernel_rfl) (by kernel_rfl) (by kernel_rfl) (fun _ _ _ h => h) (Or.inl ⟨by rfl, ?_⟩) ?_
                · intro W
                  go_simp
                try simp only [Act.put, List.setIfInBounds_toArray, List.set_cons_zero, List.set_cons_succ]
                refine wpAny_take (i := 14) (oi := ⟨some 45, _, _, _, _, _⟩) (v := (.bool false)) rfl (by kernel_rfl) (by kernel_rfl) (by kernel_rfl) (fun _ _ _ h => h) (Or.inl ⟨by rfl, ?_⟩) ?_
                · intro W
                  go_simp
                try simp only [Act.put, List.setIfInBounds_toArray, List.set_cons_zero, List.set_cons_succ]
                refine wpAny_take (i := 15) (oi := ⟨some 46, _, _, _, _, _⟩) (v := (.string ⟨#[]⟩)) rfl (by kernel_rfl) (by kernel_rfl) (by kernel_rfl) (fun _ _ _ h => h) (Or.inl ⟨by rfl, ?_⟩) ?_
                · intro W
                  go_simp
                try simp only [Act.put, List.setIfInBounds_toArray, List.set_cons_zero, List.set_cons_succ]
                refine wpAny_take (i := 16) (oi := ⟨some 47, _, _, _, _, _⟩) (v := (.bool false)) rfl (by kernel_rfl) (by kernel_rfl) (by kernel_rfl) (fun _ _ _ h => h) (Or.inl ⟨by rfl, ?_⟩) ?_
                · intro W
                  go_simp
                try simp only [Act.put, List.setIfInBounds_toArray, List.set_cons_zero, List.set_cons_succ]
                refine wpAny_take (i := 17) (oi := ⟨some 48, _, _, _, _, _⟩) (v := (.bool false)) rfl (by kernel_rfl) (by kernel_rfl) (by kernel_rfl) (fun _ _ _ h => h) (Or.inl ⟨by rfl, ?_⟩) ?_
                · intro W
                  go_simp
                try simp only [Act.put, List.setIfInBounds_toArray, List.set_cons_zero, List.set_cons_succ]
                refine wpAny_take (i := 18) (oi := ⟨some 49, _, _, _, _, _⟩) (v := undef) rfl (by kernel_rfl) (by kernel_rfl) (by kernel_rfl) (fun _ _ _ h => h) (Or.inr ⟨by rfl, rfl⟩) ?_
                try simp only [Act.put, List.setIfInBounds_toArray, List.set_cons_zero, List.set_cons_succ]
                refine wpAny_take (i := 19) (oi := ⟨some 50, _, _, _, _, _⟩) (v := undef) rfl (by kernel_rfl) (by kernel_rfl) (by kernel_rfl) (fun _ _ _ h => h) (Or.inr ⟨by rfl, rfl⟩) ?_
                try simp only [Act.put, List.setIfInBounds_toArray, List.set_cons_zero, List.set_cons_succ]
                refine wpAny_take (i := 20) (oi := ⟨some 51, _, _, _, _, _⟩) (v := undef) rfl (by kernel_rfl) (by kernel_rfl) (by kernel_rfl) (fun _ _ _ h => h) (Or.inr ⟨by rfl, rfl⟩) ?_
                try simp only [Act.put, List.setIfInBounds_toArray, List.set_cons_zero, List.set_cons_succ]
                refine wpAny_take (i := 21) (oi := ⟨some 52, _, _, _, _, _⟩) (v := (.bool false)) rfl (by kernel_rfl) (by kernel_rfl) (by kernel_rfl) (fun _ _ _ h => h) (Or.inl ⟨by rfl, ?_⟩) ?_
                · intro W
                  go_simp
                try simp only [Act.put, List.setIfInBounds_toArray, List.set_cons_zero, List.set_cons_succ]
                refine wpAny_take (i := 22) (oi := ⟨some 53, _, _, _, _, _⟩) (v := (.bool false)) rfl (by kernel_rfl) (by kernel_rfl) (by kernel_rfl) (fun _ _ _ h => h) (Or.inl ⟨by rfl, ?_⟩) ?_
                · intro W
                  go_simp
                try simp only [Act.put, List.setIfInBounds_toArray, List.set_cons_zero, List.set_cons_succ]
                refine wpAny_done (by kernel_rfl) ?_ _
                go_wp2_with fail
                go_meet
                exact ⟨rfl, HL8.out⟩
              exact AllReady.nil
            refine AllReady.cons (o := ⟨some 41, _, _, _, _, _⟩) rfl (fun K hK => ?_) ?_
            · have hk := Lib.hid hK
              clear hK
              rw [if_pos (by rfl)]
              refine wp_load_row 36 (.tmp 9) rfl g9 rfl 36 #[.int .u32 z.op, .string (txt z.sha.bs), .string (txt z.tha.bs), .int .u32 z.spa, .int .u32 z.tpa] (0, 0) _ (show w6.drew.heap[g9]? = _ from H9.out) Tryd.underlying36 rfl refPktSize ?_
              refine hk.out _ _ ?_
              clear hk K
              try simp only [Act.put, List.setIfInBounds_toArray, List.set_cons_zero, List.set_cons_succ]
              refine wpAny_ready (rs := [9]) (by kernel_rfl) (by simp) ?_
              refine AllReady.cons (o := ⟨some 40, _, _, _, _, _⟩) rfl (fun K hK => ?_) ?_
              · have hk := Lib.hid hK
                clear hK
                go_simp
                go_at_call 8
                refine (XO.out _).mono ?_
                rintro e w8 ⟨rfl, hl⟩
                dsimp only
                have HL8 := Lib.hid ((below_drew w6).trans hl)
                clear hl
                refine hk.out _ _ ?_
                clear hk K
                try simp only [Act.put, List.setIfInBounds_toArray, List.set_cons_zero, List.set_cons_succ]
                refine wpAny_take (i := 11) (oi := ⟨some 42, _, _, _, _, _⟩) (v := (.bool false)) rfl (by kernel_rfl) (by kernel_rfl) (by kernel_rfl) (fun _ _ _ h => h) (Or.inl ⟨by rfl, ?_⟩) ?_
                · intro W
                  go_simp
                try simp only [Act.put, List.setIfInBounds_toArray, List.set_cons_zero, List.set_cons_succ]
                refine wpAny_take (i := 12) (oi := ⟨some 43, _, _, _, _, _⟩) (v := (.bool false)) rfl (by kernel_rfl) (by kernel_rfl) (by kernel_rfl) (fun _ _ _ h => h) (Or.inl ⟨by rfl, ?_⟩) ?_
                · intro W
                  go_simp
                try simp only [Act.put, List.setIfInBounds_toArray, List.set_cons_zero, List.set_cons_succ]
                refine wpAny_take (i := 13) (oi := ⟨some 44, _, _, _, _, _⟩) (v := (.bool false)) rfl (by kernel_rfl) (by kernel_rfl) (by kernel_rfl) (fun _ _ _ h => h) (Or.inl ⟨by rfl, ?_⟩) ?_
                · intro W
                  go_simp
                try simp only [Act.put, List.setIfInBounds_toArray, List.set_cons_zero, List.set_cons_succ]
                refine wpAny_take (i := 14) (oi := ⟨some 45, _, _, _, _, _⟩) (v := (.bool false)) rfl (by kernel_rfl) (by kernel_rfl) (by kernel_rfl) (fun _ _ _ h => h) (Or.inl ⟨by rfl, ?_⟩) ?_
                · intro W
                  go_simp
                try simp only [Act.put, List.setIfInBounds_toArray, List.set_cons_zero, List.set_cons_succ]
                refine wpAny_take (i := 15) (oi := ⟨some 46, _, _, _, _, _⟩) (v := (.string ⟨#[]⟩)) rfl (by kernel_rfl) (by kernel_rfl) (by kernel_rfl) (fun _ _ _ h => h) (Or.inl ⟨by rfl, ?_⟩) ?_
                · intro W
                  go_simp
                try simp only [Act.put, List.setIfInBounds_toArray, List.set_cons_zero, List.set_cons_succ]
                refine wpAny_take (i := 16) (oi := ⟨some 47, _, _, _, _, _⟩) (v := (.bool false)) rfl (by kernel_rfl) (by kernel_rfl) (by kernel_rfl) (fun _ _ _ h => h) (Or.inl ⟨by rfl, ?_⟩) ?_
                · intro W
                  go_simp
                try simp only [Act.put, List.setIfInBounds_toArray, List.set_cons_zero, List.set_cons_succ]
                refine wpAny_take (i := 17) (oi := ⟨some 48, _, _, _, _, _⟩) (v := (.bool false)) rfl (by kernel_rfl) (by kernel_rfl) (by kernel_rfl) (fun _ _ _ h => h) (Or.inl ⟨by rfl, ?_⟩) ?_
                · intro W
                  go_simp
                try simp only [Act.put, List.setIfInBounds_toArray, List.set_cons_zero, List.set_cons_succ]
                refine wpAny_take (i := 18) (oi := ⟨some 49, _, _, _, _, _⟩) (v := undef) rfl (by kernel_rfl) (by kernel_rfl) (by kernel_rfl) (fun _ _ _ h => h) (Or.inr ⟨by rfl, rfl⟩) ?_
                try simp only [Act.put, List.setIfInBounds_toArray, List.set_cons_zero, List.set_cons_succ]
                refine wpAny_take (i := 19) (oi := ⟨some 50, _, _, _, _, _⟩) (v := undef) rfl (by kernel_rfl) (by kernel_rfl) (by kernel_rfl) (fun _ _ _ h => h) (Or.inr ⟨by rfl, rfl⟩) ?_
                try simp only [Act.put, List.setIfInBounds_toArray, List.set_cons_zero, List.set_cons_succ]
                refine wpAny_take (i := 20) (oi := ⟨some 51, _, _, _, _, _⟩) (v := undef) rfl (by kernel_rfl) (by kernel_rfl) (by kernel_rfl) (fun _ _ _ h => h) (Or.inr ⟨by rfl, rfl⟩) ?_
                try simp only [Act.put, List.setIfInBounds_toArray, List.set_cons_zero, List.set_cons_succ]
                refine wpAny_take (i := 21) (oi := ⟨some 52, _, _, _, _, _⟩) (v := (.bool false)) rfl (by kernel_rfl) (by kernel_rfl) (by kernel_rfl) (fun _ _ _ h => h) (Or.inl ⟨by rfl, ?_⟩) ?_
                · intro W
                  go_simp
                try simp only [Act.put, List.setIfInBounds_toArray, List.set_cons_zero, List.set_cons_succ]
                refine wpAny_take (i := 22) (oi := ⟨some 53, _, _, _, _, _⟩) (v := (.bool false)) rfl (by kernel_rfl) (by kernel_rfl) (by kernel_rfl) (fun _ _ _ h => h) (Or.inl ⟨by rfl, ?_⟩) ?_
                · intro W
                  go_simp
                try simp only [Act.put, List.setIfInBounds_toArray, List.set_cons_zero, List.set_cons_succ]
                refine wpAny_done (by kernel_rfl) ?_ _
                go_wp2_with fail
                go_meet
                exact ⟨rfl, HL8.out⟩
              exact AllReady.nil
            exact AllReady.nil
          refine AllReady.cons (o := ⟨some 41, _, _, _, _, _⟩) rfl (fun K hK => ?_) ?_
          · have hk := Lib.hid hK
            clear hK
            rw [if_pos (by rfl)]
            refine wp_load_row 36 (.tmp 9) rfl g9 rfl 36 #[.int .u32 z.op, .string (txt z.sha.bs), .string (txt z.tha.bs), .int .u32 z.spa, .int .u32 z.tpa] (0, 0) _ (show w6.drew.heap[g9]? = _ from H9.out) Tryd.underlying36 rfl refPktSize ?_
            refine hk.out _ _ ?_
            clear hk K
            try simp only [Act.put, List.setIfInBounds_toArray, List.set_cons_zero, List.set_cons_succ]
            refine wpAny_ready (rs := [8]) (by kernel_rfl) (by simp) ?_
            refine AllReady.cons (o := ⟨some 39, _, _, _, _, _⟩) rfl (fun K hK => ?_) ?_
            · have hk := Lib.hid hK
              clear hK
              rw [if_pos (by rfl)]
              refine wp_load_row 29 (.tmp 7) rfl g7 rfl 29 #[.int .u16 z.op, .int .u8 z.sha.a.toNat, .int .u8 z.sha.b.toNat, .int .u8 z.sha.c.toNat, .int .u8 z.sha.d.toNat, .int .u8 z.sha.e.toNat, .int .u8 z.sha.f.toNat, .int .u32 z.spa, .int .u8 z.tha.a.toNat, .int .u8 z.tha.b.toNat, .int .u8 z.tha.c.toNat, .int .u8 z.tha.d.toNat, .int .u8 z.tha.e.toNat, .int .u8 z.tha.f.toNat, .int .u32 z.tpa] (0, 0) _ (H76.out.below (below_drew w6)) Tryd.underlying29 rfl pktSize ?_
              refine hk.out _ _ ?_
              clear hk K
              try simp only [Act.put, List.setIfInBounds_toArray, List.set_cons_zero, List.set_cons_succ]
              refine wpAny_ready (rs := [9]) (by kernel_rfl) (by simp) ?_
              refine AllReady.cons (o := ⟨some 40, _, _, _, _, _⟩) rfl (fun K hK => ?_) ?_
              · have hk := Lib.hid hK
                clear hK
                go_simp
                go_at_call 8
                refine (XO.out _).mono ?_
                rintro e w8 ⟨rfl, hl⟩
                dsimp only
                have HL8 := Lib.hid ((below_drew w6).trans hl)
                clear hl
                refine hk.out _ _ ?_
                clear hk K
                try simp only [Act.put, List.setIfInBounds_toArray, List.set_cons_zero, List.set_cons_succ]
                refine wpAny_take (i := 11) (oi := ⟨some 42, _, _, _, _, _⟩) (v := (.bool false)) rfl (by kernel_rfl) (by kernel_rfl) (by kernel_rfl) (fun _ _ _ h => h) (Or.inl ⟨by rfl, ?_⟩) ?_
                · intro W
                  go_simp
                try simp only [Act.put, List.setIfInBounds_toArray, List.set_cons_zero, List.set_cons_succ]
                refine wpAny_take (i := 12) (oi := ⟨some 43, _, _, _, _, _⟩) (v := (.bool false)) rfl (by kernel_rfl) (by kernel_rfl) (by kernel_rfl) (fun _ _ _ h => h) (Or.inl ⟨by rfl, ?_⟩) ?_
                · intro W
                  go_simp
                try simp only [Act.put, List.setIfInBounds_toArray, List.set_cons_zero, List.set_cons_succ]
                refine wpAny_take (i := 13) (oi := ⟨some 44, _, _, _, _, _⟩) (v := (.bool false)) rfl (by kernel_rfl) (by kernel_rfl) (by kernel_rfl) (fun _ _ _ h => h) (Or.inl ⟨by rfl, ?_⟩) ?_
                · intro W
                  go_simp
                try simp only [Act.put, List.setIfInBounds_toArray, List.set_cons_zero, List.set_cons_succ]
                refine wpAny_take (i := 14) (oi := ⟨some 45, _, _, _, _, _⟩) (v := (.bool false)) rfl (by kernel_rfl) (by kernel_rfl) (by kernel_rfl) (fun _ _ _ h => h) (Or.inl ⟨by rfl, ?_⟩) ?_
                · intro W
                  go_simp
                try simp only [Act.put, List.setIfInBounds_toArray, List.set_cons_zero, List.set_cons_succ]
                refine wpAny_take (i := 15) (oi := ⟨some 46, _, _, _, _, _⟩) (v := (.string ⟨#[]⟩)) rfl (by kernel_rfl) (by kernel_rfl) (by kernel_rfl) (fun _ _ _ h => h) (Or.inl ⟨by rfl, ?_⟩) ?_
                · intro W
                  go_simp
                try simp only [Act.put, List.setIfInBounds_toArray, List.set_cons_zero, List.set_cons_succ]
                refine wpAny_take (i := 16) (oi := ⟨some 47, _, _, _, _, _⟩) (v := (.bool false)) rfl (by kernel_rfl) (by kernel_rfl) (by kernel_rfl) (fun _ _ _ h => h) (Or.inl ⟨by rfl, ?_⟩) ?_
                · intro W
                  go_simp
                try simp only [Act.put, List.setIfInBounds_toArray, List.set_cons_zero, List.set_cons_succ]
                refine wpAny_take (i := 17) (oi := ⟨some 48, _, _, _, _, _⟩) (v := (.bool false)) rfl (by kernel_rfl) (by kernel_rfl) (by kernel_rfl) (fun _ _ _ h => h) (Or.inl ⟨by rfl, ?_⟩) ?_
                · intro W
                  go_simp
                try simp only [Act.put, List.setIfInBounds_toArray, List.set_cons_zero, List.set_cons_succ]
                refine wpAny_take (i := 18) (oi := ⟨some 49, _, _, _, _, _⟩) (v := undef) rfl (by kernel_rfl) (by kernel_rfl) (by kernel_rfl) (fun _ _ _ h => h) (Or.inr ⟨by rfl, rfl⟩) ?_
                try simp only [Act.put, List.setIfInBounds_toArray, List.set_cons_zero, List.set_cons_succ]
                refine wpAny_take (i := 19) (oi := ⟨some 50, _, _, _, _, _⟩) (v := undef) rfl (by kernel_rfl) (by kernel_rfl) (by kernel_rfl) (fun _ _ _ h => h) (Or.inr ⟨by rfl, rfl⟩) ?_
                try simp only [Act.put, List.setIfInBounds_toArray, List.set_cons_zero, List.set_cons_succ]
                refine wpAny_take (i := 20) (oi := ⟨some 51, _, _, _, _, _⟩) (v := undef) rfl (by kernel_rfl) (by kernel_rfl) (by kernel_rfl) (fun _ _ _ h => h) (Or.inr ⟨by rfl, rfl⟩) ?_
                try simp only [Act.put, List.setIfInBounds_toArray, List.set_cons_zero, List.set_cons_succ]
                refine wpAny_take (i := 21) (oi := ⟨some 52, _, _, _, _, _⟩) (v := (.bool false)) rfl (by kernel_rfl) (by kernel_rfl) (by kernel_rfl) (fun _ _ _ h => h) (Or.inl ⟨by rfl, ?_⟩) ?_
                · intro W
                  go_simp
                try simp only [Act.put, List.setIfInBounds_toArray, List.set_cons_zero, List.set_cons_succ]
                refine wpAny_take (i := 22) (oi := ⟨some 53, _, _, _, _, _⟩) (v := (.bool false)) rfl (by kernel_rfl) (by kernel_rfl) (by kernel_rfl) (fun _ _ _ h => h) (Or.inl ⟨by rfl, ?_⟩) ?_
                · intro W
                  go_simp
                try simp only [Act.put, List.setIfInBounds_toArray, List.set_cons_zero, List.set_cons_succ]
                refine wpAny_done (by kernel_rfl) ?_ _
                go_wp2_with fail
                go_meet
                exact ⟨rfl, HL8.out⟩
              exact AllReady.nil
            exact AllReady.nil
          exact AllReady.nil
        exact AllReady.nil
      obtain ⟨rfl, hl⟩ := hcut
      have HX8 := Lib.hid (HX6.out.below hl)
      have HRB8 := Lib.hid (HRB6.out.below hl)
      have HB8 := Lib.hid (below_on HB6.out HW.out hl)
      clear hl HX6 HRB6 HB6 H76 H9 XO heq HAN
      generalize wc = w8 at *
      go_upto_region 8 with fail
      have KS : Hid (∀ W, Below w8.heap.size w8 W → (W.cell? ⟨n, 0, none⟩ = some (.int .u16 q.op) ∧ W.cell? ⟨n, 1, none⟩ = some (.int .u8 q.sha.a.toNat) ∧ W.cell? ⟨n, 2, none⟩ = some (.int .u8 q.sha.b.toNat) ∧ W.cell? ⟨n, 3, none⟩ = some (.int .u8 q.sha.c.toNat) ∧ W.cell? ⟨n, 4, none⟩ = some (.int .u8 q.sha.d.toNat) ∧ W.cell? ⟨n, 5, none⟩ = some (.int .u8 q.sha.e.toNat) ∧ W.cell? ⟨n, 6, none⟩ = some (.int .u8 q.sha.f.toNat) ∧ W.cell? ⟨n, 7, none⟩ = some (.int .u32 q.spa) ∧ W.cell? ⟨n, 8, none⟩ = some (.int .u8 q.tha.a.toNat) ∧ W.cell? ⟨n, 9, none⟩ = some (.int .u8 q.tha.b.toNat) ∧ W.cell? ⟨n, 10, none⟩ = some (.int .u8 q.tha.c.toNat) ∧ W.cell? ⟨n, 11, none⟩ = some (.int .u8 q.tha.d.toNat) ∧ W.cell? ⟨n, 12, none⟩ = some (.int .u8 q.tha.e.toNat) ∧ W.cell? ⟨n, 13, none⟩ = some (.int .u8 q.tha.f.toNat) ∧ W.cell? ⟨n, 14, none⟩ = some (.int .u32 q.tpa)) ∧ (convert 22 9 (.slice (some ⟨g, 0, none⟩) ls.length c')).run Tryd.prog W = .ok (.string (txt ls)) W) := fun W h => ⟨(HX8.out.below h).cells, convert_rd (HRB8.out.below h)⟩
      have X1 := Lib.hid (aBytes_lit q HQI.out w8.drew)
      have XF : Hid (∀ W : World, Calls Tryd.prog 8 #[.agg #[.int .u16 q.op, .int .u8 q.sha.a.toNat, .int .u8 q.sha.b.toNat, .int .u8 q.sha.c.toNat, .int .u8 q.sha.d.toNat, .int .u8 q.sha.e.toNat, .int .u8 q.sha.f.toNat, .int .u32 q.spa, .int .u8 q.tha.a.toNat, .int .u8 q.tha.b.toNat, .int .u8 q.tha.c.toNat, .int .u8 q.tha.d.toNat, .int .u8 q.tha.e.toNat, .int .u8 q.tha.f.toNat, .int .u32 q.tpa]] W fun e w' => e = .returned (.agg #[.int .u32 q.op, .string (txt q.sha.bs), .string (txt q.tha.bs), .int .u32 q.spa, .int .u32 q.tpa]) ∧ Below W.heap.size W w') := fun W => aOf_any q W HQI.out
      have XB : Hid (∀ W : World, _) := fun W => refABytes q HQI.out W
      have HNS : Hid (n ≤ w8.heap.size) := by have := HB8.out.size; rw [HW.out] at this; exact this
      clear HX8 HRB8
      obtain ⟨tq, htq⟩ : ∃ tq, txt q.bs = tq := ⟨_, rfl⟩
      have HTQ := Lib.hid htq
      rw [htq] at XB
      clear htq
      generalize txt ls = tl at *
      generalize txt q.sha.bs = ta at *
      generalize txt q.tha.bs = tb at *
      go_region_held_law (fun W => (W.cell? ⟨n, 0, none⟩ = some (.int .u16 q.op) ∧ W.cell? ⟨n, 1, none⟩ = some (.int .u8 q.sha.a.toNat) ∧ W.cell? ⟨n, 2, none⟩ = some (.int .u8 q.sha.b.toNat) ∧ W.cell? ⟨n, 3, none⟩ = some (.int .u8 q.sha.c.toNat) ∧ W.cell? ⟨n, 4, none⟩ = some (.int .u8 q.sha.d.toNat) ∧ W.cell? ⟨n, 5, none⟩ = some (.int .u8 q.sha.e.toNat) ∧ W.cell? ⟨n, 6, none⟩ = some (.int .u8 q.sha.f.toNat) ∧ W.cell? ⟨n, 7, none⟩ = some (.int .u32 q.spa) ∧ W.cell? ⟨n, 8, none⟩ = some (.int .u8 q.tha.a.toNat) ∧ W.cell? ⟨n, 9, none⟩ = some (.int .u8 q.tha.b.toNat) ∧ W.cell? ⟨n, 10, none⟩ = some (.int .u8 q.tha.c.toNat) ∧ W.cell? ⟨n, 11, none⟩ = some (.int .u8 q.tha.d.toNat) ∧ W.cell? ⟨n, 12, none⟩ = some (.int .u8 q.tha.e.toNat) ∧ W.cell? ⟨n, 13, none⟩ = some (.int .u8 q.tha.f.toNat) ∧ W.cell? ⟨n, 14, none⟩ = some (.int .u32 q.tpa)) ∧ (convert 22 9 (.slice (some ⟨g, 0, none⟩) ls.length c')).run Tryd.prog W = .ok (.string tl) W)
        (first | assumption | exact KS.out _ HL3.out | exact KS.out _ HL2.out | exact KS.out _ HL1.out | exact KS.out _ (below_drew w8))
        (first
          | (go_at_call 9; (with_reducible refine X1.out.mono ?_); rintro e x1 ⟨b1, rfl, _, ho1, hl1⟩; (have HL1 := Lib.hid ((below_drew w8).trans hl1)); (have v1 := convert_rd (show Rd x1 (.slice (some ⟨b1, 0, none⟩) 28 28) q.bs from Rd.of_obj ho1 (Nat.le_refl _))); rw [HTQ.out] at v1; (have HO1 := Lib.hid ho1); clear ho1 hl1)
          | (go_at_call 8; (with_reducible refine (XF.out _).mono ?_); rintro e x2 ⟨rfl, hl2⟩; (have HL2 := Lib.hid (below_to HL1.out hl2 HL1.out.size)); (have HO2 := Lib.hid (abe_block hl2 HO1.out)); (have v2 := convert_rd (show Rd x2 (.slice (some ⟨b1, 0, none⟩) 28 28) q.bs from Rd.of_obj HO2.out (Nat.le_refl _))); rw [HTQ.out] at v2; clear hl2)
          | (go_at_call 10; (with_reducible refine (XB.out _).mono ?_); rintro e x3 ⟨rfl, hl3⟩; (have HL3 := Lib.hid (below_to HL2.out hl3 HL2.out.size)); (have v3 := convert_rd (show Rd x3 (.slice (some ⟨b1, 0, none⟩) 28 28) q.bs from Rd.of_obj (abe_block hl3 HO2.out) (Nat.le_refl _))); rw [HTQ.out] at v3; clear hl3))
      all_goals
        go_wp2_with fail
        go_ret
        exact ⟨rfl, by rw [HW.out]; exact below_to HB8.out HL3.out HNS.out⟩
end Go.Proofs.YthinmonahnbkdaaDoor
