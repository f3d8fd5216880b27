/-
  What is proved: the law ArpUnlike answers true for any two packets, and leaves all older memory as it was.
  Conditions: errors.errorType holds the handle of the type error; the packets' numbers fit their types.
-/
import Derived.Test.YtjfghobhneogjaaDoorAShown
namespace Go.Proofs.YtjfghobhneogjaaDoor
open Go.RowKit

theorem be2_inj {a b : Nat} (ha : a < 65536) (hb : b < 65536) (h : be2 a = be2 b) : a = b := by
  have h1 := be2_val a ha
  have h2 := be2_val b hb
  simp only [be2, List.cons.injEq, and_true] at h
  rw [h.1, h.2] at h1
  omega
theorem be4_inj {a b : Nat} (ha : a < 4294967296) (hb : b < 4294967296) (h : be4 a = be4 b) : a = b := by
  have h1 := n32_be4 a ha
  have h2 := n32_be4 b hb
  simp only [be4, List.cons.injEq, and_true] at h
  rw [h.1, h.2.1, h.2.2.1, h.2.2.2] at h1
  omega
theorem M6.bs_inj {a b : M6} (h : a.bs = b.bs) : a = b := by
  obtain ⟨a0, a1, a2, a3, a4, a5⟩ := a
  obtain ⟨b0, b1, b2, b3, b4, b5⟩ := b
  simp only [M6.bs, List.cons.injEq, and_true] at h
  obtain ⟨rfl, rfl, rfl, rfl, rfl, rfl⟩ := h
  rfl
theorem Pkt.bs_inj {p q : Pkt} (hp : p.In) (hq : q.In) (h : p.bs = q.bs) : p = q := by
  obtain ⟨o1, s1, i1, t1, j1⟩ := p
  obtain ⟨o2, s2, i2, t2, j2⟩ := q
  simp only [Pkt.bs] at h
  have h := List.append_cancel_left h
  obtain ⟨e1, h⟩ := List.append_inj h rfl
  obtain ⟨e2, h⟩ := List.append_inj h rfl
  obtain ⟨e3, h⟩ := List.append_inj h rfl
  obtain ⟨e4, e5⟩ := List.append_inj h rfl
  obtain rfl := be2_inj hp.op hq.op e1
  obtain rfl := M6.bs_inj e2
  obtain rfl := be4_inj hp.spa hq.spa e3
  obtain rfl := M6.bs_inj e4
  obtain rfl := be4_inj hp.tpa hq.tpa e5
  rfl
/-- In which field two packets are unlike first. -/
theorem Pkt.first_unlike {p q : Pkt} (h : p ≠ q) : p.op ≠ q.op ∨ (p.op = q.op ∧ macB p.sha q.sha = false) ∨ (p.op = q.op ∧ macB p.sha q.sha = true ∧ p.spa ≠ q.spa) ∨ (p.op = q.op ∧ macB p.sha q.sha = true ∧ p.spa = q.spa ∧ macB p.tha q.tha = false) ∨
    (p.op = q.op ∧ macB p.sha q.sha = true ∧ p.spa = q.spa ∧ macB p.tha q.tha = true ∧ p.tpa ≠ q.tpa) := by
  obtain ⟨o1, s1, i1, t1, j1⟩ := p
  obtain ⟨o2, s2, i2, t2, j2⟩ := q
  simp only
  by_cases h1 : o1 = o2
  · by_cases h2 : macB s1 s2 = true
    · by_cases h3 : i1 = i2
      · by_cases h4 : macB t1 t2 = true
        · by_cases h5 : j1 = j2
          · obtain rfl := (macB_iff _ _).1 h2
            obtain rfl := (macB_iff _ _).1 h4
            subst h1 h3 h5
            exact absurd rfl h
          · exact .inr (.inr (.inr (.inr ⟨h1, h2, h3, h4, h5⟩)))
        · exact .inr (.inr (.inr (.inl ⟨h1, h2, h3, by simpa using h4⟩)))
      · exact .inr (.inr (.inl ⟨h1, h2, h3⟩))
    · exact .inr (.inl ⟨h1, by simpa using h2⟩)
  · exact .inl h1

/-- What the last region is walked with. -/
structure UnSt (w : World) (n : Nat) (p q : Pkt) (W : World) : Prop where
  p : PktAt W n p
  q : PktAt W (n + 1) q
  old : Below n w W

set_option maxRecDepth 100000 in
set_option maxHeartbeats 4000000 in
theorem unlike_any (p q : Pkt) (w : World) (hg : Hdl w) (hp : p.In) (hq : q.In) :
    Calls Tryd.prog 6 #[p.val, q.val] w fun e w' => e = .returned (.bool true) ∧ Below w.heap.size w w' := by
  have b1 := below_al (Below.refl w.heap.size w) p.obj
  have b2 := below_al b1 q.obj
  have x1 : PktAt ((w.alloc p.obj).alloc q.obj) w.heap.size p := (PktAt.new w p).below (below_al (Below.refl _ _) _)
  have x2 : PktAt ((w.alloc p.obj).alloc q.obj) (w.heap.size + 1) q := by
    have h := PktAt.new (w.alloc p.obj) q
    rwa [World.size_alloc] at h
  have HS := Lib.hid (aShown_any _ (hg.below b2))
  have HX := Lib.hid (show UnSt w w.heap.size p q _ from ⟨x1, x2, b2⟩)
  have HP := Lib.hid hp
  have HQ := Lib.hid hq
  clear hg b1 b2 x1 x2 hp hq
  rw [Pkt.val_lit, Pkt.val_lit]
  unfold Pkt.obj at HS
  go_enter Tryd.func6, Tryd.ntmps6
  go_wp2_with fail
  refine HS.out.mono ?_
  rintro e W ⟨rfl, hl⟩
  have HX1 : Hid (UnSt w w.heap.size p q W) := ⟨HX.out.p.below hl, HX.out.q.below hl, below_to HX.out.old hl HX.out.old.size⟩
  clear HS hl HX
  generalize hn : w.heap.size = n at *
  have HN := Lib.hid hn
  clear hn
  go_upto_region 2 with fail
  obtain ⟨tp, htp⟩ : ∃ t, t = txt p.bs := ⟨_, rfl⟩
  obtain ⟨tq, htq⟩ : ∃ t, t = txt q.bs := ⟨_, rfl⟩
  have HTP := Lib.hid htp
  have HTQ := Lib.hid htq
  have KS : Hid (∀ W', Below W.heap.size W W' → W'.cell? ⟨n, 0, none⟩ = some (.int .u16 p.op) ∧ W'.cell? ⟨n, 1, none⟩ = some (.int .u8 p.sha.a.toNat) ∧ W'.cell? ⟨n, 2, none⟩ = some (.int .u8 p.sha.b.toNat) ∧ W'.cell? ⟨n, 3, none⟩ = some (.int .u8 p.sha.c.toNat) ∧ W'.cell? ⟨n, 4, none⟩ = some (.int .u8 p.sha.d.toNat) ∧ W'.cell? ⟨n, 5, none⟩ = some (.int .u8 p.sha.e.toNat) ∧ W'.cell? ⟨n, 6, none⟩ = some (.int .u8 p.sha.f.toNat) ∧ W'.cell? ⟨n, 7, none⟩ = some (.int .u32 p.spa) ∧ W'.cell? ⟨n, 8, none⟩ = some (.int .u8 p.tha.a.toNat) ∧ W'.cell? ⟨n, 9, none⟩ = some (.int .u8 p.tha.b.toNat) ∧ W'.cell? ⟨n, 10, none⟩ = some (.int .u8 p.tha.c.toNat) ∧ W'.cell? ⟨n, 11, none⟩ = some (.int .u8 p.tha.d.toNat) ∧ W'.cell? ⟨n, 12, none⟩ = some (.int .u8 p.tha.e.toNat) ∧ W'.cell? ⟨n, 13, none⟩ = some (.int .u8 p.tha.f.toNat) ∧ W'.cell? ⟨n, 14, none⟩ = some (.int .u32 p.tpa) ∧ W'.cell? ⟨n + 1, 0, none⟩ = some (.int .u16 q.op) ∧ W'.cell? ⟨n + 1, 1, none⟩ = some (.int .u8 q.sha.a.toNat) ∧ W'.cell? ⟨n + 1, 2, none⟩ = some (.int .u8 q.sha.b.toNat) ∧ W'.cell? ⟨n + 1, 3, none⟩ = some (.int .u8 q.sha.c.toNat) ∧ W'.cell? ⟨n + 1, 4, none⟩ = some (.int .u8 q.sha.d.toNat) ∧ W'.cell? ⟨n + 1, 5, none⟩ = some (.int .u8 q.sha.e.toNat) ∧ W'.cell? ⟨n + 1, 6, none⟩ = some (.int .u8 q.sha.f.toNat) ∧ W'.cell? ⟨n + 1, 7, none⟩ = some (.int .u32 q.spa) ∧ W'.cell? ⟨n + 1, 8, none⟩ = some (.int .u8 q.tha.a.toNat) ∧ W'.cell? ⟨n + 1, 9, none⟩ = some (.int .u8 q.tha.b.toNat) ∧ W'.cell? ⟨n + 1, 10, none⟩ = some (.int .u8 q.tha.c.toNat) ∧ W'.cell? ⟨n + 1, 11, none⟩ = some (.int .u8 q.tha.d.toNat) ∧ W'.cell? ⟨n + 1, 12, none⟩ = some (.int .u8 q.tha.e.toNat) ∧ W'.cell? ⟨n + 1, 13, none⟩ = some (.int .u8 q.tha.f.toNat) ∧ W'.cell? ⟨n + 1, 14, none⟩ = some (.int .u32 q.tpa)) := by
    intro W' h
    obtain ⟨c0, c1, c2, c3, c4, c5, c6, c7, c8, c9, c10, c11, c12, c13, c14⟩ := (HX1.out.p.below h).cells
    obtain ⟨d0, d1, d2, d3, d4, d5, d6, d7, d8, d9, d10, d11, d12, d13, d14⟩ := (HX1.out.q.below h).cells
    exact ⟨c0, c1, c2, c3, c4, c5, c6, c7, c8, c9, c10, c11, c12, c13, c14, d0, d1, d2, d3, d4, d5, d6, d7, d8, d9, d10, d11, d12, d13, d14⟩
  have X1 := Lib.hid (aBytes_lit p HP.out W.drew)
  have hsame : ∀ b : Bool, (p = q ↔ b = true) → (tp.toList == tq.toList) = b := by
    intro b hb
    rw [htp, htq, show (txt p.bs).toList = p.bs from ByteArray.toList_mk _, show (txt q.bs).toList = q.bs from ByteArray.toList_mk _]
    cases b with
    | true => rw [hb.2 rfl]; simp
    | false =>
      have : p ≠ q := fun e => by simpa using hb.1 e
      simpa using fun e => this (Pkt.bs_inj HP.out HQ.out e)
  have HSA := Lib.hid hsame
  clear hsame htp htq
  by_cases heq : p = q
  · as_aux_lemma =>
    subst heq
    have q1 := mac_same9 p.sha
    have q2 := mac_same9 p.tha
    have q3 := HSA.out true (by simp)
    go_region_held_law (fun W => W.cell? ⟨n, 0, none⟩ = some (.int .u16 p.op) ∧ W.cell? ⟨n, 1, none⟩ = some (.int .u8 p.sha.a.toNat) ∧ W.cell? ⟨n, 2, none⟩ = some (.int .u8 p.sha.b.toNat) ∧ W.cell? ⟨n, 3, none⟩ = some (.int .u8 p.sha.c.toNat) ∧ W.cell? ⟨n, 4, none⟩ = some (.int .u8 p.sha.d.toNat) ∧ W.cell? ⟨n, 5, none⟩ = some (.int .u8 p.sha.e.toNat) ∧ W.cell? ⟨n, 6, none⟩ = some (.int .u8 p.sha.f.toNat) ∧ W.cell? ⟨n, 7, none⟩ = some (.int .u32 p.spa) ∧ W.cell? ⟨n, 8, none⟩ = some (.int .u8 p.tha.a.toNat) ∧ W.cell? ⟨n, 9, none⟩ = some (.int .u8 p.tha.b.toNat) ∧ W.cell? ⟨n, 10, none⟩ = some (.int .u8 p.tha.c.toNat) ∧ W.cell? ⟨n, 11, none⟩ = some (.int .u8 p.tha.d.toNat) ∧ W.cell? ⟨n, 12, none⟩ = some (.int .u8 p.tha.e.toNat) ∧ W.cell? ⟨n, 13, none⟩ = some (.int .u8 p.tha.f.toNat) ∧ W.cell? ⟨n, 14, none⟩ = some (.int .u32 p.tpa) ∧ W.cell? ⟨n + 1, 0, none⟩ = some (.int .u16 p.op) ∧ W.cell? ⟨n + 1, 1, none⟩ = some (.int .u8 p.sha.a.toNat) ∧ W.cell? ⟨n + 1, 2, none⟩ = some (.int .u8 p.sha.b.toNat) ∧ W.cell? ⟨n + 1, 3, none⟩ = some (.int .u8 p.sha.c.toNat) ∧ W.cell? ⟨n + 1, 4, none⟩ = some (.int .u8 p.sha.d.toNat) ∧ W.cell? ⟨n + 1, 5, none⟩ = some (.int .u8 p.sha.e.toNat) ∧ W.cell? ⟨n + 1, 6, none⟩ = some (.int .u8 p.sha.f.toNat) ∧ W.cell? ⟨n + 1, 7, none⟩ = some (.int .u32 p.spa) ∧ W.cell? ⟨n + 1, 8, none⟩ = some (.int .u8 p.tha.a.toNat) ∧ W.cell? ⟨n + 1, 9, none⟩ = some (.int .u8 p.tha.b.toNat) ∧ W.cell? ⟨n + 1, 10, none⟩ = some (.int .u8 p.tha.c.toNat) ∧ W.cell? ⟨n + 1, 11, none⟩ = some (.int .u8 p.tha.d.toNat) ∧ W.cell? ⟨n + 1, 12, none⟩ = some (.int .u8 p.tha.e.toNat) ∧ W.cell? ⟨n + 1, 13, none⟩ = some (.int .u8 p.tha.f.toNat) ∧ W.cell? ⟨n + 1, 14, none⟩ = some (.int .u32 p.tpa))
      (first | assumption | exact KS.out _ (below_drew W) | exact KS.out _ HL2.out | exact KS.out _ HL1.out)
      (first
        | (go_at_call 13; (with_reducible refine X1.out.mono ?_); rintro e w1 ⟨b1, rfl, _, ho1, hl1⟩; (have HL1 := Lib.hid ((below_drew W).trans hl1)); (have v1 := convert_rd (show Rd w1 (.slice (some ⟨b1, 0, none⟩) 28 28) p.bs from Rd.of_obj ho1 (Nat.le_refl _))); rw [← HTP.out] at v1; (have HO1 := Lib.hid ho1); (have X2 := Lib.hid (aBytes_lit p HQ.out w1)); clear ho1 hl1)
        | (go_at_call 13; (with_reducible refine X2.out.mono ?_); rintro e w2 ⟨b2, rfl, _, ho2, hl2⟩; (have HL2 := Lib.hid (below_to HL1.out hl2 HL1.out.size)); (have v2 := convert_rd (show Rd w2 (.slice (some ⟨b2, 0, none⟩) 28 28) p.bs from Rd.of_obj ho2 (Nat.le_refl _))); rw [← HTQ.out] at v2; (have v3 := convert_rd (show Rd w2 (.slice (some ⟨b1, 0, none⟩) 28 28) p.bs from (show Rd w1 (.slice (some ⟨b1, 0, none⟩) 28 28) p.bs from Rd.of_obj HO1.out (Nat.le_refl _)).below hl2)); rw [← HTP.out] at v3; clear ho2 hl2))
    all_goals
      go_wp2_with fail
      go_ret
      exact ⟨rfl, by rw [HN.out]; exact below_on HX1.out.old HN.out HL2.out⟩
  · have q3 := HSA.out false (by simpa using heq)
    have m1 := mac_eq9 p.sha q.sha
    have m2 := mac_eq9 p.tha q.tha
    rcases Pkt.first_unlike heq with h | ⟨h1, h2⟩ | ⟨h1, h2, h3⟩ | ⟨h1, h2, h3, h4⟩ | ⟨h1, h2, h3, h4, h5⟩
    · as_aux_lemma =>
      have h : ¬ (p.op : Int) = (q.op : Int) := by omega
      clear m1 m2 heq
      go_region_held_law (fun W => W.cell? ⟨n, 0, none⟩ = some (.int .u16 p.op) ∧ W.cell? ⟨n, 1, none⟩ = some (.int .u8 p.sha.a.toNat) ∧ W.cell? ⟨n, 2, none⟩ = some (.int .u8 p.sha.b.toNat) ∧ W.cell? ⟨n, 3, none⟩ = some (.int .u8 p.sha.c.toNat) ∧ W.cell? ⟨n, 4, none⟩ = some (.int .u8 p.sha.d.toNat) ∧ W.cell? ⟨n, 5, none⟩ = some (.int .u8 p.sha.e.toNat) ∧ W.cell? ⟨n, 6, none⟩ = some (.int .u8 p.sha.f.toNat) ∧ W.cell? ⟨n, 7, none⟩ = some (.int .u32 p.spa) ∧ W.cell? ⟨n, 8, none⟩ = some (.int .u8 p.tha.a.toNat) ∧ W.cell? ⟨n, 9, none⟩ = some (.int .u8 p.tha.b.toNat) ∧ W.cell? ⟨n, 10, none⟩ = some (.int .u8 p.tha.c.toNat) ∧ W.cell? ⟨n, 11, none⟩ = some (.int .u8 p.tha.d.toNat) ∧ W.cell? ⟨n, 12, none⟩ = some (.int .u8 p.tha.e.toNat) ∧ W.cell? ⟨n, 13, none⟩ = some (.int .u8 p.tha.f.toNat) ∧ W.cell? ⟨n, 14, none⟩ = some (.int .u32 p.tpa) ∧ W.cell? ⟨n + 1, 0, none⟩ = some (.int .u16 q.op) ∧ W.cell? ⟨n + 1, 1, none⟩ = some (.int .u8 q.sha.a.toNat) ∧ W.cell? ⟨n + 1, 2, none⟩ = some (.int .u8 q.sha.b.toNat) ∧ W.cell? ⟨n + 1, 3, none⟩ = some (.int .u8 q.sha.c.toNat) ∧ W.cell? ⟨n + 1, 4, none⟩ = some (.int .u8 q.sha.d.toNat) ∧ W.cell? ⟨n + 1, 5, none⟩ = some (.int .u8 q.sha.e.toNat) ∧ W.cell? ⟨n + 1, 6, none⟩ = some (.int .u8 q.sha.f.toNat) ∧ W.cell? ⟨n + 1, 7, none⟩ = some (.int .u32 q.spa) ∧ W.cell? ⟨n + 1, 8, none⟩ = some (.int .u8 q.tha.a.toNat) ∧ W.cell? ⟨n + 1, 9, none⟩ = some (.int .u8 q.tha.b.toNat) ∧ W.cell? ⟨n + 1, 10, none⟩ = some (.int .u8 q.tha.c.toNat) ∧ W.cell? ⟨n + 1, 11, none⟩ = some (.int .u8 q.tha.d.toNat) ∧ W.cell? ⟨n + 1, 12, none⟩ = some (.int .u8 q.tha.e.toNat) ∧ W.cell? ⟨n + 1, 13, none⟩ = some (.int .u8 q.tha.f.toNat) ∧ W.cell? ⟨n + 1, 14, none⟩ = some (.int .u32 q.tpa))
        (first | assumption | exact KS.out _ (below_drew W) | exact KS.out _ HL2.out | exact KS.out _ HL1.out)
        (first
          | (go_at_call 13; (with_reducible refine X1.out.mono ?_); rintro e w1 ⟨b1, rfl, _, ho1, hl1⟩; (have HL1 := Lib.hid ((below_drew W).trans hl1)); (have v1 := convert_rd (show Rd w1 (.slice (some ⟨b1, 0, none⟩) 28 28) p.bs from Rd.of_obj ho1 (Nat.le_refl _))); rw [← HTP.out] at v1; (have HO1 := Lib.hid ho1); (have X2 := Lib.hid (aBytes_lit q HQ.out w1)); clear ho1 hl1)
          | (go_at_call 13; (with_reducible refine X2.out.mono ?_); rintro e w2 ⟨b2, rfl, _, ho2, hl2⟩; (have HL2 := Lib.hid (below_to HL1.out hl2 HL1.out.size)); (have v2 := convert_rd (show Rd w2 (.slice (some ⟨b2, 0, none⟩) 28 28) q.bs from Rd.of_obj ho2 (Nat.le_refl _))); rw [← HTQ.out] at v2; (have v3 := convert_rd (show Rd w2 (.slice (some ⟨b1, 0, none⟩) 28 28) p.bs from (show Rd w1 (.slice (some ⟨b1, 0, none⟩) 28 28) p.bs from Rd.of_obj HO1.out (Nat.le_refl _)).below hl2)); rw [← HTP.out] at v3; clear ho2 hl2))
      all_goals
        go_wp2_with fail
        go_ret
        exact ⟨rfl, by rw [HN.out]; exact below_on HX1.out.old HN.out HL2.out⟩
    · as_aux_lemma =>
      have h : ((p.op : Int) = (q.op : Int)) = True := eq_true (by omega)
      rw [h2] at m1
      clear m2 heq h1 h2
      go_region_held_law (fun W => W.cell? ⟨n, 0, none⟩ = some (.int .u16 p.op) ∧ W.cell? ⟨n, 1, none⟩ = some (.int .u8 p.sha.a.toNat) ∧ W.cell? ⟨n, 2, none⟩ = some (.int .u8 p.sha.b.toNat) ∧ W.cell? ⟨n, 3, none⟩ = some (.int .u8 p.sha.c.toNat) ∧ W.cell? ⟨n, 4, none⟩ = some (.int .u8 p.sha.d.toNat) ∧ W.cell? ⟨n, 5, none⟩ = some (.int .u8 p.sha.e.toNat) ∧ W.cell? ⟨n, 6, none⟩ = some (.int .u8 p.sha.f.toNat) ∧ W.cell? ⟨n, 7, none⟩ = some (.int .u32 p.spa) ∧ W.cell? ⟨n, 8, none⟩ = some (.int .u8 p.tha.a.toNat) ∧ W.cell? ⟨n, 9, none⟩ = some (.int .u8 p.tha.b.toNat) ∧ W.cell? ⟨n, 10, none⟩ = some (.int .u8 p.tha.c.toNat) ∧ W.cell? ⟨n, 11, none⟩ = some (.int .u8 p.tha.d.toNat) ∧ W.cell? ⟨n, 12, none⟩ = some (.int .u8 p.tha.e.toNat) ∧ W.cell? ⟨n, 13, none⟩ = some (.int .u8 p.tha.f.toNat) ∧ W.cell? ⟨n, 14, none⟩ = some (.int .u32 p.tpa) ∧ W.cell? ⟨n + 1, 0, none⟩ = some (.int .u16 q.op) ∧ W.cell? ⟨n + 1, 1, none⟩ = some (.int .u8 q.sha.a.toNat) ∧ W.cell? ⟨n + 1, 2, none⟩ = some (.int .u8 q.sha.b.toNat) ∧ W.cell? ⟨n + 1, 3, none⟩ = some (.int .u8 q.sha.c.toNat) ∧ W.cell? ⟨n + 1, 4, none⟩ = some (.int .u8 q.sha.d.toNat) ∧ W.cell? ⟨n + 1, 5, none⟩ = some (.int .u8 q.sha.e.toNat) ∧ W.cell? ⟨n + 1, 6, none⟩ = some (.int .u8 q.sha.f.toNat) ∧ W.cell? ⟨n + 1, 7, none⟩ = some (.int .u32 q.spa) ∧ W.cell? ⟨n + 1, 8, none⟩ = some (.int .u8 q.tha.a.toNat) ∧ W.cell? ⟨n + 1, 9, none⟩ = some (.int .u8 q.tha.b.toNat) ∧ W.cell? ⟨n + 1, 10, none⟩ = some (.int .u8 q.tha.c.toNat) ∧ W.cell? ⟨n + 1, 11, none⟩ = some (.int .u8 q.tha.d.toNat) ∧ W.cell? ⟨n + 1, 12, none⟩ = some (.int .u8 q.tha.e.toNat) ∧ W.cell? ⟨n + 1, 13, none⟩ = some (.int .u8 q.tha.f.toNat) ∧ W.cell? ⟨n + 1, 14, none⟩ = some (.int .u32 q.tpa))
        (first | assumption | exact KS.out _ (below_drew W) | exact KS.out _ HL2.out | exact KS.out _ HL1.out)
        (first
          | (go_at_call 13; (with_reducible refine X1.out.mono ?_); rintro e w1 ⟨b1, rfl, _, ho1, hl1⟩; (have HL1 := Lib.hid ((below_drew W).trans hl1)); (have v1 := convert_rd (show Rd w1 (.slice (some ⟨b1, 0, none⟩) 28 28) p.bs from Rd.of_obj ho1 (Nat.le_refl _))); rw [← HTP.out] at v1; (have HO1 := Lib.hid ho1); (have X2 := Lib.hid (aBytes_lit q HQ.out w1)); clear ho1 hl1)
          | (go_at_call 13; (with_reducible refine X2.out.mono ?_); rintro e w2 ⟨b2, rfl, _, ho2, hl2⟩; (have HL2 := Lib.hid (below_to HL1.out hl2 HL1.out.size)); (have v2 := convert_rd (show Rd w2 (.slice (some ⟨b2, 0, none⟩) 28 28) q.bs from Rd.of_obj ho2 (Nat.le_refl _))); rw [← HTQ.out] at v2; (have v3 := convert_rd (show Rd w2 (.slice (some ⟨b1, 0, none⟩) 28 28) p.bs from (show Rd w1 (.slice (some ⟨b1, 0, none⟩) 28 28) p.bs from Rd.of_obj HO1.out (Nat.le_refl _)).below hl2)); rw [← HTP.out] at v3; clear ho2 hl2))
      all_goals
        go_wp2_with fail
        go_ret
        exact ⟨rfl, by rw [HN.out]; exact below_on HX1.out.old HN.out HL2.out⟩
    · as_aux_lemma =>
      have h : ((p.op : Int) = (q.op : Int)) = True := eq_true (by omega)
      have h' : ¬ (p.spa : Int) = (q.spa : Int) := by omega
      rw [h2] at m1
      clear m2 heq h1 h2 h3
      go_region_held_law (fun W => W.cell? ⟨n, 0, none⟩ = some (.int .u16 p.op) ∧ W.cell? ⟨n, 1, none⟩ = some (.int .u8 p.sha.a.toNat) ∧ W.cell? ⟨n, 2, none⟩ = some (.int .u8 p.sha.b.toNat) ∧ W.cell? ⟨n, 3, none⟩ = some (.int .u8 p.sha.c.toNat) ∧ W.cell? ⟨n, 4, none⟩ = some (.int .u8 p.sha.d.toNat) ∧ W.cell? ⟨n, 5, none⟩ = some (.int .u8 p.sha.e.toNat) ∧ W.cell? ⟨n, 6, none⟩ = some (.int .u8 p.sha.f.toNat) ∧ W.cell? ⟨n, 7, none⟩ = some (.int .u32 p.spa) ∧ W.cell? ⟨n, 8, none⟩ = some (.int .u8 p.tha.a.toNat) ∧ W.cell? ⟨n, 9, none⟩ = some (.int .u8 p.tha.b.toNat) ∧ W.cell? ⟨n, 10, none⟩ = some (.int .u8 p.tha.c.toNat) ∧ W.cell? ⟨n, 11, none⟩ = some (.int .u8 p.tha.d.toNat) ∧ W.cell? ⟨n, 12, none⟩ = some (.int .u8 p.tha.e.toNat) ∧ W.cell? ⟨n, 13, none⟩ = some (.int .u8 p.tha.f.toNat) ∧ W.cell? ⟨n, 14, none⟩ = some (.int .u32 p.tpa) ∧ W.cell? ⟨n + 1, 0, none⟩ = some (.int .u16 q.op) ∧ W.cell? ⟨n + 1, 1, none⟩ = some (.int .u8 q.sha.a.toNat) ∧ W.cell? ⟨n + 1, 2, none⟩ = some (.int .u8 q.sha.b.toNat) ∧ W.cell? ⟨n + 1, 3, none⟩ = some (.int .u8 q.sha.c.toNat) ∧ W.cell? ⟨n + 1, 4, none⟩ = some (.int .u8 q.sha.d.toNat) ∧ W.cell? ⟨n + 1, 5, none⟩ = some (.int .u8 q.sha.e.toNat) ∧ W.cell? ⟨n + 1, 6, none⟩ = some (.int .u8 q.sha.f.toNat) ∧ W.cell? ⟨n + 1, 7, none⟩ = some (.int .u32 q.spa) ∧ W.cell? ⟨n + 1, 8, none⟩ = some (.int .u8 q.tha.a.toNat) ∧ W.cell? ⟨n + 1, 9, none⟩ = some (.int .u8 q.tha.b.toNat) ∧ W.cell? ⟨n + 1, 10, none⟩ = some (.int .u8 q.tha.c.toNat) ∧ W.cell? ⟨n + 1, 11, none⟩ = some (.int .u8 q.tha.d.toNat) ∧ W.cell? ⟨n + 1, 12, none⟩ = some (.int .u8 q.tha.e.toNat) ∧ W.cell? ⟨n + 1, 13, none⟩ = some (.int .u8 q.tha.f.toNat) ∧ W.cell? ⟨n + 1, 14, none⟩ = some (.int .u32 q.tpa))
        (first | assumption | exact KS.out _ (below_drew W) | exact KS.out _ HL2.out | exact KS.out _ HL1.out)
        (first
          | (go_at_call 13; (with_reducible refine X1.out.mono ?_); rintro e w1 ⟨b1, rfl, _, ho1, hl1⟩; (have HL1 := Lib.hid ((below_drew W).trans hl1)); (have v1 := convert_rd (show Rd w1 (.slice (some ⟨b1, 0, none⟩) 28 28) p.bs from Rd.of_obj ho1 (Nat.le_refl _))); rw [← HTP.out] at v1; (have HO1 := Lib.hid ho1); (have X2 := Lib.hid (aBytes_lit q HQ.out w1)); clear ho1 hl1)
          | (go_at_call 13; (with_reducible refine X2.out.mono ?_); rintro e w2 ⟨b2, rfl, _, ho2, hl2⟩; (have HL2 := Lib.hid (below_to HL1.out hl2 HL1.out.size)); (have v2 := convert_rd (show Rd w2 (.slice (some ⟨b2, 0, none⟩) 28 28) q.bs from Rd.of_obj ho2 (Nat.le_refl _))); rw [← HTQ.out] at v2; (have v3 := convert_rd (show Rd w2 (.slice (some ⟨b1, 0, none⟩) 28 28) p.bs from (show Rd w1 (.slice (some ⟨b1, 0, none⟩) 28 28) p.bs from Rd.of_obj HO1.out (Nat.le_refl _)).below hl2)); rw [← HTP.out] at v3; clear ho2 hl2))
      all_goals
        go_wp2_with fail
        go_ret
        exact ⟨rfl, by rw [HN.out]; exact below_on HX1.out.old HN.out HL2.out⟩
    · as_aux_lemma =>
      have h : ((p.op : Int) = (q.op : Int)) = True := eq_true (by omega)
      have h' : ((p.spa : Int) = (q.spa : Int)) = True := eq_true (by omega)
      rw [h2] at m1
      rw [h4] at m2
      clear heq h1 h2 h3 h4
      go_region_held_law (fun W => W.cell? ⟨n, 0, none⟩ = some (.int .u16 p.op) ∧ W.cell? ⟨n, 1, none⟩ = some (.int .u8 p.sha.a.toNat) ∧ W.cell? ⟨n, 2, none⟩ = some (.int .u8 p.sha.b.toNat) ∧ W.cell? ⟨n, 3, none⟩ = some (.int .u8 p.sha.c.toNat) ∧ W.cell? ⟨n, 4, none⟩ = some (.int .u8 p.sha.d.toNat) ∧ W.cell? ⟨n, 5, none⟩ = some (.int .u8 p.sha.e.toNat) ∧ W.cell? ⟨n, 6, none⟩ = some (.int .u8 p.sha.f.toNat) ∧ W.cell? ⟨n, 7, none⟩ = some (.int .u32 p.spa) ∧ W.cell? ⟨n, 8, none⟩ = some (.int .u8 p.tha.a.toNat) ∧ W.cell? ⟨n, 9, none⟩ = some (.int .u8 p.tha.b.toNat) ∧ W.cell? ⟨n, 10, none⟩ = some (.int .u8 p.tha.c.toNat) ∧ W.cell? ⟨n, 11, none⟩ = some (.int .u8 p.tha.d.toNat) ∧ W.cell? ⟨n, 12, none⟩ = some (.int .u8 p.tha.e.toNat) ∧ W.cell? ⟨n, 13, none⟩ = some (.int .u8 p.tha.f.toNat) ∧ W.cell? ⟨n, 14, none⟩ = some (.int .u32 p.tpa) ∧ W.cell? ⟨n + 1, 0, none⟩ = some (.int .u16 q.op) ∧ W.cell? ⟨n + 1, 1, none⟩ = some (.int .u8 q.sha.a.toNat) ∧ W.cell? ⟨n + 1, 2, none⟩ = some (.int .u8 q.sha.b.toNat) ∧ W.cell? ⟨n + 1, 3, none⟩ = some (.int .u8 q.sha.c.toNat) ∧ W.cell? ⟨n + 1, 4, none⟩ = some (.int .u8 q.sha.d.toNat) ∧ W.cell? ⟨n + 1, 5, none⟩ = some (.int .u8 q.sha.e.toNat) ∧ W.cell? ⟨n + 1, 6, none⟩ = some (.int .u8 q.sha.f.toNat) ∧ W.cell? ⟨n + 1, 7, none⟩ = some (.int .u32 q.spa) ∧ W.cell? ⟨n + 1, 8, none⟩ = some (.int .u8 q.tha.a.toNat) ∧ W.cell? ⟨n + 1, 9, none⟩ = some (.int .u8 q.tha.b.toNat) ∧ W.cell? ⟨n + 1, 10, none⟩ = some (.int .u8 q.tha.c.toNat) ∧ W.cell? ⟨n + 1, 11, none⟩ = some (.int .u8 q.tha.d.toNat) ∧ W.cell? ⟨n + 1, 12, none⟩ = some (.int .u8 q.tha.e.toNat) ∧ W.cell? ⟨n + 1, 13, none⟩ = some (.int .u8 q.tha.f.toNat) ∧ W.cell? ⟨n + 1, 14, none⟩ = some (.int .u32 q.tpa))
        (first | assumption | exact KS.out _ (below_drew W) | exact KS.out _ HL2.out | exact KS.out _ HL1.out)
        (first
          | (go_at_call 13; (with_reducible refine X1.out.mono ?_); rintro e w1 ⟨b1, rfl, _, ho1, hl1⟩; (have HL1 := Lib.hid ((below_drew W).trans hl1)); (have v1 := convert_rd (show Rd w1 (.slice (some ⟨b1, 0, none⟩) 28 28) p.bs from Rd.of_obj ho1 (Nat.le_refl _))); rw [← HTP.out] at v1; (have HO1 := Lib.hid ho1); (have X2 := Lib.hid (aBytes_lit q HQ.out w1)); clear ho1 hl1)
          | (go_at_call 13; (with_reducible refine X2.out.mono ?_); rintro e w2 ⟨b2, rfl, _, ho2, hl2⟩; (have HL2 := Lib.hid (below_to HL1.out hl2 HL1.out.size)); (have v2 := convert_rd (show Rd w2 (.slice (some ⟨b2, 0, none⟩) 28 28) q.bs from Rd.of_obj ho2 (Nat.le_refl _))); rw [← HTQ.out] at v2; (have v3 := convert_rd (show Rd w2 (.slice (some ⟨b1, 0, none⟩) 28 28) p.bs from (show Rd w1 (.slice (some ⟨b1, 0, none⟩) 28 28) p.bs from Rd.of_obj HO1.out (Nat.le_refl _)).below hl2)); rw [← HTP.out] at v3; clear ho2 hl2))
      all_goals
        go_wp2_with fail
        go_ret
        exact ⟨rfl, by rw [HN.out]; exact below_on HX1.out.old HN.out HL2.out⟩
    · as_aux_lemma =>
      have h : ((p.op : Int) = (q.op : Int)) = True := eq_true (by omega)
      have h' : ((p.spa : Int) = (q.spa : Int)) = True := eq_true (by omega)
      have h'' : ¬ (p.tpa : Int) = (q.tpa : Int) := by omega
      rw [h2] at m1
      rw [h4] at m2
      clear heq h1 h2 h3 h4 h5
      go_region_held_law (fun W => W.cell? ⟨n, 0, none⟩ = some (.int .u16 p.op) ∧ W.cell? ⟨n, 1, none⟩ = some (.int .u8 p.sha.a.toNat) ∧ W.cell? ⟨n, 2, none⟩ = some (.int .u8 p.sha.b.toNat) ∧ W.cell? ⟨n, 3, none⟩ = some (.int .u8 p.sha.c.toNat) ∧ W.cell? ⟨n, 4, none⟩ = some (.int .u8 p.sha.d.toNat) ∧ W.cell? ⟨n, 5, none⟩ = some (.int .u8 p.sha.e.toNat) ∧ W.cell? ⟨n, 6, none⟩ = some (.int .u8 p.sha.f.toNat) ∧ W.cell? ⟨n, 7, none⟩ = some (.int .u32 p.spa) ∧ W.cell? ⟨n, 8, none⟩ = some (.int .u8 p.tha.a.toNat) ∧ W.cell? ⟨n, 9, none⟩ = some (.int .u8 p.tha.b.toNat) ∧ W.cell? ⟨n, 10, none⟩ = some (.int .u8 p.tha.c.toNat) ∧ W.cell? ⟨n, 11, none⟩ = some (.int .u8 p.tha.d.toNat) ∧ W.cell? ⟨n, 12, none⟩ = some (.int .u8 p.tha.e.toNat) ∧ W.cell? ⟨n, 13, none⟩ = some (.int .u8 p.tha.f.toNat) ∧ W.cell? ⟨n, 14, none⟩ = some (.int .u32 p.tpa) ∧ W.cell? ⟨n + 1, 0, none⟩ = some (.int .u16 q.op) ∧ W.cell? ⟨n + 1, 1, none⟩ = some (.int .u8 q.sha.a.toNat) ∧ W.cell? ⟨n + 1, 2, none⟩ = some (.int .u8 q.sha.b.toNat) ∧ W.cell? ⟨n + 1, 3, none⟩ = some (.int .u8 q.sha.c.toNat) ∧ W.cell? ⟨n + 1, 4, none⟩ = some (.int .u8 q.sha.d.toNat) ∧ W.cell? ⟨n + 1, 5, none⟩ = some (.int .u8 q.sha.e.toNat) ∧ W.cell? ⟨n + 1, 6, none⟩ = some (.int .u8 q.sha.f.toNat) ∧ W.cell? ⟨n + 1, 7, none⟩ = some (.int .u32 q.spa) ∧ W.cell? ⟨n + 1, 8, none⟩ = some (.int .u8 q.tha.a.toNat) ∧ W.cell? ⟨n + 1, 9, none⟩ = some (.int .u8 q.tha.b.toNat) ∧ W.cell? ⟨n + 1, 10, none⟩ = some (.int .u8 q.tha.c.toNat) ∧ W.cell? ⟨n + 1, 11, none⟩ = some (.int .u8 q.tha.d.toNat) ∧ W.cell? ⟨n + 1, 12, none⟩ = some (.int .u8 q.tha.e.toNat) ∧ W.cell? ⟨n + 1, 13, none⟩ = some (.int .u8 q.tha.f.toNat) ∧ W.cell? ⟨n + 1, 14, none⟩ = some (.int .u32 q.tpa))
        (first | assumption | exact KS.out _ (below_drew W) | exact KS.out _ HL2.out | exact KS.out _ HL1.out)
        (first
          | (go_at_call 13; (with_reducible refine X1.out.mono ?_); rintro e w1 ⟨b1, rfl, _, ho1, hl1⟩; (have HL1 := Lib.hid ((below_drew W).trans hl1)); (have v1 := convert_rd (show Rd w1 (.slice (some ⟨b1, 0, none⟩) 28 28) p.bs from Rd.of_obj ho1 (Nat.le_refl _))); rw [← HTP.out] at v1; (have HO1 := Lib.hid ho1); (have X2 := Lib.hid (aBytes_lit q HQ.out w1)); clear ho1 hl1)
          | (go_at_call 13; (with_reducible refine X2.out.mono ?_); rintro e w2 ⟨b2, rfl, _, ho2, hl2⟩; (have HL2 := Lib.hid (below_to HL1.out hl2 HL1.out.size)); (have v2 := convert_rd (show Rd w2 (.slice (some ⟨b2, 0, none⟩) 28 28) q.bs from Rd.of_obj ho2 (Nat.le_refl _))); rw [← HTQ.out] at v2; (have v3 := convert_rd (show Rd w2 (.slice (some ⟨b1, 0, none⟩) 28 28) p.bs from (show Rd w1 (.slice (some ⟨b1, 0, none⟩) 28 28) p.bs from Rd.of_obj HO1.out (Nat.le_refl _)).below hl2)); rw [← HTP.out] at v3; clear ho2 hl2))
      all_goals
        go_wp2_with fail
        go_ret
        exact ⟨rfl, by rw [HN.out]; exact below_on HX1.out.old HN.out HL2.out⟩
end Go.Proofs.YtjfghobhneogjaaDoor
