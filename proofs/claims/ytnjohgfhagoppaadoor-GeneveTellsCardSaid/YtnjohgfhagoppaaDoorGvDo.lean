/-
  What is proved: geneve's sizeOf, Critical, Right and slices.ContainsFunc over options by contract.
  Conditions: fewer than a thousand options.
-/
import Derived.Test.YtnjohgfhagoppaaDoorGvMem
namespace Go.Proofs.YtnjohgfhagoppaaDoor
open Go.RowKit

theorem opSize_take_succ (l : List Op) (k : Nat) (x : Op) (h : l[k]? = some x) : opSize (l.take (k + 1)) = opSize (l.take k) + (4 + x.b.length) := by
  rw [List.take_add_one, h, opSize_append]
  simp [opSize]
theorem opSize_take_le (l : List Op) (h : opAll l = true) (k : Nat) : opSize (l.take k) ≤ 128 * l.length := by
  have h1 : opAll (l.take k) = true := by
    unfold opAll at h ⊢
    rw [List.all_eq_true] at h ⊢
    exact fun x hx => h x (List.mem_of_mem_take hx)
  have := opSize_le _ h1
  rw [List.length_take] at this
  omega
theorem opAll_get {l : List Op} (h : opAll l = true) {k : Nat} {x : Op} (hx : l[k]? = some x) : x.b.length ≤ 124 ∧ x.b.length % 4 = 0 := by
  unfold opAll at h
  rw [List.all_eq_true] at h
  have h1 := h x (List.mem_of_getElem? hx)
  unfold Op.good at h1
  simp only [Bool.and_eq_true, decide_eq_true_eq, beq_iff_eq] at h1
  exact ⟨h1.2, h1.1⟩
set_option maxHeartbeats 2000000 in
theorem gsize_any (A : Option Addr) (l : List Op) (c : Nat) (w : World) (h : OpsAt w A l) (hg : opAll l = true) (hn : l.length ≤ 1000) :
    Calls Tryd.prog 40 #[.slice A l.length c] w fun e w' => e = .returned (.int .i64 (opSize l : Nat)) ∧ Below w.heap.size w w' := by
  have H := Lib.hid h
  have HG := Lib.hid hg
  have HN := Lib.hid hn
  clear h hg hn
  go_enter Tryd.func40, Tryd.ntmps40
  go_wp2_with fail
  go_loopw [3, 5, 8] (fun s3 _ s8 wr => ∃ k : Nat, s8 = .int .i64 (k : Int) ∧ k ≤ l.length ∧ s3 = .int .i64 (opSize (l.take k) : Nat) ∧ Below w.heap.size w wr) (fun _ _ s8 _ => l.length - (intOf s8).toNat)
  case atStart => exact ⟨0, rfl, Nat.zero_le _, rfl, Below.refl _ _⟩
  case round =>
    obtain ⟨k, rfl, hk, rfl, hB⟩ := hrel
    have HB := Lib.hid hB
    clear hB
    by_cases hlt : k < l.length
    · have q1 : decide ((k : Int) < (l.length : Int)) = true := decide_eq_true (by omega)
      obtain ⟨x, hx⟩ : ∃ x, l[k]? = some x := ⟨l[k], List.getElem?_eq_getElem hlt⟩
      obtain ⟨g, o, B, bc, rfl, ha, _, _⟩ := (H.out.below HB.out) k x hx
      obtain ⟨c0, c1, c2⟩ := ha
      have hs := opSize_take_succ l k x hx
      have h1 := opSize_take_le l HG.out k
      have h2 := (opAll_get HG.out hx).1
      have HS := Lib.hid hs
      have HB2 : Hid (∀ ob, Below w.heap.size w (wr.alloc ob)) := fun ob => HB.out.alloc HB.out.size ob
      clear hs hx
      generalize opSize (l.take k) = S at *
      have hn := HN.out
      go_wp2_with fail
      exact ⟨⟨k + 1, by simp, by omega, by rw [HS.out]; congr 1, HB2.out _⟩, by simp [intOf]; omega⟩
    · have q1 : decide ((k : Int) < (l.length : Int)) = false := decide_eq_false (by omega)
      have hkl : k = l.length := by omega
      have hfull : l.take k = l := by rw [hkl, List.take_length]
      rw [hfull]
      clear hfull hkl hk
      go_wp2_with fail
      go_ret
      exact ⟨rfl, HB.out⟩

def gvWord : ByteArray := ⟨#[103, 101, 110, 101, 118, 101]⟩
theorem u8_and128 (t : Nat) (ht : t < 256) : bits .and .u8 (t : Int) 128 = if 128 ≤ t then 128 else 0 := by
  have h := u8_and_nat t 128 ht (by omega)
  have h2 := xand_pow t 7
  rw [show (128 : Int) = ((128 : Nat) : Int) from rfl, h, show (128 : Nat) = 2 ^ 7 by decide, h2]
  by_cases hc : 128 ≤ t
  · rw [if_pos (by omega), if_pos (by omega)]
  · rw [if_neg (by omega), if_neg (by omega)]; rfl
theorem gcrit_any (x : Op) (hx : x.Fit) (v : Value) (w : World) :
    Calls Tryd.prog 20 #[.agg #[.int .u16 x.c, .int .u8 x.t, v]] w fun e w' => e = .returned (.bool (decide (128 ≤ x.t))) ∧ Below w.heap.size w w' := by
  have hb := u8_and128 x.t hx.2
  have HB2 : Hid (∀ ob, Below w.heap.size w (w.alloc ob)) := fun ob => (Below.refl _ _).alloc (Nat.le_refl _) ob
  by_cases hc : 128 ≤ x.t
  · rw [if_pos hc] at hb
    rw [decide_eq_true hc]
    go_enter Tryd.func20, Tryd.ntmps20
    go_wp2_with fail
    go_ret
    exact ⟨rfl, HB2.out _⟩
  · rw [if_neg hc] at hb
    rw [decide_eq_false hc]
    go_enter Tryd.func20, Tryd.ntmps20
    go_wp2_with fail
    go_ret
    exact ⟨rfl, HB2.out _⟩
theorem gwrap (n : Int) (l : List ByteArray) (T : TypeId) (u : Value) (w : World) (h : Chain w n l (.iface T u)) :
    Calls Tryd.prog 28 #[.string ⟨#[103, 101, 110, 101, 118, 101]⟩, .iface T u] w fun e w' => ∃ b, e = .returned (.iface 92 (.pointer (some ⟨b, 0, none⟩))) ∧ Chain w' n (gvWord :: l) (.iface 92 (.pointer (some ⟨b, 0, none⟩))) ∧ Below w.heap.size w w' := by
  refine (wrap_any _ _ _ _).mono ?_
  rintro e w4 ⟨rfl, hw⟩
  have hc := chain_wrapped ⟨#[103, 101, 110, 101, 118, 101]⟩ h
  rw [hw] at hc
  exact ⟨_, rfl, hc, by subst hw; exact (Below.refl _ _).alloc (Nat.le_refl _) _⟩
/-- What Right tells. -/
def RPost (n : Nat) (w : World) (e : Ending) (w' : World) : Prop :=
  (n = 0 ∧ e = .returned .nilIface ∧ Below w.heap.size w w') ∨ (n ≠ 0 ∧ ∃ b, e = .returned (.iface 92 (.pointer (some ⟨b, 0, none⟩))) ∧ Chain w' n [gvWord] (.iface 92 (.pointer (some ⟨b, 0, none⟩))) ∧ Below w.heap.size w w')
theorem opAll_take_succ {l : List Op} {k : Nat} {x : Op} (h : l[k]? = some x) (ha : opAll (l.take k) = true) (hg : x.b.length % 4 = 0) (h2 : x.b.length ≤ 124) : opAll (l.take (k + 1)) = true := by
  unfold opAll at ha ⊢
  rw [List.take_add_one, h, List.all_append, ha]
  simp [Op.good, hg, h2]
theorem opAll_bad {l : List Op} {k : Nat} {x : Op} (h : l[k]? = some x) (hg : ¬ (x.b.length % 4 = 0 ∧ x.b.length ≤ 124)) : opAll l = false := by
  rw [Bool.eq_false_iff]
  intro ha
  have := opAll_get ha h
  exact hg ⟨this.2, this.1⟩
set_option maxHeartbeats 2000000 in
theorem gright_any (A : Option Addr) (l : List Op) (c : Nat) (w : World) (h : OpsAt w A l) (hn : l.length ≤ 1000) :
    Calls Tryd.prog 24 #[.slice A l.length c] w (RPost (opRight l) w) := by
  have H := Lib.hid h
  have HN := Lib.hid hn
  clear h hn
  go_enter Tryd.func24, Tryd.ntmps24
  go_wp2_with fail
  go_loopw [4, 7] (fun _ s8 wr => ∃ k : Nat, s8 = .int .i64 (k : Int) ∧ k ≤ l.length ∧ opAll (l.take k) = true ∧ Below w.heap.size w wr) (fun _ s8 _ => l.length - (intOf s8).toNat)
  case atStart => exact ⟨0, rfl, Nat.zero_le _, rfl, Below.refl _ _⟩
  case round =>
    obtain ⟨k, rfl, hk, hal, hB⟩ := hrel
    have HB := Lib.hid hB
    have HA := Lib.hid hal
    clear hB hal
    by_cases hlt : k < l.length
    · have q1 : decide ((k : Int) < (l.length : Int)) = true := decide_eq_true (by omega)
      obtain ⟨x, hx⟩ : ∃ x, l[k]? = some x := ⟨l[k], List.getElem?_eq_getElem hlt⟩
      obtain ⟨g, o, B, bc, rfl, ha, _, _⟩ := (H.out.below HB.out) k x hx
      obtain ⟨c0, c1, c2⟩ := ha
      have hn := HN.out
      have HB2 : Hid (∀ ob, Below w.heap.size w (wr.alloc ob)) := fun ob => HB.out.alloc HB.out.size ob
      by_cases hok : x.b.length % 4 = 0 ∧ x.b.length ≤ 124
      · have HS := Lib.hid (opAll_take_succ hx HA.out hok.1 hok.2)
        have r1 : (Int.tmod (x.b.length : Int) 4) = 0 := by rw [Int.tmod_eq_emod_of_nonneg (by omega)]; omega
        have r2 : ¬ (124 : Int) < (x.b.length : Int) := by omega
        clear hx hok
        go_wp2_with fail
        exact ⟨⟨k + 1, by simp, by omega, HS.out, HB2.out _⟩, by simp [intOf]; omega⟩
      · have hbad := opAll_bad hx hok
        have hR : opRight l = 1 := by unfold opRight; rw [hbad]; rfl
        rw [hR]
        unfold RPost gvWord
        by_cases h4 : x.b.length % 4 = 0
        · have r1 : (Int.tmod (x.b.length : Int) 4) = 0 := by rw [Int.tmod_eq_emod_of_nonneg (by omega)]; omega
          have r2 : (124 : Int) < (x.b.length : Int) := by omega
          clear hx hok hbad hR
          go_wp2_with fail
          refine (gwrap 1 [] _ _ _ rfl).mono ?_
          rintro e w4 ⟨b, rfl, hc, hb⟩
          have HC3 := Lib.hid hc
          have HB3 := Lib.hid (below_to (HB2.out _) hb (HB2.out _).size)
          clear hc hb
          go_wp2_with fail
          go_ret
          exact .inr ⟨by decide, _, rfl, HC3.out, HB3.out⟩
        · have r1 : ¬ (Int.tmod (x.b.length : Int) 4) = 0 := by rw [Int.tmod_eq_emod_of_nonneg (by omega)]; omega
          clear hx hok hbad hR
          go_wp2_with fail
          refine (gwrap 1 [] _ _ _ rfl).mono ?_
          rintro e w4 ⟨b, rfl, hc, hb⟩
          have HC3 := Lib.hid hc
          have HB3 := Lib.hid (below_to (HB2.out _) hb (HB2.out _).size)
          clear hc hb
          go_wp2_with fail
          go_ret
          exact .inr ⟨by decide, _, rfl, HC3.out, HB3.out⟩
    · have q1 : decide ((k : Int) < (l.length : Int)) = false := decide_eq_false (by omega)
      have hkl : k = l.length := by omega
      have hfull : l.take k = l := by rw [hkl, List.take_length]
      have hall := HA.out
      rw [hfull] at hall
      have HX := Lib.hid (gsize_any A l c wr (H.out.below HB.out) hall HN.out)
      clear HA hfull hkl hk
      go_wp2_with fail
      refine HX.out.mono ?_
      rintro e w2 ⟨rfl, hb2⟩
      have HB2 := Lib.hid (below_to HB.out hb2 HB.out.size)
      clear hb2 HX HB
      by_cases hs : opSize l ≤ 252
      · have hR : opRight l = 0 := by unfold opRight; rw [hall, if_pos rfl, if_pos hs]
        have r1 : ¬ (252 : Int) < (opSize l : Nat) := by omega
        have HR := Lib.hid hR
        clear hR hall
        go_wp2_with fail
        go_ret
        exact .inl ⟨HR.out, rfl, HB2.out⟩
      · have hR : opRight l = 7 := by unfold opRight; rw [hall, if_pos rfl, if_neg hs]
        have r1 : (252 : Int) < (opSize l : Nat) := by omega
        have HR := Lib.hid hR
        clear hR hall
        unfold RPost gvWord
        go_wp2_with fail
        refine (gwrap 7 [] _ _ _ rfl).mono ?_
        rintro e w4 ⟨b, rfl, hc, hb⟩
        have HC3 := Lib.hid hc
        have HB3 := Lib.hid (below_to HB2.out hb HB2.out.size)
        clear hc hb
        go_wp2_with fail
        go_ret
        exact .inr ⟨by rw [HR.out]; decide, _, rfl, by rw [HR.out]; exact HC3.out, HB3.out⟩

theorem opCrit_take_succ {l : List Op} {k : Nat} {x : Op} (h : l[k]? = some x) (ha : opCrit (l.take k) = false) (hx : ¬ 128 ≤ x.t) : opCrit (l.take (k + 1)) = false := by
  unfold opCrit at ha ⊢
  rw [List.take_add_one, h, List.any_append, ha]
  simp
  omega
theorem opCrit_get {l : List Op} {k : Nat} {x : Op} (h : l[k]? = some x) (hx : 128 ≤ x.t) : opCrit l = true := by
  unfold opCrit
  rw [List.any_eq_true]
  exact ⟨x, List.mem_of_getElem? h, by simpa using hx⟩
set_option maxHeartbeats 2000000 in
theorem gindex_any (A : Option Addr) (l : List Op) (c : Nat) (w : World) (h : OpsAt w A l) (hf : ∀ x ∈ l, x.Fit) (hn : l.length ≤ 1000000) :
    Calls Tryd.prog 55 #[.slice A l.length c, .func (.func 20) #[] #[]] w fun e w' => ∃ z : Int, e = .returned (.int .i64 z) ∧ decide (0 ≤ z) = opCrit l ∧ Below w.heap.size w w' := by
  have H := Lib.hid h
  have HF := Lib.hid hf
  have HN := Lib.hid hn
  clear h hf hn
  go_enter Tryd.func55, Tryd.ntmps55
  go_wp2_with fail
  go_loopw [5, 8] (fun _ s8 wr => ∃ k : Nat, s8 = .int .i64 (k : Int) ∧ k ≤ l.length ∧ opCrit (l.take k) = false ∧ Below w.heap.size w wr) (fun _ s8 _ => l.length - (intOf s8).toNat)
  case atStart => exact ⟨0, rfl, Nat.zero_le _, rfl, Below.refl _ _⟩
  case round =>
    obtain ⟨k, rfl, hk, hal, hB⟩ := hrel
    have HB := Lib.hid hB
    have HA := Lib.hid hal
    clear hB hal
    by_cases hlt : k < l.length
    · have q1 : decide ((k : Int) < (l.length : Int)) = true := decide_eq_true (by omega)
      obtain ⟨x, hx⟩ : ∃ x, l[k]? = some x := ⟨l[k], List.getElem?_eq_getElem hlt⟩
      obtain ⟨g, o, B, bc, rfl, ha, _, _⟩ := (H.out.below HB.out) k x hx
      obtain ⟨c0, c1, c2⟩ := ha
      have hn := HN.out
      have HX := Lib.hid (gcrit_any x (HF.out x (List.mem_of_getElem? hx)) (.slice B x.b.length bc) wr)
      by_cases hc : 128 ≤ x.t
      · have HR := Lib.hid (opCrit_get hx hc)
        rw [decide_eq_true hc] at HX
        clear hx hc
        go_wp2_with fail
        refine HX.out.mono ?_
        rintro e w2 ⟨rfl, hb⟩
        have HB2 := Lib.hid (below_to HB.out hb HB.out.size)
        clear hb HX
        go_wp2_with fail
        go_ret
        exact ⟨_, rfl, by rw [HR.out]; exact decide_eq_true (by omega), HB2.out⟩
      · have HR := Lib.hid (opCrit_take_succ hx HA.out hc)
        rw [decide_eq_false hc] at HX
        clear hx hc
        go_wp2_with fail
        refine HX.out.mono ?_
        rintro e w2 ⟨rfl, hb⟩
        have HB2 := Lib.hid (below_to HB.out hb HB.out.size)
        clear hb HX
        go_wp2_with fail
        exact ⟨⟨k + 1, by simp, by omega, HR.out, HB2.out⟩, by simp [intOf]; omega⟩
    · have q1 : decide ((k : Int) < (l.length : Int)) = false := decide_eq_false (by omega)
      have hkl : k = l.length := by omega
      have hall := HA.out
      rw [hkl, List.take_length] at hall
      have HR := Lib.hid hall
      clear HA hall hkl hk
      go_wp2_with fail
      go_ret
      exact ⟨_, rfl, by rw [HR.out]; rfl, HB.out⟩
theorem gcontains_any (A : Option Addr) (l : List Op) (c : Nat) (w : World) (h : OpsAt w A l) (hf : ∀ x ∈ l, x.Fit) (hn : l.length ≤ 1000000) :
    Calls Tryd.prog 41 #[.slice A l.length c, .func (.func 20) #[] #[]] w fun e w' => e = .returned (.bool (opCrit l)) ∧ Below w.heap.size w w' := by
  have HX := Lib.hid (gindex_any A l c w h hf hn)
  clear h hf hn
  go_enter Tryd.func41, Tryd.ntmps41
  go_wp2_with fail
  refine HX.out.mono ?_
  rintro e w2 ⟨z, rfl, hz, hb⟩
  have HB2 := Lib.hid hb
  have HZ := Lib.hid hz
  clear hb hz
  go_wp2_with fail
  go_ret
  exact ⟨by rw [← HZ.out]; rfl, HB2.out⟩
end Go.Proofs.YtnjohgfhagoppaaDoor
