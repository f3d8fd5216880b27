/-
  What is proved: the document's Encap of layer 12 by contract.
  Conditions: fewer than a thousand options.
-/
import Derived.Test.YtnjohgfhagoppaaDoorGvRef
import Derived.Test.YtnjohgfhagoppaaDoorGvFacts
import Derived.Deep.RegionLaw
namespace Go.Proofs.YtnjohgfhagoppaaDoor
open Go.RowKit

theorem op_hi (n : Nat) (_ : n < 65536) : IntKind.u8.wrap (IntKind.u16.wrap ((n : Int) / 256)) = ((UInt8.ofNat (n / 256)).toNat : Int) := by
  have a1 : IntKind.u8.bits = 8 := rfl
  have a2 : IntKind.u8.signed = false := rfl
  have a3 : IntKind.u16.bits = 16 := rfl
  have a4 : IntKind.u16.signed = false := rfl
  rw [ofNat_lt]
  simp [IntKind.wrap, a1, a2, a3, a4]
theorem op_lo (n : Nat) : IntKind.u8.wrap (Int.tmod (n : Int) 256) = ((UInt8.ofNat n).toNat : Int) := by
  have a1 : IntKind.u8.bits = 8 := rfl
  have a2 : IntKind.u8.signed = false := rfl
  rw [ofNat_lt, Int.tmod_eq_emod_of_nonneg (by omega)]
  simp [IntKind.wrap, a1, a2]
def RE (id : Nat) (l : List Op) (f : List UInt8) (w : World) (e : Ending) (w' : World) : Prop :=
  e = .returned (.tuple #[.string (if geCode id l f.length = 0 then txt (gPut id l f) else ⟨#[]⟩), .int .i64 (geCode id l f.length : Nat)]) ∧ Below w.heap.size w w'
set_option maxHeartbeats 4000000 in
theorem rgencap_ok (id : Nat) (hid : id < 16777216) (A : Option Addr) (l : List Op) (c : Nat) (f : List UInt8) (w : World) (ho : OpsAt w A l) (hfit : ∀ x ∈ l, x.Fit) (hn : l.length ≤ 1000) (hR : opRight l = 0) (hw : frameWrong f.length = 0) :
    Calls Tryd.prog 17 #[.int .u32 (id : Int), .slice A l.length c, .string (txt f)] w fun e w' => e = .returned (.tuple #[.string (txt (gPut id l f)), .int .i64 0]) ∧ Below w.heap.size w w' := by
  have hB : decide ((16777216 : Int) ≤ (id : Int)) = false := decide_eq_false (by omega)
  obtain ⟨hall, hsz⟩ := opRight_zero hR
  have HRt := Lib.hid (rright_any A l c w ho hn)
  rw [hR] at HRt
  have HZ : Hid (∀ W, _) := fun W => rsize_any f.length W
  rw [hw] at HZ
  have HO := Lib.hid ho
  have HFT := Lib.hid hfit
  have HA := Lib.hid hall
  have HSZ := Lib.hid hsz
  have HFW := Lib.hid hw
  have HN := Lib.hid hn
  have hfs := txt_size f
  obtain ⟨z, hz⟩ : ∃ z : Int, (id : Int) = z := ⟨_, rfl⟩
  rw [hz] at hB ⊢
  have HZI := Lib.hid hz
  clear hz
  generalize hTF : txt f = TF at *
  have HTF := Lib.hid hTF
  clear ho hn hR hw hall hsz hfit hTF
  go_enter Tryd.func17, Tryd.ntmps17
  go_wp2_with fail
  refine HRt.out.mono ?_
  rintro e w' ⟨rfl, rfl⟩
  go_wp2_with fail
  refine (HZ.out _).mono ?_
  rintro e w' ⟨rfl, rfl⟩
  clear HRt HZ
  go_wp2_with fail
  go_loopw [9, 10] (fun s9 s10 wr => ∃ k : Nat, s10 = .int .i64 (k : Int) ∧ k ≤ l.length ∧ s9 = .string (txt (opBytes (l.take k))) ∧ Below w.heap.size w wr) (fun _ s10 _ => l.length - (intOf s10).toNat)
  case atStart => exact ⟨0, rfl, Nat.zero_le _, rfl, Below.refl _ _⟩
  case round =>
    obtain ⟨k, rfl, hk, rfl, hB⟩ := hrel
    have HB := Lib.hid hB
    clear hB
    by_cases hlt : k < l.length
    · have q1 : decide ((k : Int) < (l.length : Int)) = true := decide_eq_true (by omega)
      obtain ⟨x, hx⟩ : ∃ x, l[k]? = some x := ⟨l[k], List.getElem?_eq_getElem hlt⟩
      obtain ⟨g, o, B, bc, rfl, ha, _, hrx⟩ := HO.out k x hx
      have ha2 := ha.below HB.out
      have hfx := HFT.out x (List.mem_of_getElem? hx)
      have hgx := opAll_get HA.out hx
      have HFX : Hid ((x.c < 65536 ∧ x.t < 256) ∧ x.b.length ≤ 124 ∧ x.b.length % 4 = 0) := ⟨hfx, hgx⟩
      have HS := Lib.hid (opBytes_take_succ l k x hx)
      have HL := Lib.hid (opBytes_take_le l HA.out k)
      have hn := HN.out
      have k0 : wr.cell? ⟨g, o + k * 3, none⟩ = some (.int .u16 x.c) ∧ wr.cell? ⟨g, o + k * 3 + 1, none⟩ = some (.int .u8 x.t) ∧ wr.cell? ⟨g, o + k * 3 + 2, none⟩ = some (.slice B x.b.length bc) := ⟨ha2.c0, ha2.c1, ha2.c2⟩
      have KS : Hid (∀ W', Below wr.heap.size wr W' → W'.cell? ⟨g, o + k * 3, none⟩ = some (.int .u16 x.c) ∧ W'.cell? ⟨g, o + k * 3 + 1, none⟩ = some (.int .u8 x.t) ∧ W'.cell? ⟨g, o + k * 3 + 2, none⟩ = some (.slice B x.b.length bc)) := fun W' hW => by
        have h := ha2.below hW
        exact ⟨h.c0, h.c1, h.c2⟩
      obtain ⟨E0, he0⟩ : ∃ E0 : Int, IntKind.u8.wrap (IntKind.u16.wrap ((x.c : Int) / 256)) = E0 := ⟨_, rfl⟩
      obtain ⟨E1, he1⟩ : ∃ E1 : Int, IntKind.u8.wrap (Int.tmod (x.c : Int) 256) = E1 := ⟨_, rfl⟩
      obtain ⟨E3, he3⟩ : ∃ E3 : Int, IntKind.u8.wrap (IntKind.i64.wrap ((x.b.length : Int) / 4)) = E3 := ⟨_, rfl⟩
      have hobj : Obj.cells #[.int .u8 E0, .int .u8 E1, .int .u8 (x.t : Int), .int .u8 E3] 5 = bytesObj [UInt8.ofNat (x.c / 256), UInt8.ofNat x.c, UInt8.ofNat x.t, UInt8.ofNat (x.b.length / 4)] := by
        have z0 : E0 = ((UInt8.ofNat (x.c / 256)).toNat : Int) := by rw [← he0]; exact op_hi x.c hfx.1
        have z1 : E1 = ((UInt8.ofNat x.c).toNat : Int) := by rw [← he1]; exact op_lo x.c
        have z2 : (x.t : Int) = ((UInt8.ofNat x.t).toNat : Int) := by rw [ofNat_lt]; have := hfx.2; omega
        have z3 : E3 = ((UInt8.ofNat (x.b.length / 4)).toNat : Int) := by rw [← he3, by_four _ hgx.1, ofNat_lt]; omega
        rw [z0, z1, z2, z3]
        rfl
      have hH4 : (txt [UInt8.ofNat (x.c / 256), UInt8.ofNat x.c, UInt8.ofNat x.t, UInt8.ofNat (x.b.length / 4)]).size = 4 := rfl
      have hXB := txt_size x.b
      have hTz := txt_size (opBytes (l.take k))
      have hTz2 := opBytes_take_le l HA.out k
      have hST : txt (opBytes (l.take k)) ++ txt [UInt8.ofNat (x.c / 256), UInt8.ofNat x.c, UInt8.ofNat x.t, UInt8.ofNat (x.b.length / 4)] ++ txt x.b = txt (opBytes (l.take (k + 1))) := by
        rw [txt_append, txt_append, HS.out]
        congr 1
        unfold Op.bytes be2
        simp
      have HST := Lib.hid hST
      clear hST
      have hA4 : Below wr.heap.size wr (wr.alloc (.cells #[.int .u8 E0, .int .u8 E1, .int .u8 (x.t : Int), .int .u8 E3] 5)).drew := ((Below.refl _ _).alloc (Nat.le_refl _) _).trans (below_drew _ |> fun h => h.mono (by simp))
      have hRd4 : Rd (wr.alloc (.cells #[.int .u8 E0, .int .u8 E1, .int .u8 (x.t : Int), .int .u8 E3] 5)).drew (.slice (some ⟨wr.heap.size, 0, none⟩) 4 4) [UInt8.ofNat (x.c / 256), UInt8.ofNat x.c, UInt8.ofNat x.t, UInt8.ofNat (x.b.length / 4)] := by
        rw [hobj]
        exact (Rd.of_obj (c := 4) (bytesObj_new wr _) (Nat.le_refl _)).below (below_drew _)
      have cv1 := convert_rd hRd4
      have cv2 := convert_rd ((hrx.below HB.out).below hA4)
      have cv3 := convert_rd ((hrx.below HB.out).below (below_drew wr))
      have HA4 := Lib.hid hA4
      generalize txt [UInt8.ofNat (x.c / 256), UInt8.ofNat x.c, UInt8.ofNat x.t, UInt8.ofNat (x.b.length / 4)] = H4 at *
      generalize txt x.b = XB at *
      have hxb := HFX.out.2.1
      have z1 : ¬ 9223372036854775807 < (opBytes (l.take k)).length + 4 := by omega
      have z2 : ¬ 9223372036854775807 < (opBytes (l.take k)).length + 4 + x.b.length := by omega
      generalize hT : txt (opBytes (l.take k)) = T at *
      have HT := Lib.hid hT
      clear hx hfx hgx hT ha ha2 hobj hRd4 hA4 hrx hTz2
      go_upto_region 12 with fail
      go_region_held_law (fun W' => W'.cell? ⟨g, o + k * 3, none⟩ = some (.int .u16 x.c) ∧ W'.cell? ⟨g, o + k * 3 + 1, none⟩ = some (.int .u8 x.t) ∧ W'.cell? ⟨g, o + k * 3 + 2, none⟩ = some (.slice B x.b.length bc))
        (first | assumption | exact KS.out _ (below_drew wr) | exact KS.out _ HA4.out)
        (first | fail)
      all_goals
        go_wp2_with fail
        exact ⟨⟨k + 1, by simp, by omega, by rw [← HST.out], below_to HB.out HA4.out HB.out.size⟩, by simp [intOf]; omega⟩
    · have q1 : decide ((k : Int) < (l.length : Int)) = false := decide_eq_false (by omega)
      have hkl : k = l.length := by omega
      have hfull : l.take k = l := by rw [hkl, List.take_length]
      rw [hfull]
      have HSm : Hid (∀ W, Below w.heap.size w W → _) := fun W hW => rsome_any A l c W (HO.out.below hW) (by have := HN.out; omega)
      clear hfull hkl hk
      go_wp2_with fail
      refine (HSm.out wr HB.out).mono ?_
      rintro e w' ⟨rfl, rfl⟩
      have hs4 := opSize_four l HA.out
      have hT := txt_size (opBytes l)
      rw [opBytes_len] at hT
      have hszz := HSZ.out
      have hgp : txt [UInt8.ofNat (opSize l / 4), critB (opCrit l), 101, 88] ++ txt (three id) ++ ⟨#[0]⟩ ++ txt (opBytes l) ++ txt f = txt (gPut id l f) := by
        rw [gPut_eq id l f HA.out, show (⟨#[0]⟩ : ByteArray) = txt [0] from rfl, txt_append, txt_append, txt_append, txt_append]
        congr 1
      rw [HTF.out] at hgp
      have HGP := Lib.hid hgp
      have H3 : Hid (∀ W, _) := fun W => rthree_any id hid W
      rw [HZI.out] at H3
      have h3s : (txt (three id)).size = 3 := rfl
      obtain ⟨F0, hF0⟩ : ∃ F0 : Int, IntKind.u8.wrap (IntKind.i64.wrap ((opSize l : Int) / 4)) = F0 := ⟨_, rfl⟩
      have z0 : F0 = ((UInt8.ofNat (opSize l / 4)).toNat : Int) := by
        have a1 : IntKind.u8.bits = 8 := rfl
        have a2 : IntKind.u8.signed = false := rfl
        have e : IntKind.i64.wrap ((opSize l : Int) / 4) = (opSize l : Int) / 4 := by rw [IntKind.wrap_i64]; omega
        rw [← hF0, e, ofNat_lt]
        simp [IntKind.wrap, a1, a2]
      have hf9 : f.length ≤ 9000 := (frame_fits HFW.out).2
      by_cases hc : opCrit l = true
      all_goals
        have hobj : Obj.cells #[.int .u8 F0, .int .u8 (if opCrit l then 64 else 0), .int .u8 101, .int .u8 88] 5 = bytesObj [UInt8.ofNat (opSize l / 4), critB (opCrit l), 101, 88] := by
          rw [z0]
          unfold critB
          first | rw [if_pos hc, if_pos hc] | rw [if_neg hc, if_neg hc]
          rfl
        have h4s : (txt [UInt8.ofNat (opSize l / 4), critB (opCrit l), 101, 88]).size = 4 := rfl
        have hA4 : Below wr.heap.size wr (wr.alloc (.cells #[.int .u8 F0, .int .u8 (if opCrit l then 64 else 0), .int .u8 101, .int .u8 88] 5)).drew := ((Below.refl _ _).alloc (Nat.le_refl _) _).trans (below_drew _ |> fun h => h.mono (by simp))
        have hRd : ∀ W : World, Rd (W.alloc (.cells #[.int .u8 F0, .int .u8 (if opCrit l then 64 else 0), .int .u8 101, .int .u8 88] 5)) (.slice (some ⟨W.heap.size, 0, none⟩) 4 4) [UInt8.ofNat (opSize l / 4), critB (opCrit l), 101, 88] := fun W => by
          rw [hobj]
          exact Rd.of_obj (c := 4) (bytesObj_new W _) (Nat.le_refl _)
        have hRd4 := (hRd wr).below (below_drew _)
        have cv1 := convert_rd hRd4
        have HCA : Hid (∀ W : World, _) := fun W => convert_rd (hRd W)
        have HCB : Hid (∀ W : World, Below (wr.alloc (.cells #[.int .u8 F0, .int .u8 (if opCrit l then 64 else 0), .int .u8 101, .int .u8 88] 5)).drew.heap.size (wr.alloc (.cells #[.int .u8 F0, .int .u8 (if opCrit l then 64 else 0), .int .u8 101, .int .u8 88] 5)).drew W → _) := fun W hW => convert_rd (hRd4.below hW)
        have HA4 := Lib.hid hA4
        first | rw [if_pos hc] at HCA HCB HA4 cv1 | rw [if_neg hc] at HCA HCB HA4 cv1
        generalize txt [UInt8.ofNat (opSize l / 4), critB (opCrit l), 101, 88] = T4 at *
        generalize txt (three id) = T3 at *
        generalize txt (opBytes l) = T at *
        have z1 : ¬ 9223372036854775807 < 4 + 3 + 1 + opSize l := by omega
        have z2 : ¬ 9223372036854775807 < 4 + 3 + 1 + opSize l + f.length := by omega
        clear hobj hA4 hRd hRd4 hgp z0 hs4 HSm
        go_upto_region 16 with fail
        go_region_law (first
          | (go_simp; go_at_call 34; (with_reducible refine (H3.out wr.drew).mono ?_); rintro e w3 ⟨rfl, hb⟩; (have HX := Lib.hid (below_to (below_drew wr) hb (below_drew wr).size)); (have cvX := HCA.out w3); clear hb)
          | (go_simp; go_at_call 34; refine (H3.out _).mono ?_; rintro e w3 ⟨rfl, hb⟩; (have HX := Lib.hid (below_to HA4.out hb HA4.out.size)); (have cvX := HCB.out w3 hb); clear hb))
        all_goals
          go_wp2_with fail
          go_ret2
          refine ⟨?_, ?_⟩
          · rw [← HGP.out]
            simp [Act.put]
          · first
              | exact below_to HB.out HX.out HB.out.size
              | exact below_to HB.out (below_al HX.out _) HB.out.size
theorem rgencap_any (id : Nat) (_hid : id < 4294967296) (A : Option Addr) (l : List Op) (c : Nat) (f : List UInt8) (w : World) (ho : OpsAt w A l) (hfit : ∀ x ∈ l, x.Fit) (hn : l.length ≤ 1000) :
    Calls Tryd.prog 17 #[.int .u32 (id : Int), .slice A l.length c, .string (txt f)] w (RE id l f w) := by
  unfold RE
  by_cases h1 : 16777216 ≤ id
  · have hc : geCode id l f.length = 1 := by unfold geCode; rw [if_pos h1]
    rw [hc, if_neg (by decide)]
    have hB : decide ((16777216 : Int) ≤ (id : Int)) = true := decide_eq_true (by omega)
    clear h1 hc ho hfit hn
    generalize (id : Int) = z at *
    go_enter Tryd.func17, Tryd.ntmps17
    go_wp2_with fail
    go_ret2
    exact ⟨rfl, Below.refl _ _⟩
  · have hB : decide ((16777216 : Int) ≤ (id : Int)) = false := decide_eq_false (by omega)
    by_cases h2 : opRight l = 0
    · by_cases h3 : frameWrong f.length = 0
      · have hc : geCode id l f.length = 0 := by unfold geCode; rw [if_neg h1, if_pos h2, h3]
        rw [hc, if_pos rfl]
        exact rgencap_ok id (by omega) A l c f w ho hfit hn h2 h3
      · have hc : geCode id l f.length = frameWrong f.length := by unfold geCode; rw [if_neg h1, if_pos h2]
        rw [hc, if_neg h3]
        have HRt := Lib.hid (rright_any A l c w ho hn)
        rw [h2] at HRt
        have HZ : Hid (∀ W, _) := fun W => rsize_any f.length W
        have hsz := txt_size f
        have h3' : ¬ ((frameWrong f.length : Nat) : Int) = 0 := by omega
        clear h1 h2 hc ho hfit hn h3
        generalize (id : Int) = z at *
        generalize ((frameWrong f.length : Nat) : Int) = q at *
        generalize txt f = TF at *
        go_enter Tryd.func17, Tryd.ntmps17
        go_wp2_with fail
        refine HRt.out.mono ?_
        rintro e w' ⟨rfl, rfl⟩
        go_wp2_with fail
        refine (HZ.out _).mono ?_
        rintro e w' ⟨rfl, rfl⟩
        go_wp2_with fail
        go_ret2
        exact ⟨rfl, Below.refl _ _⟩
    · have hc : geCode id l f.length = opRight l := by unfold geCode; rw [if_neg h1, if_neg h2]
      rw [hc, if_neg h2]
      have HRt := Lib.hid (rright_any A l c w ho hn)
      have h2' : ¬ ((opRight l : Nat) : Int) = 0 := by omega
      clear h1 h2 hc ho hfit hn
      generalize (id : Int) = z at *
      generalize ((opRight l : Nat) : Int) = q at *
      generalize txt f = TF at *
      go_enter Tryd.func17, Tryd.ntmps17
      go_wp2_with fail
      refine HRt.out.mono ?_
      rintro e w' ⟨rfl, rfl⟩
      go_wp2_with fail
      go_ret2
      exact ⟨rfl, Below.refl _ _⟩
end Go.Proofs.YtnjohgfhagoppaaDoor
