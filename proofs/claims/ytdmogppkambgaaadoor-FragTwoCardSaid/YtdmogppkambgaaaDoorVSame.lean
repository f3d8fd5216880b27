/-
  What is proved: 'of' and 'same' of the laws of layer 5 by contract.
  Conditions: the packets' numbers fit their types.
-/
import Derived.Test.YtdmogppkambgaaaDoorVTop
import Derived.StillTailTactics
import Derived.BigQuiet
namespace Go.Proofs.YtdmogppkambgaaaDoor
open Go.RowKit

/-- The document's packet. -/
def refIpRow (p : Ip) : Array Value := #[.int .u32 p.tos, .int .u32 p.id, .bool p.df, .bool p.mf, .int .i64 p.off, .int .u32 p.ttl, .int .u32 p.proto, .int .u32 p.src, .int .u32 p.dst, .string (txt p.b)]
def refIpZero : Array Value := #[.int .u32 0, .int .u32 0, .bool false, .bool false, .int .i64 0, .int .u32 0, .int .u32 0, .int .u32 0, .int .u32 0, .string ⟨#[]⟩]
theorem refIpSize : (Tryd.prog.info? 45).map (·.size) = some 10 := by kernel_rfl
theorem refIpRow_one (p : Ip) : (refIpRow p).all (·.oneCell') = true := by simp [refIpRow, Value.oneCell']
theorem u32_fitsN (n : Nat) (h : n < 4294967296) : IntKind.u32.wrap (n : Int) = (n : Int) := by
  have h1 : IntKind.u32.bits = 32 := rfl
  have h2 : IntKind.u32.signed = false := rfl
  simp [IntKind.wrap, h1, h2]
  omega
set_option maxRecDepth 100000 in
set_option maxHeartbeats 2000000 in
theorem vOf_any (p : Ip) (hp : p.In) (A : Option Addr) (c : Nat) (w : World) (hr : Rd w (.slice A p.b.length c) p.b) :
    Calls Tryd.prog 16 #[p.val (.slice A p.b.length c)] w fun e w' => e = .returned (.agg (refIpRow p)) ∧ Below w.heap.size w w' := by
  have hx := IpAt.new w p (.slice A p.b.length c)
  have hn : Below (w.alloc (p.obj (.slice A p.b.length c))).heap.size (w.alloc (p.obj (.slice A p.b.length c))) ((w.alloc (p.obj (.slice A p.b.length c))).alloc (.cells refIpZero 45)) := below_al (Below.refl _ _) _
  have hw : Below w.heap.size w ((w.alloc (p.obj (.slice A p.b.length c))).alloc (.cells refIpZero 45)) := below_al (below_al (Below.refl _ _) _) _
  have HX := Lib.hid (hx.below hn)
  have HR := Lib.hid (hr.below hw)
  have hz : ((w.alloc (p.obj (.slice A p.b.length c))).alloc (.cells refIpZero 45)).heap[w.heap.size + 1]? = some (.cells refIpZero 45) := by
    have := heap_alloc_new (w.alloc (p.obj (.slice A p.b.length c))) (.cells refIpZero 45)
    simpa using this
  have HW := Lib.hid hw
  have HZ := Lib.hid hz
  have h1 := u32_fitsN p.tos (by have := hp.tos; omega)
  have h2 := u32_fitsN p.id (by have := hp.id; omega)
  have h3 := u32_fitsN p.ttl (by have := hp.ttl; omega)
  have h4 := u32_fitsN p.proto (by have := hp.proto; omega)
  clear hr hx hn hw hz hp
  rw [Ip.val_lit]
  generalize hW : (w.alloc (p.obj (.slice A p.b.length c))).alloc (.cells refIpZero 45) = W at HX HR HW HZ
  unfold Ip.obj refIpZero at hW
  go_enter Tryd.func16, Tryd.ntmps16
  go_upto_region 1 with fail
  clear hW
  have v3 := convert_rd HR.out
  obtain ⟨c0, c1, c2, c3, c4, c5, c6, c7, c8, c9⟩ := HX.out.cells
  go_wp2_with (refine wpList_store_row rfl 45 (.tmp 2) (.tmp 28) rfl (w.heap.size + 1) (refIpRow p) rfl rfl 45 _ HZ.out refIpSize rfl (refIpRow_one p) ?_)
  (try simp only [Exit.inBlock, Exit.then])
  refine bodyPost_ret (results_cell_row rfl _ _ (w.heap.size + 1) _ (refIpRow p) (0, 0) _ rfl (setRow_heap _ _ _ _ _ _ HZ.out) Tryd.underlying45 rfl refIpSize) rfl ?_
  exact ⟨rfl, ((Fr.of_below (p := fun a => a.block = w.heap.size + 1) HW.out).then (Fr.of_row W (w.heap.size + 1) _) (fun x hx _ => hx)).below (Nat.le_refl _) (fun x hx => by omega)⟩
theorem vOf_lit (p : Ip) (hp : p.In) (A : Option Addr) (c : Nat) (w : World) (hr : Rd w (.slice A p.b.length c) p.b) :
    Calls Tryd.prog 16 #[.agg #[.int .u8 p.tos, .int .u16 p.id, .bool p.df, .bool p.mf, .int .i64 p.off, .int .u8 p.ttl, .int .u8 p.proto, .int .u32 p.src, .int .u32 p.dst, .slice A p.b.length c]] w fun e w' => e = .returned (.agg #[.int .u32 p.tos, .int .u32 p.id, .bool p.df, .bool p.mf, .int .i64 p.off, .int .u32 p.ttl, .int .u32 p.proto, .int .u32 p.src, .int .u32 p.dst, .string (txt p.b)]) ∧ Below w.heap.size w w' := vOf_any p hp A c w hr
/-- '==' on packets as a Boolean. -/
def ipB (p q : Ip) : Bool := decide ((p.tos : Int) = q.tos) && (decide ((p.id : Int) = q.id) && (decide (p.df = q.df) && (decide (p.mf = q.mf) && (decide (p.off = q.off) && (decide ((p.ttl : Int) = q.ttl) && (decide ((p.proto : Int) = q.proto) && (decide ((p.src : Int) = q.src) && (decide ((p.dst : Int) = q.dst) && (decide ((txt p.b).toList = (txt q.b).toList) && true)))))))))
theorem vtxt_list (a : List UInt8) : (txt a).toList = a := ByteArray.toList_mk a
theorem vtxt_inj (a b : List UInt8) : (txt a).toList = (txt b).toList ↔ a = b := by rw [vtxt_list, vtxt_list]
theorem ipB_iff (p q : Ip) : ipB p q = true ↔ p = q := by
  obtain ⟨a0, a1, a2, a3, a4, a5, a6, a7, a8, a9⟩ := p
  obtain ⟨b0, b1, b2, b3, b4, b5, b6, b7, b8, b9⟩ := q
  have en : ∀ a b : Nat, (a : Int) = b ↔ a = b := fun _ _ => by omega
  simp [ipB, en, vtxt_inj]
theorem ipB_same (p : Ip) : ipB p p = true := (ipB_iff p p).2 rfl
theorem ite_ok {c : Prop} [Decidable c] (b : Bool) (w : World) : (if c then (Result.ok b w : Result Bool) else Result.ok false w) = Result.ok (decide c && b) w := by
  by_cases h : c <;> simp [h]
set_option maxRecDepth 100000 in
set_option maxHeartbeats 2000000 in
theorem refIp_eq (a0 a1 a4 a5 a6 a7 a8 b0 b1 b4 b5 b6 b7 b8 : Int) (a2 a3 b2 b3 : Bool) (a9 b9 : ByteArray) (w : World) : (Op.equalIn 10000 45 (.agg #[.int .u32 a0, .int .u32 a1, .bool a2, .bool a3, .int .i64 a4, .int .u32 a5, .int .u32 a6, .int .u32 a7, .int .u32 a8, .string a9]) (.agg #[.int .u32 b0, .int .u32 b1, .bool b2, .bool b3, .int .i64 b4, .int .u32 b5, .int .u32 b6, .int .u32 b7, .int .u32 b8, .string b9])).run Tryd.prog w =
    .ok (decide (a0 = b0) && (decide (a1 = b1) && (decide (a2 = b2) && (decide (a3 = b3) && (decide (a4 = b4) && (decide (a5 = b5) && (decide (a6 = b6) && (decide (a7 = b7) && (decide (a8 = b8) && (decide (a9.toList = b9.toList) && true)))))))))) w := by
  have u1 := Tryd.underlying22
  have u2 := Tryd.underlying4
  have u3 := Tryd.underlying3
  have u4 := Tryd.underlying9
  have a1' := Tryd.isAgg22
  have a2' := Tryd.isAgg4
  have a3' := Tryd.isAgg3
  have a4' := Tryd.isAgg9
  have z1 := Tryd.sizeOf22
  have z2 := Tryd.sizeOf4
  have z3 := Tryd.sizeOf3
  have z4 := Tryd.sizeOf9
  have hS : Tryd.prog.underlying 45 = some (.struct (Tryd.prog.fieldsOf 45)) := by kernel_rfl
  have hp : Tryd.prog.stoodInHeld 45 = false := by kernel_rfl
  rw [show (10000 : Nat) = 9999 + 1 from rfl, run_equalIn_agg w 9999 45 _ _ hS hp]
  simp only [Program.fieldsOf, Tryd.underlying45]
  go_simp
  simp only [ite_ok, Bool.and_true]
theorem refIp_eqB (p q : Ip) (w : World) : (Op.equalIn 10000 45 (.agg #[.int .u32 p.tos, .int .u32 p.id, .bool p.df, .bool p.mf, .int .i64 p.off, .int .u32 p.ttl, .int .u32 p.proto, .int .u32 p.src, .int .u32 p.dst, .string (txt p.b)]) (.agg #[.int .u32 q.tos, .int .u32 q.id, .bool q.df, .bool q.mf, .int .i64 q.off, .int .u32 q.ttl, .int .u32 q.proto, .int .u32 q.src, .int .u32 q.dst, .string (txt q.b)])).run Tryd.prog w = .ok (ipB p q) w :=
  refIp_eq _ _ _ _ _ _ _ _ _ _ _ _ _ _ _ _ _ _ _ _ w
end Go.Proofs.YtdmogppkambgaaaDoor
