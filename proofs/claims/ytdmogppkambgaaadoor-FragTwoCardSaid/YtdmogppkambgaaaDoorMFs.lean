/-
  What is proved: packets in a row of one's own, each with bytes of its own; one more behind them.
  Conditions: fewer than a million packets.
  What is proved: frag.cut by contract.
  Conditions: the packet is right; at most 2000 bytes; parts of some bytes.
  What is proved: frag.Split by contract; it does what the laws ask of it (SpOk).
  Conditions: at most 2000 bytes; the numbers fit their types.
  What is proved: 'shown' of the laws of layer 10 answers true, and leaves all older memory as it was.
  Conditions: errors.errorType holds the handle of the type error.
-/
import Derived.Test.YtdmogppkambgaaaDoorMFh
import Derived.OwnWalk
import Derived.Test.YtdmogppkambgaaaDoorMFg
namespace Go.Proofs.YtdmogppkambgaaaDoor
open Go.RowKit

def Pv.sl (x : Pv) : Value := .slice x.B x.p.b.length x.c
theorem ip_info : (Tryd.prog.info? 42).map (fun i => (i.zero, i.size, i.bytes)) = some (some (.agg #[.int .u8 0, .int .u16 0, .bool false, .bool false, .int .i64 0, .int .u8 0, .int .u8 0, .int .u32 0, .int .u32 0, .slice none 0 0]), 10, 56) := by kernel_rfl
theorem pv_row_len (x : Pv) : x.row.length = 10 := rfl
theorem pvs_len (l : List Pv) : (l.flatMap Pv.row).length = l.length * 10 := by
  induction l with
  | nil => rfl
  | cons x l ih => rw [List.flatMap_cons, List.length_append, ih, pv_row_len, List.length_cons]; omega
theorem pvs_get : ∀ (l : List Pv) (k j : Nat) (x : Pv), l[k]? = some x → j < 10 → (l.flatMap Pv.row)[k * 10 + j]? = x.row[j]?
  | [], k, j, x, h, _ => by simp at h
  | y :: l, 0, j, x, h, hj => by
    obtain rfl : y = x := by simpa using h
    rw [List.flatMap_cons, List.getElem?_append_left (by rw [pv_row_len]; omega)]
    congr 1
    omega
  | y :: l, k + 1, j, x, h, hj => by
    rw [List.flatMap_cons, List.getElem?_append_right (by rw [pv_row_len]; omega), pv_row_len]
    have := pvs_get l k j x (by simpa using h) hj
    rw [← this]
    congr 1
    omega
/-- Packets that were laid from w0 on. -/
structure Pk2 (w0 W : World) (sv : Value) (l : List Pv) : Prop where
  row : W.ownsRow w0.heap.size 42 10 sv l.length (l.flatMap Pv.row)
  own : ∀ x ∈ l, W.ownsRow w0.heap.size 5 1 x.sl x.p.b.length (x.p.b.map B8)
  apart : l.Pairwise fun x y => ∀ g, x.sl.ownBlock = some g → y.sl.ownBlock ≠ some g
  base : Below w0.heap.size w0 W
section
variable {w0 W W' : World} {sv sv' : Value} {l : List Pv} {x : Pv}
theorem Pk2.nil (h : Below w0.heap.size w0 W) : Pk2 w0 W (.slice none 0 0) [] := ⟨World.ownsRow_nil _ _ _ _, fun _ h => (by cases h), List.Pairwise.nil, h⟩
theorem Pk2.below (h : Pk2 w0 W sv l) (hb : Below W.heap.size W W') : Pk2 w0 W' sv l :=
  ⟨owns_at h.row (fun g hg => hb.block g (own_lt h.row hg)), fun x hx => owns_at (h.own x hx) (fun g hg => hb.block g (own_lt (h.own x hx) hg)), h.apart, below_to h.base hb h.base.size⟩
theorem owns_base {w : World} {B B' : Nat} {e : TypeId} {s : Nat} {v : Value} {k : Nat} {xs : List Value} (h : w.ownsRow B e s v k xs) (hb : B' ≤ B) : w.ownsRow B' e s v k xs := by
  refine ⟨h.1, ?_⟩
  rcases h.2 with h1 | ⟨g, cap, cur, hv, h2, r⟩
  · exact .inl h1
  · exact .inr ⟨g, cap, cur, hv, Nat.le_trans hb h2, r⟩
theorem Pk2.from {w : World} (h : Pk2 w0 W sv l) (hb : Below w.heap.size w w0) : Pk2 w W sv l :=
  ⟨owns_base h.row hb.size, fun x hx => owns_base (h.own x hx) hb.size, h.apart, below_to hb h.base hb.size⟩
/-- One more. -/
theorem Pk2.push (h : Pk2 w0 W sv l) {X c : Nat} (hX : IpAt W X x.p x.sl) (hx : W.ownsRow w0.heap.size 5 1 x.sl x.p.b.length (x.p.b.map B8)) (hne : ∀ y ∈ l, ∀ g, y.sl.ownBlock = some g → x.sl.ownBlock ≠ some g) (hfew : l.length < 1000000) (ty : TypeId) :
    ∃ sv' W', (Builtin.append_ #[47, 47] ty #[sv, .slice (some ⟨X, 0, none⟩) 1 c]).run Tryd.prog W = .ok sv' W' ∧ Pk2 w0 W' sv' (l ++ [x]) ∧ W.grownBy W' sv.ownBlock := by
  obtain ⟨i0, hi, hz0, hz1, hz2⟩ := info_parts ip_info
  obtain ⟨v', w1, hrun, ho1, hg, _, hat⟩ := run_append_own_at (P := Tryd.prog) W w0.heap.size 47 ty 42 i0 _ 10 56 Tryd.underlying47 hi hz0 hz1 hz2 rfl (by omega) sv l.length _ h.row ⟨X, 0, none⟩ 1 c x.row rfl
    (fun j u hu => by
      rw [Addr.add_lit]
      have hc := cell_of_row W X (0 + j) _ _ _ hX
      rw [hc, Nat.zero_add]
      rw [← Array.getElem?_toList]
      exact hu) (fun u hu => by
        have h1 := ipRow_one x.p x.B x.p.b.length x.c
        have h2 : u ∈ (x.p.row (.slice x.B x.p.b.length x.c)).toList := hu
        rw [Array.all_eq_true_iff_forall_mem] at h1
        exact h1 u (by simpa using h2)) (by simp only [maxLen]; omega) (by omega) h.base.size
  have keep : ∀ {y : Pv}, W.ownsRow w0.heap.size 5 1 y.sl y.p.b.length (y.p.b.map B8) → w1.ownsRow w0.heap.size 5 1 y.sl y.p.b.length (y.p.b.map B8) := fun {y} hy => owns_at hy (fun g hgy => by
    obtain ⟨cc, hcc⟩ := own_block hy hgy
    exact hg.block g (own_lt hy hgy) (fun e => own_ne h.row hcc ipTy_ne.symm e.symm))
  refine ⟨v', w1, hrun, ⟨?_, fun y hy => ?_, ?_, h.base.grown hg h.base.size (fun k hk => (h.row.lt k hk).1)⟩, hg⟩
  · rw [List.length_append, List.flatMap_append]
    simpa using ho1
  · rcases List.mem_append.1 hy with hy | hy
    · exact keep (h.own y hy)
    · rw [List.mem_singleton.1 hy]; exact keep hx
  · exact List.pairwise_append.2 ⟨h.apart, List.pairwise_singleton _ _, fun a ha b hb g hg => by rw [List.mem_singleton.1 hb]; exact hne a ha g hg⟩
end
end Go.Proofs.YtdmogppkambgaaaDoor
namespace Go.Proofs.YtdmogppkambgaaaDoor
open Go.RowKit

theorem slice_both {P : Program} (t e : TypeId) (ht : P.underlying t = some (.slice e)) (hz : (P.info? e).map (·.size) = some 1) (A : Option Addr) (N c i j : Nat) (hij : i ≤ j) (hj : j ≤ N) (hN : N ≤ c) :
    ∃ DA : Option Addr, (∀ W : World, (Instr.slice t (.slice A N c) (some (.int .i64 (i : Int))) (some (.int .i64 (j : Int))) none).run P W = .ok (.slice DA (j - i) (c - i)) W) ∧ ∀ g o, A = some ⟨g, o, none⟩ → i < c → DA = some ⟨g, o + i, none⟩ := by
  refine ⟨if c = i then A else A.map (·.add (i * 1)), fun W => ?_, ?_⟩
  · cases hq : P.info? e with
    | none => simp [hq] at hz
    | some inf =>
      have hi : inf.size = 1 := by simpa [hq] using hz
      obtain ⟨k, hk⟩ : ∃ k : Int, (i : Int) = k := ⟨_, rfl⟩
      obtain ⟨m, hm⟩ : ∃ m : Int, (j : Int) = m := ⟨_, rfl⟩
      have h1 : 0 ≤ k ∧ k ≤ (j : Int) := by omega
      have h2 : k.toNat = i := by omega
      have h3 : 0 ≤ m ∧ m ≤ (c : Int) := by omega
      have h4 : m.toNat = j := by omega
      rw [hk, hm]
      simp [Instr.slice, Instr.sliceBounds, Instr.sliceBound, asIntOf, run_underlying ht, sizeOf, typeInfo, hq, hi, h1, h2, h3, h4]
  · rintro g o rfl h
    rw [if_neg (by omega)]
    simp [Addr.add_lit]
theorem rd_mid {W : World} {A DA : Option Addr} {N c i j : Nat} {bs : List UInt8} (h : Rd W (.slice A N c) bs) (hN : bs.length = N) (hij : i ≤ j) (hj : j ≤ N) (hD : ∀ g o, A = some ⟨g, o, none⟩ → i < c → DA = some ⟨g, o + i, none⟩) : Rd W (.slice DA (j - i) (c - i)) ((bs.drop i).take (j - i)) := by
  obtain ⟨A', c', e, hc, hi⟩ := h
  cases e
  have hl : ((bs.drop i).take (j - i)).length = j - i := by simp only [List.length_take, List.length_drop]; omega
  refine ⟨DA, c - i, by rw [hl], by rw [hl]; omega, fun h0 => ?_⟩
  rw [hl] at h0
  obtain ⟨g, o, rfl, hr⟩ := hi (by omega)
  refine ⟨g, o + i, hD g o rfl (by omega), fun k u hu => ?_⟩
  have hk : k < j - i := by rw [← hl]; exact (List.getElem?_eq_some_iff.1 hu).1
  rw [List.getElem?_take_of_lt hk, List.getElem?_drop] at hu
  have := hr (i + k) u hu
  rw [show o + i + k = o + (i + k) by omega]
  exact this
def CutAt (p : Ip) (s : Nat) (w : World) (e : Ending) (w' : World) : Prop := ∃ (l : List Pv) (A : Option Addr) (c : Nat), e = .returned (.slice A l.length c) ∧ Pk2 w w' (.slice A l.length c) l ∧ l.map Pv.p = cuts p s
theorem cuts_get {p : Ip} {s k : Nat} (_ : k < cntOf p.b.length s) : (List.range (k + 1)).map (fun i => seg p (i * s) s) = (List.range k).map (fun i => seg p (i * s) s) ++ [seg p (k * s) s] := by
  rw [List.range_succ, List.map_append, List.map_singleton]

set_option maxRecDepth 100000 in
set_option maxHeartbeats 4000000 in
theorem fcut_any (p : Ip) (hp : p.bad = 0) (s : Nat) (hs : 0 < s) (hs2 : s ≤ 9223372036854775807) {A : Option Addr} {c : Nat} (w : World) (hr : Rd w (.slice A p.b.length c) p.b) (hf : p.b.length ≤ 2000) (_ : c ≤ 9223372036854775807) (hsn : s ≤ 1000000) :
    Calls Tryd.prog 40 #[p.val (.slice A p.b.length c), .int .i64 (s : Int)] w (CutAt p s w) := by
  have hR := (Ip.right_iff p).1 hp
  obtain ⟨o, ho⟩ : ∃ o : Nat, p.off = o := ⟨p.off.toNat, by have := hR.off0; omega⟩
  have hcap := hr.cap_le
  have HB := Lib.hid (below_al (Below.refl _ w) (p.obj (.slice A p.b.length c)))
  have HP := Lib.hid (IpAt.new w p (.slice A p.b.length c))
  have Hr := Lib.hid hr
  have HR := Lib.hid hR
  have Ho := Lib.hid ho
  have Hf := Lib.hid hf
  unfold Ip.obj at HB HP
  rw [Ip.val_lit]
  clear hr hR hp ho hf
  go_enter Tryd.func40, Tryd.ntmps40
  go_upto_region 1 with fail
  have HZ := Lib.hid (World.size_alloc (w := w) (o := .cells #[.int .u8 p.tos, .int .u16 p.id, .bool p.df, .bool p.mf, .int .i64 p.off, .int .u8 p.ttl, .int .u8 p.proto, .int .u32 p.src, .int .u32 p.dst, .slice A p.b.length c] 42))
  generalize w.alloc (.cells #[.int .u8 p.tos, .int .u16 p.id, .bool p.df, .bool p.mf, .int .i64 p.off, .int .u8 p.ttl, .int .u8 p.proto, .int .u32 p.src, .int .u32 p.dst, .slice A p.b.length c] 42) = W1 at HB HP HZ ⊢
  obtain ⟨B0, hB0⟩ : ∃ B0, w.heap.size = B0 := ⟨_, rfl⟩
  have HBe := Lib.hid hB0
  rw [hB0] at HP HZ ⊢
  clear hB0
  obtain ⟨L, hL⟩ : ∃ L, p.b.length = L := ⟨_, rfl⟩
  have HL := Lib.hid hL
  rw [hL] at hcap ⊢
  clear hL
  go_wp2_with fail
  go_loopw [5, 6, 7, 8] (fun s5 s6 _ _ wr => ∃ (k : Nat) (l : List Pv), s6 = .int .i64 ((k * s : Nat) : Int) ∧ k ≤ cntOf L s ∧ l.map Pv.p = (List.range k).map (fun i => seg p (i * s) s) ∧ Pk2 W1 wr s5 l) (fun _ s6 _ _ _ => L + s - (intOf s6).toNat)
  case atStart =>
    exact ⟨0, [], by simp, Nat.zero_le _, rfl, Pk2.nil (Below.refl _ _)⟩
  case round =>
    obtain ⟨k, l, rfl, hk, hlm, hPk⟩ := hrel
    have HPk := Lib.hid hPk
    have Hlm := Lib.hid hlm
    have HPr : Hid (IpAt wr B0 p (.slice A p.b.length c)) := Lib.hid ((hPk.base.block B0 (by have := HZ.out; omega)).trans HP.out)
    obtain ⟨a, ha⟩ : ∃ a, k * s = a := ⟨_, rfl⟩
    have Ha := Lib.hid ha
    have hk2 := cntOf_iff (L := L) (k := k) hs
    rw [ha] at hk2 ⊢
    have Hk := Lib.hid hk
    have Hk2 := Lib.hid hk2
    obtain ⟨c0, c1, c2, c3, c4, c5, c6, c7, c8, c9⟩ := HPr.out.cells
    rw [HL.out] at c9
    clear hlm hPk ha hk hk2
    have hL2 : L ≤ 2000 := by rw [← HL.out]; exact Hf.out
    by_cases hlt : a < L
    · have q1 : decide ((a : Int) < (L : Int)) = true := decide_eq_true (by omega)
      obtain ⟨Es, hEs⟩ : ∃ Es : Int, (a : Int) + (s : Int) = Es := ⟨_, rfl⟩
      have q2 : IntKind.i64.wrap ((a : Int) + (s : Int)) = Es := by rw [IntKind.wrap_i64]; omega
      obtain ⟨E, hE⟩ : ∃ E : Nat, min (a + s) L = E := ⟨_, rfl⟩
      have hmin := fun ats ty W => min_run (P := Tryd.prog) ats ty Es (L : Int) (E : Int) (by omega) W
      obtain ⟨o1, ho1⟩ : ∃ o1 : Int, p.off + (a : Int) = o1 := ⟨_, rfl⟩
      have q3 : IntKind.i64.wrap (p.off + (a : Int)) = o1 := by have := HR.out.far; have := HR.out.off0; rw [IntKind.wrap_i64]; have := HL.out; omega
      have HE := Lib.hid hE
      have HEs := Lib.hid hEs
      have Ho1 := Lib.hid ho1
      have hsz : ∀ x, wr.heap.size = x → True := fun _ _ => trivial
      clear hE hEs ho1 hsz
      go_upto_region 7 with (refine wpList_store_row rfl 42 (.tmp 8) (.tmp 24) rfl wr.heap.size #[.int .u8 p.tos, .int .u16 p.id, .bool p.df, .bool p.mf, .int .i64 p.off, .int .u8 p.ttl, .int .u8 p.proto, .int .u32 p.src, .int .u32 p.dst, .slice A L c] rfl rfl 42 _ (heap_alloc_new wr _) ipSize rfl (by simp [Value.oneCell']) ?_; rw [setRow_alloc])
      have HX2 : Hid (IpAt (wr.alloc (.cells #[.int .u8 p.tos, .int .u16 p.id, .bool p.df, .bool p.mf, .int .i64 p.off, .int .u8 p.ttl, .int .u8 p.proto, .int .u32 p.src, .int .u32 p.dst, .slice A L c] 42)) wr.heap.size p (.slice A L c)) := Lib.hid (IpAt.new wr p (.slice A L c))
      have HB2 := Lib.hid (below_al (Below.refl _ wr) (.cells #[.int .u8 p.tos, .int .u16 p.id, .bool p.df, .bool p.mf, .int .i64 p.off, .int .u8 p.ttl, .int .u8 p.proto, .int .u32 p.src, .int .u32 p.dst, .slice A L c] 42))
      generalize wr.alloc (.cells #[.int .u8 p.tos, .int .u16 p.id, .bool p.df, .bool p.mf, .int .i64 p.off, .int .u8 p.ttl, .int .u8 p.proto, .int .u32 p.src, .int .u32 p.dst, .slice A L c] 42) = w2 at HX2 HB2 ⊢
      obtain ⟨X, hX⟩ : ∃ X, wr.heap.size = X := ⟨_, rfl⟩
      have HXe := Lib.hid hX
      rw [hX] at HX2 ⊢
      have hBX : B0 ≠ X := by have := HPr.out.lt; omega
      have HBX := Lib.hid hBX
      clear c0 c1 c2 c3 c4 c5 c6 c7 c8 c9 hX hmin q1 q2 hBX
      obtain ⟨d0, d1, d2, d3, d4, d5, d6, d7, d8, d9⟩ := cells10 HX2.out
      have f4 := HX2.out.free 4
      clear d0 d1 d2 d3 d5 d6 d7 d8 d9
      go_upto_region 8 with fail
      have HX3 : Hid (IpAt (w2.setCell ⟨X, 4, none⟩ (.int .i64 o1)) X { p with off := o1 } (.slice A L c)) := Lib.hid (heap_setCell_same w2 X 4 _ _ (.int .i64 o1) HX2.out)
      have HB3 := Lib.hid (HB2.out.setCell (p := ⟨X, 4, none⟩) (by show wr.heap.size ≤ X; have := HXe.out; omega) (.int .i64 o1))
      generalize w2.setCell ⟨X, 4, none⟩ (.int .i64 o1) = w3 at HX3 HB3 ⊢
      clear d4 f4 HX2 HB2 q3
      have HP3 := Lib.hid (HPr.out.below HB3.out)
      obtain ⟨m2, hm2⟩ : ∃ m2, (p.mf || decide (E < L)) = m2 := ⟨_, rfl⟩
      have Hm2 := Lib.hid hm2
      clear hm2
      obtain ⟨c0, c1, c2, c3, c4, c5, c6, c7, c8, c9⟩ := HP3.out.cells
      rw [HL.out] at c9
      have d3 : w3.cell? ⟨X, 3, none⟩ = some (.bool p.mf) := (cells10 HX3.out).2.2.2.1
      have f3 := HX3.out.free 3
      clear c0 c1 c2 c4 c5 c6 c7 c8
      obtain ⟨mf, hmf⟩ : ∃ mf, p.mf = mf := ⟨_, rfl⟩
      rw [hmf] at c3 d3 ⊢
      have HMf := Lib.hid hmf
      clear hmf
      go_cut [40] (fun _ wx => wx = w3.setCell ⟨X, 3, none⟩ (.bool m2))
      case first =>
        cases mf with
        | true =>
          obtain rfl : true = m2 := by rw [← Hm2.out, HMf.out]; rfl
          clear c9
          go_wp2_with fail
          go_meet
          rfl
        | false =>
          by_cases hEL : E < L
          · obtain rfl : true = m2 := by rw [← Hm2.out, HMf.out, decide_eq_true hEL]; rfl
            have q4 : decide ((E : Int) < (L : Int)) = true := decide_eq_true (by omega)
            go_wp2_with fail
            go_meet
            rfl
          · obtain rfl : false = m2 := by rw [← Hm2.out, HMf.out, decide_eq_false hEL]; rfl
            have q4 : decide ((E : Int) < (L : Int)) = false := decide_eq_false (by omega)
            go_wp2_with fail
            go_meet
            rfl
      have hwc := hcut
      clear hcut c3 c9 d3 f3
      have hmf := HMf.out
      clear HMf
      subst hmf
      have HX4 : Hid (IpAt wc X { p with off := o1, mf := m2 } (.slice A L c)) := Lib.hid (by rw [hwc]; exact heap_setCell_same w3 X 3 _ _ (.bool m2) HX3.out)
      have HB4 : Hid (Below wr.heap.size wr wc) := Lib.hid (by rw [hwc]; exact HB3.out.setCell (p := ⟨X, 3, none⟩) (by show wr.heap.size ≤ X; have := HXe.out; omega) (.bool m2))
      clear hwc HX3 HB3 HP3
      generalize wc = w4 at *
      have HP4 := Lib.hid (HPr.out.below HB4.out)
      have hEle : a ≤ E := by have := HE.out; omega
      have hEL : E ≤ L := by have := HE.out; omega
      obtain ⟨DA, hsl, hda⟩ := slice_both (P := Tryd.prog) 23 5 Tryd.underlying23 byte_size A L c a E hEle hEL hcap
      have hbw : Below w.heap.size w w4 := below_to HB.out (below_to (HPk.out.base) HB4.out HPk.out.base.size) HB.out.size
      have hrs := rd_mid (Hr.out.below hbw) rfl hEle (by rw [HL.out]; exact hEL) (DA := DA) hda
      obtain ⟨bs, hbs⟩ : ∃ bs, (p.b.drop a).take (E - a) = bs := ⟨_, rfl⟩
      have hbl : bs.length = E - a := by rw [← hbs]; simp only [List.length_take, List.length_drop]; have := HL.out; omega
      rw [hbs] at hrs
      obtain ⟨n, hn⟩ : ∃ n, E - a = n := ⟨_, rfl⟩
      obtain ⟨c2, hc2⟩ : ∃ c2, c - a = c2 := ⟨_, rfl⟩
      rw [hn] at hsl hrs hbl
      rw [hc2] at hsl hrs
      have hsl := hsl w4
      have XC := Lib.hid (bclone_any (.slice DA n c2) bs w4 hrs (by rw [hbl]; omega))
      have Hbs := Lib.hid hbs
      have Hbl := Lib.hid hbl
      have Hn := Lib.hid hn
      obtain ⟨c0, c1, c2', c3, c4, c5, c6, c7, c8, c9⟩ := HP4.out.cells
      rw [HL.out] at c9
      clear hbs hbl hn hc2 hrs hbw hda c0 c1 c2' c3 c4 c5 c6 c7 c8
      go_upto_region 10 with (go_at_call 57; (with_reducible refine XC.out.mono ?_); rintro e w5 ⟨v, rfl, ho, hb⟩; (obtain ⟨A9, k9, rfl, _⟩ := own_shape ho); (have d9 := (cells10 (HX4.out.below hb)).2.2.2.2.2.2.2.2.2); (have f9 := (HX4.out.below hb).free 9); (have HO := Lib.hid ho); (have HB5 := Lib.hid hb); clear ho hb)
      obtain ⟨q, hq⟩ : ∃ q : Ip, ({ p with off := o1, mf := m2, b := bs } : Ip) = q := ⟨_, rfl⟩
      have hqb : q.b = bs := by rw [← hq]
      have HX6 : Hid (IpAt (w5.setCell ⟨X, 9, none⟩ (.slice A9 bs.length k9)) X q (.slice A9 q.b.length k9)) := Lib.hid (by
        rw [hqb, ← hq]
        exact set9_10 (HX4.out.below HB5.out) (.slice A9 bs.length k9))
      have HO6 := Lib.hid (own_setCell HO.out (HX4.out.below HB5.out) ipTy_ne 9 (.slice A9 bs.length k9))
      have HB6 := Lib.hid ((below_to HB4.out HB5.out HB4.out.size).setCell (p := ⟨X, 9, none⟩) (by show wr.heap.size ≤ X; have := HXe.out; omega) (.slice A9 bs.length k9))
      have HN4 := Lib.hid HB4.out.size
      have Hseg : Hid (q = seg p a s) := Lib.hid (by
        rw [← hq]
        unfold seg
        have h1 : (p.b.drop a).take (E - a) = (p.b.drop a).take s := by
          have := HE.out
          have := HL.out
          by_cases h : a + s ≤ L
          · congr 1; omega
          · rw [List.take_of_length_le (by rw [List.length_drop]; omega), List.take_of_length_le (by rw [List.length_drop]; omega)]
        have h2 : decide (E < L) = decide (a + s < p.b.length) := by
          have := HE.out
          rw [HL.out]
          exact decide_eq_decide.2 ⟨fun h => by omega, fun h => by omega⟩
        rw [← Ho1.out, ← Hm2.out, ← Hbs.out, h1, h2])
      generalize w5.setCell ⟨X, 9, none⟩ (.slice A9 bs.length k9) = w6 at *
      have Hqb := Lib.hid hqb
      have Hq := Lib.hid hq
      clear hq hqb d9 f9 hsl XC HX4 HB4 HO HB5 c9
      obtain ⟨e0, e1, e2, e3, e4, e5, e6, e7, e8, e9⟩ := cells10 HX6.out
      have HT7 := Lib.hid (IpAt.new w6 q (.slice A9 q.b.length k9))
      have HBa := Lib.hid (below_al (Below.refl _ w6) (q.obj (.slice A9 q.b.length k9)))
      have hPk7 := (HPk.out.below HB6.out).below HBa.out
      have hx : (w6.alloc (q.obj (.slice A9 q.b.length k9))).ownsRow W1.heap.size 5 1 (Pv.sl ⟨q, A9, k9⟩) q.b.length (q.b.map B8) := owns_base (by
        have := HO6.out.alloc (q.obj (.slice A9 q.b.length k9))
        rw [← Hqb.out] at this
        exact this) (Nat.le_trans HPk.out.base.size HN4.out)
      obtain ⟨sv', w8, run8, hPk8, hg8⟩ := hPk7.push (x := ⟨q, A9, k9⟩) (c := 1) HT7.out hx (fun y hy g hgy hgx => by
        have h1 := own_lt (HPk.out.own y hy) hgy
        have h2 := (HO6.out.lt g (by rw [← Hqb.out]; exact hgx)).1
        have := HN4.out
        omega) (by
          have h1 := congrArg List.length Hlm.out
          rw [List.length_map, List.length_map, List.length_range] at h1
          have h2 := Hk.out
          have h3 := cnt_le L hs
          omega) 47
      have HPk8 := Lib.hid hPk8
      unfold Ip.obj at run8
      clear hPk7 hx hPk8 hg8
      have q9 : IntKind.i64.wrap ((a : Int) + (s : Int)) = ((a + s : Nat) : Int) := by rw [IntKind.wrap_i64]; omega
      obtain ⟨a2, ha2⟩ : ∃ a2 : Nat, a + s = a2 := ⟨_, rfl⟩
      rw [ha2] at q9
      have Ha2 := Lib.hid ha2
      clear ha2
      go_wp2_with (at_builtin; refine wpList_append_run rfl (.tmp 47) (.tmp 49) 47 47 rfl _ _ rfl rfl _ _ run8 ?_)
      have hk1 : k + 1 ≤ cntOf L s := Hk2.out.2 hlt
      have h1 : (k + 1) * s = a2 := by rw [Nat.succ_mul, Ha.out]; exact Ha2.out
      have h2 : (l ++ [(⟨q, A9, k9⟩ : Pv)]).map Pv.p = (List.range (k + 1)).map (fun i => seg p (i * s) s) := by
        rw [List.map_append, Hlm.out, List.range_succ, List.map_append]
        show _ ++ [q] = _ ++ [seg p (k * s) s]
        rw [Ha.out, Hseg.out]
      go_roundw
      case rel => exact ⟨k + 1, l ++ [⟨q, A9, k9⟩], by rw [h1], hk1, h2, HPk8.out⟩
      case measure =>
        have := Ha2.out
        simp [intOf]
        omega
    · have q1 : decide ((a : Int) < (L : Int)) = false := decide_eq_false (by omega)
      have hkc : k = cntOf L s := by
        have h1 := Hk.out
        have h2 := Hk2.out
        omega
      have Hkc := Lib.hid hkc
      clear hkc c0 c1 c2 c3 c4 c5 c6 c7 c8
      go_wp2_with fail
      go_ret
      have hsh : ∃ A c, u5 = .slice A l.length c := by
        rcases HPk.out.row.2 with ⟨h1, h2⟩ | ⟨g, c, _, h1, _⟩
        · exact ⟨none, 0, by rw [h1, h2]⟩
        · exact ⟨_, _, h1⟩
      obtain ⟨A', c', rfl⟩ := hsh
      exact ⟨l, A', c', rfl, HPk.out.from HB.out, by rw [Hlm.out, Hkc.out, ← HL.out]; rfl⟩
end Go.Proofs.YtdmogppkambgaaaDoor
namespace Go.Proofs.YtdmogppkambgaaaDoor
open Go.RowKit

/-- What Split tells, each packet with bytes of its own. -/
def SplitVal2 (p : Ip) (mtu : Int) (w : World) (e : Ending) (w' : World) : Prop :=
  ∃ (l : List Pv) (A : Option Addr) (c : Nat) (ev : Value), e = .returned (.tuple #[.slice A l.length c, ev]) ∧ ErrIs w' (splitC p mtu) (splitIn p mtu) ev ∧ l.map Pv.p = (if splitC p mtu = 0 then splitL p mtu else []) ∧ Pk2 w w' (.slice A l.length c) l
theorem split_err {p : Ip} {mtu : Int} {w w' : World} {ev : Value} (hc : splitC p mtu ≠ 0) (hE : ErrIs w' (splitC p mtu) (splitIn p mtu) ev) (hB : Below w.heap.size w w') : SplitVal2 p mtu w (.returned (.tuple #[.slice none 0 0, ev])) w' :=
  ⟨[], none, 0, ev, rfl, hE, by rw [if_neg hc]; rfl, Pk2.nil hB⟩

theorem Pk2.one {w W : World} (hb : Below w.heap.size w W) (x : Pv) (hx : W.ownsRow w.heap.size 5 1 x.sl x.p.b.length (x.p.b.map B8)) : Pk2 w (W.alloc (x.p.obj x.sl)) (.slice (some ⟨W.heap.size, 0, none⟩) 1 1) [x] := by
  refine ⟨⟨rfl, .inr ⟨W.heap.size, 1, _, rfl, hb.size, heap_alloc_new W _, Nat.le_refl _, by decide, rfl, rfl⟩⟩, fun y hy => ?_, List.pairwise_singleton _ _, hb.alloc hb.size _⟩
  rw [List.mem_singleton.1 hy]
  exact hx.alloc _
set_option maxRecDepth 100000 in
set_option maxHeartbeats 1000000 in
theorem fsplit_any (p : Ip) (A : Option Addr) (c : Nat) (mtu : Int) (w : World) (_ : p.In) (hf : p.b.length ≤ 2000) (hc : c ≤ 9223372036854775807) (hm0 : -9223372036854775808 ≤ mtu) (hm1 : mtu ≤ 9223372036854775807) (hr : Rd w (.slice A p.b.length c) p.b) :
    Calls Tryd.prog 17 #[p.val (.slice A p.b.length c), .int .i64 mtu] w (SplitVal2 p mtu w) := by
  have HB := Lib.hid (below_al (Below.refl _ w) (p.obj (.slice A p.b.length c)))
  have HP := Lib.hid (IpAt.new w p (.slice A p.b.length c))
  have X1 := Lib.hid (fun W => right_any p A c W (by omega))
  have X2 := Lib.hid (fun W (hW : Below w.heap.size w W) => fclone_any p A c W (hr.below hW) (by omega))
  have X3 := Lib.hid (fun (hb : p.bad = 0) (s : Nat) (hs : 0 < s) (hsn : s ≤ 1000000) W (hW : Below w.heap.size w W) => fcut_any p hb s hs (by omega) W (hr.below hW) hf hc hsn)
  have Hf := Lib.hid hf
  unfold Ip.obj at HB HP
  unfold Ip.val Ip.row at X1 X2 X3
  rw [Ip.val_lit]
  clear hr hf
  go_enter Tryd.func17, Tryd.ntmps17
  go_upto_region 1 with fail
  generalize w.alloc (.cells #[.int .u8 p.tos, .int .u16 p.id, .bool p.df, .bool p.mf, .int .i64 p.off, .int .u8 p.ttl, .int .u8 p.proto, .int .u32 p.src, .int .u32 p.dst, .slice A p.b.length c] 42) = W1 at HB HP ⊢
  obtain ⟨B0, hB0⟩ : ∃ B0, w.heap.size = B0 := ⟨_, rfl⟩
  rw [hB0] at HP ⊢
  clear hB0
  by_cases h68 : mtu < 68
  · have q1 : decide (mtu < 68) = true := decide_eq_true h68
    have hC : splitC p mtu = 1 := by unfold splitC; rw [if_pos h68]
    have hI : splitIn p mtu = false := by unfold splitIn; rw [decide_eq_false (by omega)]; rfl
    have HC := Lib.hid (And.intro hC hI)
    have XW := Lib.hid (fwrap_any 1 (by omega) 1 rfl W1)
    clear hC hI h68 X1 X2 X3
    as_aux_lemma =>
    go_wp2_with (go_at_call 24; (with_reducible refine XW.out.mono ?_); rintro e w7 ⟨q7, rfl, hE7, hb7⟩; (have HE7 := Lib.hid hE7); (have HB7 := Lib.hid (below_to HB.out hb7 HB.out.size)); clear hE7 hb7)
    go_ret2
    exact split_err (by rw [HC.out.1]; omega) (by rw [HC.out.1, HC.out.2]; exact HE7.out) HB7.out
  · have q1 : decide (mtu < 68) = false := decide_eq_false h68
    obtain ⟨c0, c1, c2, c3, c4, c5, c6, c7, c8, c9⟩ := HP.out.cells
    go_upto_region 4 with (go_at_call 38; (with_reducible refine (X1.out _).mono ?_); rintro e w2 ⟨hb2, hRt⟩; rcases hRt with ⟨hbad, rfl⟩ | ⟨hbad, q, rfl, hch⟩)
    · have HBb := Lib.hid hbad
      have HB2 := Lib.hid (below_to HB.out hb2 HB.out.size)
      have HP2 := Lib.hid (HP.out.below hb2)
      have H68 := Lib.hid h68
      clear hbad hb2 X1 HP HB c0 c1 c2 c3 c4 c5 c6 c7 c8 c9 h68
      obtain ⟨c0, c1, c2, c3, c4, c5, c6, c7, c8, c9⟩ := HP2.out.cells
      obtain ⟨L, hL⟩ : ∃ L, p.b.length = L := ⟨_, rfl⟩
      have HL := Lib.hid hL
      obtain ⟨T, hT⟩ : ∃ T : Int, 20 + (L : Int) = T := ⟨_, rfl⟩
      have q2 : IntKind.i64.wrap (20 + (L : Int)) = T := by rw [IntKind.wrap_i64]; have := Hf.out; omega
      have HT := Lib.hid hT
      rw [hL] at c9 X2 X3 ⊢
      clear hL hT
      by_cases hfit : T ≤ mtu
      · have q3 : decide (T ≤ mtu) = true := decide_eq_true hfit
        have hC : splitC p mtu = 0 := by unfold splitC; rw [if_neg (by have := H68.out; omega), if_neg (by have := HBb.out; omega), if_pos (by rw [HL.out, HT.out]; exact hfit)]
        have hS : splitL p mtu = [p] := by unfold splitL; rw [if_pos (by rw [HL.out, HT.out]; exact hfit)]
        have HC := Lib.hid (And.intro hC hS)
        have XC := Lib.hid (X2.out w2 HB2.out)
        clear hC hS hfit X2 X3
        go_wp2_with (go_at_call 39; (with_reducible refine XC.out.mono ?_); rintro e w4 ⟨v, rfl, ho, hb4⟩; (obtain ⟨A9, k9, rfl, _⟩ := own_shape ho); (have HO := Lib.hid ho); (have HB4 := Lib.hid hb4); clear ho hb4; rw [Ip.val_lit])
        go_ret2
        have h1 := Pk2.one (below_to HB2.out HB4.out HB2.out.size) ⟨p, A9, k9⟩ (owns_base HO.out HB2.out.size)
        exact ⟨[⟨p, A9, k9⟩], some ⟨w4.heap.size, 0, none⟩, 1, .nilIface, rfl, .inl ⟨HC.out.1, rfl⟩, by rw [if_pos HC.out.1, HC.out.2]; rfl, h1⟩
      · have q3 : decide (T ≤ mtu) = false := decide_eq_false hfit
        obtain ⟨df, hdf⟩ : ∃ df, p.df = df := ⟨_, rfl⟩
        rw [hdf] at c2 X3 ⊢
        cases df with
        | true =>
          have hC : splitC p mtu = 7 := by unfold splitC; rw [if_neg (by have := H68.out; omega), if_neg (by have := HBb.out; omega), if_neg (by rw [HL.out, HT.out]; exact hfit), hdf]; rfl
          have hI : splitIn p mtu = false := by unfold splitIn; rw [HBb.out]; simp
          have HC := Lib.hid (And.intro hC hI)
          have XW := Lib.hid (fun W => fwrap_any 7 (by omega) 7 rfl W)
          clear hC hI hfit hdf X2 X3
          go_wp2_with (go_at_call 24; (with_reducible refine (XW.out _).mono ?_); rintro e w7 ⟨q7, rfl, hE7, hb7⟩; (have HE7 := Lib.hid hE7); (have HB7 := Lib.hid (below_to HB2.out hb7 HB2.out.size)); clear hE7 hb7)
          go_ret2
          exact split_err (by rw [HC.out.1]; omega) (by rw [HC.out.1, HC.out.2]; exact HE7.out) HB7.out
        | false =>
          have hC : splitC p mtu = 0 := by unfold splitC; rw [if_neg (by have := H68.out; omega), if_neg (by have := HBb.out; omega), if_neg (by rw [HL.out, HT.out]; exact hfit), hdf]; rfl
          obtain ⟨s, hs⟩ : ∃ s, szOf mtu = s := ⟨_, rfl⟩
          have hS : splitL p mtu = cuts p s := by unfold splitL; rw [if_neg (by rw [HL.out, HT.out]; exact hfit), hs]
          have hz := szOf_facts H68.out
          rw [hs] at hz
          have hse : ((mtu - 20) / 8 * 8 : Int) = (s : Int) := by
            rw [← hs]
            unfold szOf
            have := H68.out
            omega
          have HC := Lib.hid (And.intro hC hS)
          have hmle : mtu ≤ 2020 := by have := HT.out; have := Hf.out; have := HL.out; omega
          have XC := Lib.hid (X3.out HBb.out s (by omega) (by omega) w2 HB2.out)
          obtain ⟨M1, hM1⟩ : ∃ M1 : Int, mtu - 20 = M1 := ⟨_, rfl⟩
          have q4 : IntKind.i64.wrap (mtu - 20) = M1 := by rw [IntKind.wrap_i64]; have := H68.out; omega
          have hM0 : 0 ≤ M1 := by have := H68.out; omega
          obtain ⟨D1, hD1⟩ : ∃ D1 : Int, M1.tdiv 8 = D1 := ⟨_, rfl⟩
          have hD2 : D1 = M1 / 8 := by rw [← hD1, Int.tdiv_eq_ediv_of_nonneg hM0]
          have q5 : IntKind.i64.wrap D1 = D1 := by rw [IntKind.wrap_i64]; omega
          have q6 : IntKind.i64.wrap (D1 * 8) = (s : Int) := by rw [IntKind.wrap_i64, ← hse, hM1, ← hD2]; omega
          clear hC hS hz hse hs hmle hM1 hM0 hD2 hfit hdf X2 X3
          go_wp2_with (go_at_call 40; (with_reducible refine XC.out.mono ?_); rintro e w4 ⟨l, A', c', rfl, hPk, hm⟩; (have HPk := Lib.hid hPk); (have Hm := Lib.hid hm); clear hPk hm)
          go_ret2
          exact ⟨l, A', c', .nilIface, rfl, .inl ⟨HC.out.1, rfl⟩, by rw [if_pos HC.out.1, HC.out.2]; exact Hm.out, HPk.out.from HB2.out⟩
    · have HBb := Lib.hid hbad
      have HC := Lib.hid hch
      have HB2 := Lib.hid (below_to HB.out hb2 HB.out.size)
      have hC : splitC p mtu = p.bad := by unfold splitC; rw [if_neg (by omega), if_pos hbad]
      have hI : splitIn p mtu = true := by unfold splitIn; rw [decide_eq_true (by omega), decide_eq_true hbad]; rfl
      have HCI := Lib.hid (And.intro hC hI)
      have XW := Lib.hid (fwrapped_any hbad hch)
      clear hbad hch hb2 X1 X2 X3 HP HB c0 c1 c2 c3 c4 c5 c6 c7 c8 c9 hC hI h68
      as_aux_lemma =>
      go_wp2_with (go_at_call 24; (with_reducible refine XW.out.mono ?_); rintro e w7 ⟨q7, rfl, hE7, hb7⟩; (have HE7 := Lib.hid hE7); (have HB7 := Lib.hid (below_to HB2.out hb7 HB2.out.size)); clear hE7 hb7)
      go_ret2
      exact split_err (by rw [HCI.out.1]; exact HBb.out) (by rw [HCI.out.1, HCI.out.2]; exact HE7.out) HB7.out
theorem seg_in {p : Ip} (hp : p.In) (hb : p.bad = 0) {a n : Nat} (ha : a ≤ p.b.length) : (seg p a n).In := by
  have hR := (Ip.right_iff p).1 hb
  have h0 := hR.off0
  have h1 := hR.far
  refine ⟨hp.tos, hp.id, ?_, hp.ttl, hp.proto, hp.src, hp.dst, ?_⟩
  · show -9223372036854775808 ≤ p.off + (a : Int) ∧ p.off + (a : Int) ≤ 9223372036854775807
    omega
  · have := hp.b
    rw [seg_len]
    omega
theorem splitL_in {p : Ip} {mtu : Int} (hp : p.In) (hc : splitC p mtu = 0) {x : Ip} (hx : x ∈ splitL p mtu) : x.In ∧ x.b.length ≤ p.b.length := by
  obtain ⟨hm, hb⟩ := splitC_ok hc
  unfold splitL at hx
  split at hx
  · rw [List.mem_singleton.1 hx]
    exact ⟨hp, Nat.le_refl _⟩
  · unfold cuts at hx
    obtain ⟨i, hi, rfl⟩ := List.mem_map.1 hx
    have h1 := (cntOf_iff (L := p.b.length) (by have := szOf_facts hm; omega)).1 (List.mem_range.1 hi)
    exact ⟨seg_in hp hb (by omega), by rw [seg_len]; omega⟩
/-- The packets, one by one. -/
theorem Pk2.at {w0 W : World} {A : Option Addr} {n c : Nat} {l : List Pv} (h : Pk2 w0 W (.slice A n c) l) {k : Nat} {x : Pv} (hk : l[k]? = some x) : ∃ g, A = some ⟨g, 0, none⟩ ∧ Pv.At W g (0 + k * 10) x := by
  rcases h.row.2 with ⟨_, h0⟩ | ⟨g, cap, cur, e, _, hg, h1, _, h3, h4⟩
  · have := (List.getElem?_eq_some_iff.1 hk).1
    omega
  · cases e
    have hkl := (List.getElem?_eq_some_iff.1 hk).1
    have hcell : ∀ j u, j < 10 → x.row[j]? = some u → W.cell? ⟨g, 0 + k * 10 + j, none⟩ = some u := fun j u hj hu => by
      rw [cell_of_row W g _ _ _ _ hg, Nat.zero_add, ← Array.getElem?_toList, ← hu, ← pvs_get l k j x hk hj, ← h4, List.getElem?_take_of_lt (by omega)]
    exact ⟨g, rfl, ⟨hcell 0 _ (by omega) rfl, hcell 1 _ (by omega) rfl, hcell 2 _ (by omega) rfl, hcell 3 _ (by omega) rfl, hcell 4 _ (by omega) rfl, hcell 5 _ (by omega) rfl, hcell 6 _ (by omega) rfl, hcell 7 _ (by omega) rfl, hcell 8 _ (by omega) rfl, hcell 9 _ (by omega) rfl⟩⟩
theorem Pk2.lenc {w0 W : World} {A : Option Addr} {n c : Nat} {l : List Pv} (h : Pk2 w0 W (.slice A n c) l) : l.length ≤ c ∧ c ≤ 9223372036854775807 := by
  rcases h.row.2 with ⟨e, h0⟩ | ⟨g, cap, cur, e, _, hg, h1, h2, _⟩
  · cases e
    exact ⟨by omega, by omega⟩
  · cases e
    exact ⟨h1, by simp only [maxLen] at h2; omega⟩
theorem SplitVal2.val {p : Ip} {mtu : Int} {w w' : World} {e : Ending} (h : SplitVal2 p mtu w e w') (hp : p.In) (hf : p.b.length ≤ 2000) : SplitVal p mtu w e w' := by
  obtain ⟨l, A, c, ev, rfl, hE, hm, hPk⟩ := h
  obtain ⟨h1, h2⟩ := hPk.lenc
  refine ⟨l, A, c, ev, rfl, h1, h2, hE, hm, fun k x hk => ?_, hPk.base⟩
  obtain ⟨g, rfl, hat⟩ := hPk.at hk
  have hx := hPk.own x (List.mem_of_getElem? hk)
  have hin : x.p.In ∧ x.p.b.length ≤ p.b.length := by
    have hmem : x.p ∈ l.map Pv.p := List.mem_map.2 ⟨x, List.mem_of_getElem? hk, rfl⟩
    rw [hm] at hmem
    by_cases hc : splitC p mtu = 0
    · rw [if_pos hc] at hmem
      exact splitL_in hp hc hmem
    · rw [if_neg hc] at hmem
      cases hmem
  obtain ⟨A', c', e, _, h4, _⟩ := own_shape hx
  have hc' : x.c = c' := by
    have : Value.slice x.B x.p.b.length x.c = .slice A' x.p.b.length c' := e
    simp only [Value.slice.injEq] at this
    exact this.2.2
  exact ⟨g, 0, rfl, hat, ⟨hin.1, by omega, by rw [hc']; exact h4, own_rd hx⟩⟩
theorem split_ok : SpOk := fun p A c mtu w hp hf hc h0 h1 hr => (fsplit_any p A c mtu w hp hf hc h0 h1 hr).mono fun _ _ h => h.val hp hf
end Go.Proofs.YtdmogppkambgaaaDoor
namespace Go.Proofs.YtdmogppkambgaaaDoor
open Go.RowKit

/-- The packet that 'shown' splits, and its parts. -/
def shP : Ip := ⟨0, 7, false, false, 0, 0, 17, 0, 0, List.replicate 100 0⟩
def shPd : Ip := { shP with df := true }
def shL : List Ip := [seg shP 0 48, seg shP 48 48, seg shP 96 48]
theorem shP_in : shP.In := ⟨by decide, by decide, by decide, by decide, by decide, by decide, by decide, by decide⟩
theorem shPd_in : shPd.In := ⟨by decide, by decide, by decide, by decide, by decide, by decide, by decide, by decide⟩
theorem shP_len : shP.b.length = 100 := rfl
theorem shP_bad : shP.bad = 0 := by decide
theorem shP_split : splitC shP 68 = 0 ∧ splitIn shP 68 = false ∧ splitL shP 68 = shL := ⟨by decide, by decide, rfl⟩
theorem shP_67 : splitC shP 67 = 1 ∧ splitIn shP 67 = false := ⟨by decide, by decide⟩
theorem shPd_119 : splitC shPd 119 = 7 ∧ splitIn shPd 119 = false := ⟨by decide, by decide⟩
theorem shL_tile : Tile shP 0 shL := by
  rw [← shP_split.2.2]
  exact splitL_tile shP (by omega) (by decide)
theorem shL_bad : ∀ x ∈ shL, x.bad = 0 := by decide
theorem shL_in : ∀ x ∈ shL, x.In ∧ x.b.length ≤ 2000 := fun x hx => by
  have h := splitL_in shP_in shP_split.1 (x := x) (by rw [shP_split.2.2]; exact hx)
  exact ⟨h.1, Nat.le_trans h.2 (by decide)⟩
theorem shL_ne : seg shP 0 48 ≠ seg shP 48 48 ∧ seg shP 0 48 ≠ seg shP 96 48 ∧ seg shP 48 48 ≠ seg shP 96 48 := by
  refine ⟨fun e => ?_, fun e => ?_, fun e => ?_⟩
  · have := congrArg Ip.off e
    revert this
    decide
  · have := congrArg Ip.off e
    revert this
    decide
  · have := congrArg Ip.off e
    revert this
    decide
section
variable {R : World → Nat → (Nat → Prop) → Int → List Hp → Prop} {w W : World} {r : Nat} {S : List Hp}
/-- A part that is not the last one that is wanting. -/
theorem sh_wait (X : FgOk R) {K : Nat → Prop} (h : Fx R w K W r 5 S) {seen : List Ip} {t0 now : Int} (hH : HeapIs S shP.key4 t0 seen) (hl : S.length = if seen = [] then 0 else 1) (hs : ∀ x ∈ seen, x ∈ shL) {t : Ip} (ht : t ∈ shL) (hw : ∃ x ∈ shL, ¬ (x ∈ seen ∨ x = t)) (hn : seen = [] → now = t0) (hnw : UW now)
    {B : Option Addr} {c : Nat} (hc : c ≤ 9223372036854775807) (hr0 : Rd w (.slice B t.b.length c) t.b) :
    Calls Tryd.prog 21 #[.pointer (some ⟨r, 0, none⟩), t.val (.slice B t.b.length c), .int .u64 now] W fun e w' => ∃ S' B' d, e = .returned (.tuple #[.agg #[.int .u8 0, .int .u16 0, .bool false, .bool false, .int .i64 0, .int .u8 0, .int .u8 0, .int .u32 0, .int .u32 0, .slice B' 0 d], .bool false, .nilIface]) ∧ Fx R w K w' r 5 S' ∧ HeapIs S' shP.key4 t0 (seen ++ [t]) ∧ S'.length = 1 ∧ ∀ k, K k → w'.heap[k]? = W.heap[k]? := by
  obtain ⟨hin, hfew⟩ := shL_in t ht
  refine (h.take X hin hfew hnw hc (hr0.below h.base) (fun hb a ha => .inl (rd_old hr0 hb a ha))).mono ?_
  rintro e w' ⟨S', o, n, b, hT, ⟨B', d, ev, rfl, _, hE⟩, hF, hK⟩
  have h1 : S.length < 8 := by rw [hl]; split <;> omega
  obtain ⟨rfl, rfl, rfl, h2, h3⟩ := (take_tile rfl rfl (by decide) shL_tile (by decide) shL_bad (h.un X).1 h1 hH hs ht hn hT).2 hw
  obtain rfl : ev = .nilIface := by
    rcases hE with ⟨_, h⟩ | ⟨h, _⟩
    · exact h
    · exact absurd rfl h
  refine ⟨S', B', d, rfl, hF, h2, ?_, hK⟩
  rw [h3, hl]
  split <;> rfl
/-- The last one that was wanting. -/
theorem sh_whole (X : FgOk R) (h : Fx R w (fun _ => False) W r 5 S) {seen : List Ip} {t0 now : Int} (hH : HeapIs S shP.key4 t0 seen) (hl : S.length = 1) (hse : seen ≠ []) (hs : ∀ x ∈ seen, x ∈ shL) {t : Ip} (ht : t ∈ shL) (hw : ∀ x ∈ shL, x ∈ seen ∨ x = t) (hnw : UW now)
    {B : Option Addr} {c : Nat} (hc : c ≤ 9223372036854775807) (hr0 : Rd w (.slice B t.b.length c) t.b) :
    Calls Tryd.prog 21 #[.pointer (some ⟨r, 0, none⟩), t.val (.slice B t.b.length c), .int .u64 now] W fun e w' => ∃ B' d, e = .returned (.tuple #[.agg #[.int .u8 0, .int .u16 7, .bool false, .bool false, .int .i64 0, .int .u8 0, .int .u8 17, .int .u32 0, .int .u32 0, .slice B' 100 d], .bool true, .nilIface]) ∧ Fx R w (fun _ => False) w' r 5 [] := by
  obtain ⟨hin, hfew⟩ := shL_in t ht
  refine (h.take X hin hfew hnw hc (hr0.below h.base) (fun hb a ha => .inl (rd_old hr0 hb a ha))).mono ?_
  rintro e w' ⟨S', o, n, b, hT, ⟨B', d, ev, rfl, _, hE⟩, hF, _⟩
  obtain ⟨rfl, rfl, rfl, _, h3⟩ := (take_tile rfl rfl (by decide) shL_tile (by decide) shL_bad (h.un X).1 (by omega) hH hs ht (fun e => absurd e hse) hT).1 hw
  obtain rfl : ev = .nilIface := by
    rcases hE with ⟨_, h⟩ | ⟨h, _⟩
    · exact h
    · exact absurd rfl h
  rw [if_neg hse, hl] at h3
  obtain rfl : S' = [] := List.length_eq_zero_iff.1 (by omega)
  exact ⟨B', d, rfl, hF⟩
end
theorem three {l : List Pv} {a b c : Ip} (h : l.map Pv.p = [a, b, c]) : ∃ x0 x1 x2, l = [x0, x1, x2] ∧ x0.p = a ∧ x1.p = b ∧ x2.p = c := by
  match l, h with
  | [x0, x1, x2], h =>
    simp at h
    exact ⟨x0, x1, x2, rfl, h⟩
theorem at_0 {W : World} {g : Nat} {x : Pv} (h : Pv.At W g (0 + 0 * 10) x) : W.cell? ⟨g, 0, none⟩ = some (.int .u8 x.p.tos) ∧ W.cell? ⟨g, 1, none⟩ = some (.int .u16 x.p.id) ∧ W.cell? ⟨g, 2, none⟩ = some (.bool x.p.df) ∧ W.cell? ⟨g, 3, none⟩ = some (.bool x.p.mf) ∧ W.cell? ⟨g, 4, none⟩ = some (.int .i64 x.p.off) ∧ W.cell? ⟨g, 5, none⟩ = some (.int .u8 x.p.ttl) ∧ W.cell? ⟨g, 6, none⟩ = some (.int .u8 x.p.proto) ∧ W.cell? ⟨g, 7, none⟩ = some (.int .u32 x.p.src) ∧ W.cell? ⟨g, 8, none⟩ = some (.int .u32 x.p.dst) ∧ W.cell? ⟨g, 9, none⟩ = some (.slice x.B x.p.b.length x.c) := ⟨h.c0, h.c1, h.c2, h.c3, h.c4, h.c5, h.c6, h.c7, h.c8, h.c9⟩
theorem at_1 {W : World} {g : Nat} {x : Pv} (h : Pv.At W g (0 + 1 * 10) x) : W.cell? ⟨g, 10, none⟩ = some (.int .u8 x.p.tos) ∧ W.cell? ⟨g, 11, none⟩ = some (.int .u16 x.p.id) ∧ W.cell? ⟨g, 12, none⟩ = some (.bool x.p.df) ∧ W.cell? ⟨g, 13, none⟩ = some (.bool x.p.mf) ∧ W.cell? ⟨g, 14, none⟩ = some (.int .i64 x.p.off) ∧ W.cell? ⟨g, 15, none⟩ = some (.int .u8 x.p.ttl) ∧ W.cell? ⟨g, 16, none⟩ = some (.int .u8 x.p.proto) ∧ W.cell? ⟨g, 17, none⟩ = some (.int .u32 x.p.src) ∧ W.cell? ⟨g, 18, none⟩ = some (.int .u32 x.p.dst) ∧ W.cell? ⟨g, 19, none⟩ = some (.slice x.B x.p.b.length x.c) := ⟨h.c0, h.c1, h.c2, h.c3, h.c4, h.c5, h.c6, h.c7, h.c8, h.c9⟩
theorem at_2 {W : World} {g : Nat} {x : Pv} (h : Pv.At W g (0 + 2 * 10) x) : W.cell? ⟨g, 20, none⟩ = some (.int .u8 x.p.tos) ∧ W.cell? ⟨g, 21, none⟩ = some (.int .u16 x.p.id) ∧ W.cell? ⟨g, 22, none⟩ = some (.bool x.p.df) ∧ W.cell? ⟨g, 23, none⟩ = some (.bool x.p.mf) ∧ W.cell? ⟨g, 24, none⟩ = some (.int .i64 x.p.off) ∧ W.cell? ⟨g, 25, none⟩ = some (.int .u8 x.p.ttl) ∧ W.cell? ⟨g, 26, none⟩ = some (.int .u8 x.p.proto) ∧ W.cell? ⟨g, 27, none⟩ = some (.int .u32 x.p.src) ∧ W.cell? ⟨g, 28, none⟩ = some (.int .u32 x.p.dst) ∧ W.cell? ⟨g, 29, none⟩ = some (.slice x.B x.p.b.length x.c) := ⟨h.c0, h.c1, h.c2, h.c3, h.c4, h.c5, h.c6, h.c7, h.c8, h.c9⟩
theorem pv_val (x : Pv) : x.p.val x.sl = .agg #[.int .u8 x.p.tos, .int .u16 x.p.id, .bool x.p.df, .bool x.p.mf, .int .i64 x.p.off, .int .u8 x.p.ttl, .int .u8 x.p.proto, .int .u32 x.p.src, .int .u32 x.p.dst, .slice x.B x.p.b.length x.c] := rfl

theorem IpAt.set2 {W : World} {G : Nat} {d : Ip} {bv : Value} (h : IpAt W G d bv) (v : Bool) : IpAt (W.setCell ⟨G, 2, none⟩ (.bool v)) G { d with df := v } bv := by
  have h' : W.heap[G]? = some (d.obj bv) := h
  unfold IpAt
  rw [heap_set, h']
  simp [Ip.obj]
theorem at_set {W : World} {g o : Nat} {x : Pv} (h : Pv.At W g o x) {k : Nat} (hne : g ≠ k) (i : Nat) (v : Value) : Pv.At (W.setCell ⟨k, i, none⟩ v) g o x := by
  have hk : ∀ j u, W.cell? ⟨g, j, none⟩ = some u → (W.setCell ⟨k, i, none⟩ v).cell? ⟨g, j, none⟩ = some u := fun j u hu => (World.cell?_setCell_other _ _ _ _ (fun e => hne (by injection e with h1 h2 h3; first | exact h1 | exact h1.symm))).trans hu
  exact ⟨hk _ _ h.c0, hk _ _ h.c1, hk _ _ h.c2, hk _ _ h.c3, hk _ _ h.c4, hk _ _ h.c5, hk _ _ h.c6, hk _ _ h.c7, hk _ _ h.c8, hk _ _ h.c9⟩
theorem chain_set2 {W : World} {n : Int} (k : Nat) (v : Value) : ∀ {l : List ByteArray} {u : Value}, Chain W n l u → Chain (W.setCell ⟨k, 2, none⟩ v) n l u
  | [], _, h => h
  | _ :: _, _, ⟨b, x, hv, h0, h1, h2⟩ => ⟨b, x, hv, (World.cell?_setCell_other _ _ _ _ (fun e => by injection e with _ h3; exact absurd h3 (by decide))).trans h0, (World.cell?_setCell_other _ _ _ _ (fun e => by injection e with _ h3; exact absurd h3 (by decide))).trans h1, chain_set2 k v h2⟩
theorem ErrIs.set2 {W : World} {c : Nat} {b : Bool} {ev : Value} (h : ErrIs W c b ev) (k : Nat) (v : Value) : ErrIs (W.setCell ⟨k, 2, none⟩ v) c b ev := by
  rcases h with h | ⟨h, x, e, hc⟩
  · exact .inl h
  · exact .inr ⟨h, x, e, chain_set2 k v hc⟩
theorem ErrIs.big {W : World} {c : Nat} {b : Bool} {ev : Value} (h : ErrIs W c b ev) (hc : c ≠ 0) : ∃ x : Nat, ev = .iface 106 (.pointer (some ⟨x, 0, none⟩)) ∧ Chain W c (if b then [fragWord, ipWord] else [fragWord]) (.iface 106 (.pointer (some ⟨x, 0, none⟩))) := by
  rcases h with ⟨h, _⟩ | ⟨_, x, rfl, h⟩
  · exact absurd h hc
  · exact ⟨x, rfl, h⟩
theorem q_cells {W : World} {q d9 : Nat} {B9 : Option Addr} (h : W.heap[q]? = some (.cells #[.int .u8 0, .int .u16 7, .bool false, .bool false, .int .i64 0, .int .u8 0, .int .u8 17, .int .u32 0, .int .u32 0, .slice B9 100 d9] 42 (0, 0))) : W.cell? ⟨q, 3, none⟩ = some (.bool false) ∧ W.cell? ⟨q, 4, none⟩ = some (.int .i64 0) ∧ W.cell? ⟨q, 9, none⟩ = some (.slice B9 100 d9) :=
  ⟨by rw [cell_of_row W q _ _ _ _ h]; rfl, by rw [cell_of_row W q _ _ _ _ h]; rfl, by rw [cell_of_row W q _ _ _ _ h]; rfl⟩

set_option maxRecDepth 100000 in
set_option maxHeartbeats 4000000 in
theorem fshown_any (w : World) (hv : w.cell? ⟨0, 0, none⟩ = some (.iface 121 (.agg #[.pointer (some ⟨4, 27, none⟩)]))) : Calls Tryd.prog 14 #[] w fun e w' => e = .returned (.bool true) ∧ Below w.heap.size w w' := by
  have X : FgOk Ra := frag_ok
  have XX := Lib.hid X
  have Hv := Lib.hid hv
  obtain ⟨z, hz⟩ : ∃ z, List.replicate 100 (0 : UInt8) = z := ⟨_, rfl⟩
  have hmk : (Instr.makeSlice 23 (.int .i64 100) (.int .i64 100)).run Tryd.prog w = .ok (.slice (some ⟨w.heap.size, 0, none⟩) 100 100) (w.alloc (bytesObj z)) := hz ▸ make_bytes 100 (by decide) w
  have HR0 : Hid (Rd (w.alloc (bytesObj z)) (.slice (some ⟨w.heap.size, 0, none⟩) 100 100) shP.b) := Lib.hid (by
    have h := Rd.of_obj (c := 100) (bytesObj_new w z) (by rw [← hz]; decide)
    have hl : z.length = 100 := by rw [← hz]; rfl
    rw [hl] at h
    have hb : shP.b = z := by rw [← hz]; rfl
    rw [hb]
    exact h)
  have HB0 := Lib.hid (below_al (Below.refl _ w) (bytesObj z))
  clear X hv hz
  go_enter Tryd.func14, Tryd.ntmps14
  have hZ0 : (w.alloc (bytesObj z)).heap.size = w.heap.size + 1 := World.size_alloc ..
  go_upto_region 2 with (refine wpList_store_row rfl 42 (.tmp 1) (.tmp 22) rfl (w.heap.size + 1) #[.int .u8 0, .int .u16 7, .bool false, .bool false, .int .i64 0, .int .u8 0, .int .u8 17, .int .u32 0, .int .u32 0, .slice (some ⟨w.heap.size, 0, none⟩) 100 100] rfl rfl 42 _ (by first | exact heap_alloc_new _ _ | (have h := heap_alloc_new (w.alloc (bytesObj z)) noIpObj; rw [World.size_alloc] at h; exact h)) ipSize rfl (by simp [Value.oneCell']) ?_)
  have HP2 : Hid (IpAt ((w.alloc (bytesObj z)).alloc (.cells #[.int .u8 0, .int .u16 7, .bool false, .bool false, .int .i64 0, .int .u8 0, .int .u8 17, .int .u32 0, .int .u32 0, .slice (some ⟨w.heap.size, 0, none⟩) 100 100] 42)) (w.heap.size + 1) shP (.slice (some ⟨w.heap.size, 0, none⟩) 100 100)) := Lib.hid (by
    have h := IpAt.new (w.alloc (bytesObj z)) shP (.slice (some ⟨w.heap.size, 0, none⟩) 100 100)
    rw [World.size_alloc] at h
    exact h)
  have hBb := below_al (Below.refl _ (w.alloc (bytesObj z))) (.cells #[.int .u8 0, .int .u16 7, .bool false, .bool false, .int .i64 0, .int .u8 0, .int .u8 17, .int .u32 0, .int .u32 0, .slice (some ⟨w.heap.size, 0, none⟩) 100 100] 42)
  have HB2 := Lib.hid (below_to HB0.out hBb HB0.out.size)
  have HR2 := Lib.hid (HR0.out.below hBb)
  generalize (w.alloc (bytesObj z)).alloc (.cells #[.int .u8 0, .int .u16 7, .bool false, .bool false, .int .i64 0, .int .u8 0, .int .u8 17, .int .u32 0, .int .u32 0, .slice (some ⟨w.heap.size, 0, none⟩) 100 100] 42) = w2 at HP2 HB2 HR2 ⊢
  clear hBb hmk HR0 HB0 hZ0
  obtain ⟨Q, hQ⟩ : ∃ Q, w.heap.size = Q := ⟨_, rfl⟩
  have HQ := Lib.hid hQ
  rw [hQ] at HP2 HR2 ⊢
  clear hQ
  have XS : Hid (∀ W, Below w2.heap.size w2 W → ∀ mtu : Int, -9223372036854775808 ≤ mtu → mtu ≤ 9223372036854775807 → Calls Tryd.prog 17 #[.agg #[.int .u8 0, .int .u16 7, .bool false, .bool false, .int .i64 0, .int .u8 0, .int .u8 17, .int .u32 0, .int .u32 0, .slice (some ⟨Q, 0, none⟩) 100 100], .int .i64 mtu] W (SplitVal2 shP mtu W)) := Lib.hid (fun W hW mtu h0 h1 => fsplit_any shP (some ⟨Q, 0, none⟩) 100 mtu W shP_in (by decide) (by omega) h0 h1 (HR2.out.below hW))
  have XS1 := Lib.hid (XS.out w2 (Below.refl _ _) 68 (by omega) (by omega))
  have e0 : w2.cell? ⟨Q + 1, 0, none⟩ = some (.int .u8 0) := HP2.out.cells.1
  have e1 : w2.cell? ⟨Q + 1, 1, none⟩ = some (.int .u16 7) := HP2.out.cells.2.1
  have e2 : w2.cell? ⟨Q + 1, 2, none⟩ = some (.bool false) := HP2.out.cells.2.2.1
  have e3 : w2.cell? ⟨Q + 1, 3, none⟩ = some (.bool false) := HP2.out.cells.2.2.2.1
  have e4 : w2.cell? ⟨Q + 1, 4, none⟩ = some (.int .i64 0) := HP2.out.cells.2.2.2.2.1
  have e5 : w2.cell? ⟨Q + 1, 5, none⟩ = some (.int .u8 0) := HP2.out.cells.2.2.2.2.2.1
  have e6 : w2.cell? ⟨Q + 1, 6, none⟩ = some (.int .u8 17) := HP2.out.cells.2.2.2.2.2.2.1
  have e7 : w2.cell? ⟨Q + 1, 7, none⟩ = some (.int .u32 0) := HP2.out.cells.2.2.2.2.2.2.2.1
  have e8 : w2.cell? ⟨Q + 1, 8, none⟩ = some (.int .u32 0) := HP2.out.cells.2.2.2.2.2.2.2.2.1
  have e9 : w2.cell? ⟨Q + 1, 9, none⟩ = some (.slice (some ⟨Q, 0, none⟩) 100 100) := HP2.out.cells.2.2.2.2.2.2.2.2.2
  go_upto_region 3 with (go_at_call 17; (with_reducible refine XS1.out.mono ?_); rintro e w3 ⟨l, A, c, ev, rfl, hE, hm, hPk⟩; (obtain rfl : ev = .nilIface := by (rcases hE with ⟨_, h⟩ | ⟨h, _⟩; exact h; exact absurd shP_split.1 h)); (rw [if_pos shP_split.1, shP_split.2.2] at hm); (have HM := Lib.hid hm); (have HPk := Lib.hid hPk); (have HB3 := Lib.hid hPk.base); clear hE hm hPk)
  clear e0 e1 e2 e3 e4 e5 e6 e7 e8 e9 XS1
  obtain ⟨x0, x1, x2, rfl, y0, y1, y2⟩ := three HM.out
  obtain ⟨g, rfl, hx0⟩ := HPk.out.at (k := 0) rfl
  obtain ⟨_, e, hx1⟩ := HPk.out.at (k := 1) rfl
  cases e
  obtain ⟨_, e, hx2⟩ := HPk.out.at (k := 2) rfl
  cases e
  have hr0 := own_rd (HPk.out.own x0 (by simp))
  have hr1 := own_rd (HPk.out.own x1 (by simp))
  have hr2 := own_rd (HPk.out.own x2 (by simp))
  have hc : x0.c ≤ 9223372036854775807 ∧ x1.c ≤ 9223372036854775807 ∧ x2.c ≤ 9223372036854775807 := by
    have h1 := fun x (hx : x ∈ [x0, x1, x2]) => own_shape (HPk.out.own x hx)
    have h2 : ∀ x ∈ [x0, x1, x2], x.c ≤ 9223372036854775807 := fun x hx => by
      obtain ⟨A', c', e, _, h3, _⟩ := h1 x hx
      have : Value.slice x.B x.p.b.length x.c = .slice A' x.p.b.length c' := e
      simp only [Value.slice.injEq] at this
      omega
    exact ⟨h2 x0 (by simp), h2 x1 (by simp), h2 x2 (by simp)⟩
  have HN := Lib.hid (Fx.new XX.out (Below.refl w3.heap.size w3) (tm := 5) (by unfold UW; omega))
  go_upto_region 4 with (go_at_call 20; (with_reducible refine HN.out.mono ?_); rintro e w4 ⟨r, rfl, hF⟩; (have F4 := Lib.hid hF); clear hF)
  have HX0 := Lib.hid hx0
  have HX1 := Lib.hid hx1
  have HX2 := Lib.hid hx2
  have HR := Lib.hid (And.intro hr0 (And.intro hr1 hr2))
  have HC := Lib.hid hc
  have HY := Lib.hid (And.intro y0 (And.intro y1 y2))
  have hm0 : x0.p ∈ shL := by rw [y0]; simp [shL]
  have hm1 : x1.p ∈ shL := by rw [y1]; simp [shL]
  have hm2 : x2.p ∈ shL := by rw [y2]; simp [shL]
  have HMm := Lib.hid (And.intro hm0 (And.intro hm1 hm2))
  have hn01 : x0.p ≠ x1.p := by rw [y0, y1]; exact shL_ne.1
  have hn02 : x0.p ≠ x2.p := by rw [y0, y2]; exact shL_ne.2.1
  have hn12 : x1.p ≠ x2.p := by rw [y1, y2]; exact shL_ne.2.2
  have HNe := Lib.hid (And.intro hn01 (And.intro hn02 hn12))
  have hall : ∀ x ∈ shL, x = x0.p ∨ x = x1.p ∨ x = x2.p := by
    intro x hx
    rw [y0, y1, y2]
    simpa [shL] using hx
  have HAll := Lib.hid hall
  clear hx0 hx1 hx2 hr0 hr1 hr2 hc y0 y1 y2 hm0 hm1 hm2 hn01 hn02 hn12 hall HN
  go_upto_region 6 with fail
  have XT := Lib.hid (sh_wait XX.out F4.out (seen := []) (t0 := 1) (now := 1) (.inl ⟨rfl, rfl⟩) rfl (by simp) HMm.out.2.2 ⟨x0.p, HMm.out.1, by simp [HNe.out.2.1]⟩ (fun _ => rfl) (by unfold UW; omega) HC.out.2.2 HR.out.2.2)
  unfold Ip.val Ip.row at XT
  obtain ⟨c0, c1, c2, c3, c4, c5, c6, c7, c8, c9⟩ := at_2 (HX2.out.below F4.out.base)
  go_upto_region 7 with (first
    | (go_at_call 21; (with_reducible refine XT.out.mono ?_); rintro e wa ⟨S5, B5, d5, rfl, hF, hH, hl, _⟩; (have hFa := Lib.hid hF); (have HH5 := Lib.hid hH); (have HL5 := Lib.hid hl); clear hF hH hl)
    | (refine wpList_store_row rfl 42 (.tmp 5) (.tmp 46) rfl wa.heap.size #[.int .u8 0, .int .u16 0, .bool false, .bool false, .int .i64 0, .int .u8 0, .int .u8 0, .int .u32 0, .int .u32 0, .slice B5 0 d5] rfl rfl 42 _ (heap_alloc_new wa _) ipSize rfl (by simp [Value.oneCell']) ?_; rw [setRow_alloc]))
  clear c0 c1 c2 c3 c4 c5 c6 c7 c8 c9 XT
  have hBa := below_al (Below.refl _ wa) (.cells #[.int .u8 0, .int .u16 0, .bool false, .bool false, .int .i64 0, .int .u8 0, .int .u8 0, .int .u32 0, .int .u32 0, .slice B5 0 d5] 42)
  have F5 := Lib.hid (hFa.out.to XX.out hBa)
  have Bx5 := Lib.hid hBa
  generalize wa.alloc (.cells #[.int .u8 0, .int .u16 0, .bool false, .bool false, .int .i64 0, .int .u8 0, .int .u8 0, .int .u32 0, .int .u32 0, .slice B5 0 d5] 42) = w5 at F5 Bx5 ⊢
  clear hBa hFa
  have XT := Lib.hid (sh_wait XX.out F5.out (seen := [x2.p]) (t0 := 1) (now := 1) HH5.out (by rw [HL5.out]; rfl) (by simp [HMm.out.2.2]) HMm.out.2.1 ⟨x0.p, HMm.out.1, by simp [HNe.out.2.1, HNe.out.1]⟩ (fun _ => rfl) (by unfold UW; omega) HC.out.2.1 HR.out.2.1)
  unfold Ip.val Ip.row at XT
  obtain ⟨c0, c1, c2, c3, c4, c5, c6, c7, c8, c9⟩ := at_1 (HX1.out.below F5.out.base)
  go_upto_region 8 with (first
    | (go_at_call 21; (with_reducible refine XT.out.mono ?_); rintro e wa ⟨S6, B6, d6, rfl, hF, hH, hl, _⟩; (have hFa := Lib.hid hF); (have HH6 := Lib.hid hH); (have HL6 := Lib.hid hl); clear hF hH hl)
    | (refine wpList_store_row rfl 42 (.tmp 8) (.tmp 55) rfl wa.heap.size #[.int .u8 0, .int .u16 0, .bool false, .bool false, .int .i64 0, .int .u8 0, .int .u8 0, .int .u32 0, .int .u32 0, .slice B6 0 d6] rfl rfl 42 _ (heap_alloc_new wa _) ipSize rfl (by simp [Value.oneCell']) ?_; rw [setRow_alloc]))
  clear c0 c1 c2 c3 c4 c5 c6 c7 c8 c9 XT
  have hBa := below_al (Below.refl _ wa) (.cells #[.int .u8 0, .int .u16 0, .bool false, .bool false, .int .i64 0, .int .u8 0, .int .u8 0, .int .u32 0, .int .u32 0, .slice B6 0 d6] 42)
  have F6 := Lib.hid (hFa.out.to XX.out hBa)
  have Bx6 := Lib.hid hBa
  generalize wa.alloc (.cells #[.int .u8 0, .int .u16 0, .bool false, .bool false, .int .i64 0, .int .u8 0, .int .u8 0, .int .u32 0, .int .u32 0, .slice B6 0 d6] 42) = w6 at F6 Bx6 ⊢
  clear hBa hFa
  have XL := Lib.hid (F6.out.len XX.out)
  rw [HL6.out] at XL
  go_upto_region 9 with (go_at_call 22; (with_reducible refine XL.out.mono ?_); rintro e w7 ⟨rfl, hw7⟩; subst w7)
  clear XL
  have XT := Lib.hid (sh_whole XX.out F6.out (seen := [x2.p] ++ [x1.p]) (t0 := 1) (now := 1) HH6.out HL6.out (by simp) (by simp [HMm.out.2.2, HMm.out.2.1]) HMm.out.1 (fun x hx => by rcases HAll.out x hx with h | h | h <;> simp [h]) (by unfold UW; omega) HC.out.1 HR.out.1)
  unfold Ip.val Ip.row at XT
  obtain ⟨c0, c1, c2, c3, c4, c5, c6, c7, c8, c9⟩ := at_0 (HX0.out.below F6.out.base)
  go_upto_region 10 with (first
    | (go_at_call 21; (with_reducible refine XT.out.mono ?_); rintro e wa ⟨B9, d9, rfl, hF⟩; (have hFa := Lib.hid hF); clear hF)
    | (refine wpList_store_row rfl 42 (.tmp 12) (.tmp 66) rfl wa.heap.size #[.int .u8 0, .int .u16 7, .bool false, .bool false, .int .i64 0, .int .u8 0, .int .u8 17, .int .u32 0, .int .u32 0, .slice B9 100 d9] rfl rfl 42 _ (heap_alloc_new wa _) ipSize rfl (by simp [Value.oneCell']) ?_; rw [setRow_alloc]))
  clear c0 c1 c2 c3 c4 c5 c6 c7 c8 c9 XT
  have hBa := below_al (Below.refl _ wa) (.cells #[.int .u8 0, .int .u16 7, .bool false, .bool false, .int .i64 0, .int .u8 0, .int .u8 17, .int .u32 0, .int .u32 0, .slice B9 100 d9] 42)
  have F9 := Lib.hid (hFa.out.add XX.out hBa)
  have HQ9 : Hid ((wa.alloc (.cells #[.int .u8 0, .int .u16 7, .bool false, .bool false, .int .i64 0, .int .u8 0, .int .u8 17, .int .u32 0, .int .u32 0, .slice B9 100 d9] 42)).heap[wa.heap.size]? = some (.cells #[.int .u8 0, .int .u16 7, .bool false, .bool false, .int .i64 0, .int .u8 0, .int .u8 17, .int .u32 0, .int .u32 0, .slice B9 100 d9] 42 (0, 0))) := Lib.hid (heap_alloc_new wa _)
  have HS9 := Lib.hid hFa.out.base.size
  generalize wa.alloc (.cells #[.int .u8 0, .int .u16 7, .bool false, .bool false, .int .i64 0, .int .u8 0, .int .u8 17, .int .u32 0, .int .u32 0, .slice B9 100 d9] 42) = w9 at F9 HQ9 ⊢
  obtain ⟨Q9, hQ9⟩ : ∃ Q9, wa.heap.size = Q9 := ⟨_, rfl⟩
  rw [hQ9] at HQ9 HS9 ⊢
  obtain ⟨K9, hK9⟩ : ∃ K9 : Nat → Prop, (fun k => False ∨ (Q9 ≤ k ∧ k < w9.heap.size)) = K9 := ⟨_, rfl⟩
  have hKq : K9 Q9 := by rw [← hK9]; exact .inr ⟨Nat.le_refl _, (Array.getElem?_eq_some_iff.1 HQ9.out).1⟩
  rw [hQ9, hK9] at F9
  have HKq := Lib.hid hKq
  clear hK9 hKq
  clear hBa hFa hQ9 F4 F5 F6 Bx5 Bx6 HH5 HH6 HL5 HL6
  have XT := Lib.hid (sh_wait XX.out F9.out (seen := []) (t0 := 2) (now := 2) (.inl ⟨rfl, rfl⟩) rfl (by simp) HMm.out.2.1 ⟨x0.p, HMm.out.1, by simp [HNe.out.1]⟩ (fun _ => rfl) (by unfold UW; omega) HC.out.2.1 HR.out.2.1)
  unfold Ip.val Ip.row at XT
  obtain ⟨c0, c1, c2, c3, c4, c5, c6, c7, c8, c9⟩ := at_1 (HX1.out.below F9.out.base)
  have HL9 := Lib.hid (Array.getElem?_eq_some_iff.1 HQ9.out).1
  go_upto_region 11 with (go_at_call 21; (with_reducible refine XT.out.mono ?_); rintro e w10 ⟨S10, B10, d10, rfl, hF, hH, hl, hk⟩; (have HQ10 := Lib.hid ((hk Q9 HKq.out).trans HQ9.out)); (obtain ⟨hp, rfl, hpt⟩ := heap_one hH (by simp) hl); (have F10 := Lib.hid hF); (have HPt := Lib.hid hpt); clear hF hH hl hpt hk)
  clear c0 c1 c2 c3 c4 c5 c6 c7 c8 c9 XT
  have XK := Lib.hid (F10.out.tick XX.out (now := 6) (by unfold UW; omega))
  go_upto_region 12 with (go_at_call 37; (with_reducible refine XK.out.mono ?_); rintro e w11 ⟨S11, n11, hT11, rfl, hF, hk⟩; (have HQ11 := Lib.hid ((hk Q9 HKq.out).trans HQ10.out)); (obtain ⟨rfl, rfl⟩ := tick_not hT11 (by have := HPt.out; omega) (by have := HPt.out; omega)); (have F11 := Lib.hid hF); clear hF hT11 hk)
  have XK2 := Lib.hid (F11.out.tick XX.out (now := 7) (by unfold UW; omega))
  clear XK
  go_upto_region 13 with (go_at_call 37; (with_reducible refine XK2.out.mono ?_); rintro e w12 ⟨S12, n12, hT12, rfl, hF, hk⟩; (have HQ12 := Lib.hid ((hk Q9 HKq.out).trans HQ11.out)); (obtain ⟨rfl, rfl⟩ := tick_late hT12 (by have := HPt.out; omega) (by have := HPt.out; omega)); (have F12 := Lib.hid hF); clear hF hT12 hk)
  clear XK2
  have hb312 := F12.out.base
  have hb212 : Below w2.heap.size w2 w12 := below_to HB3.out hb312 HB3.out.size
  have HP12 := Lib.hid (HP2.out.below hb212)
  have HB12 := Lib.hid (below_to HB2.out hb212 HB2.out.size)
  have HR12 := Lib.hid (HR2.out.below hb212)
  have HX12 := Lib.hid (And.intro (HX0.out.below hb312) (HX2.out.below hb312))
  have XS2 := Lib.hid (XS.out w12 hb212 67 (by omega) (by omega))
  have hgp : g ≠ Q + 1 := by
    have h1 := (HPk.out.row.lt g rfl).1
    have h2 := HP2.out.lt
    omega
  have Hgp := Lib.hid hgp
  have hqp : Q9 ≠ Q + 1 := by
    have h1 := HS9.out
    have h2 := HP2.out.lt
    have h3 := HB3.out.size
    omega
  have Hqp := Lib.hid hqp
  clear hb312 hb212 hgp hqp XS F9 F10 F11 F12
  obtain ⟨e0, e1, e2, e3, e4, e5, e6, e7, e8, e9⟩ : w12.cell? ⟨Q + 1, 0, none⟩ = some (.int .u8 0) ∧ w12.cell? ⟨Q + 1, 1, none⟩ = some (.int .u16 7) ∧ w12.cell? ⟨Q + 1, 2, none⟩ = some (.bool false) ∧ w12.cell? ⟨Q + 1, 3, none⟩ = some (.bool false) ∧ w12.cell? ⟨Q + 1, 4, none⟩ = some (.int .i64 0) ∧ w12.cell? ⟨Q + 1, 5, none⟩ = some (.int .u8 0) ∧ w12.cell? ⟨Q + 1, 6, none⟩ = some (.int .u8 17) ∧ w12.cell? ⟨Q + 1, 7, none⟩ = some (.int .u32 0) ∧ w12.cell? ⟨Q + 1, 8, none⟩ = some (.int .u32 0) ∧ w12.cell? ⟨Q + 1, 9, none⟩ = some (.slice (some ⟨Q, 0, none⟩) 100 100) := HP12.out.cells
  go_upto_region 14 with (go_at_call 17; (with_reducible refine XS2.out.mono ?_); rintro e w13 ⟨l13, A13, c13, ev13, rfl, hE, hm, hPk⟩; (rw [if_neg (by rw [shP_67.1]; decide)] at hm); (obtain rfl := List.map_eq_nil_iff.1 hm); (rw [shP_67.1, shP_67.2] at hE); (have HE13 := Lib.hid hE); (have HB13 := Lib.hid hPk.base); clear hE hm hPk)
  clear e0 e1 e2 e3 e4 e5 e6 e7 e8 e9 XS2
  have HP13 := Lib.hid (HP12.out.below HB13.out)
  have HQ13 := Lib.hid (((HB13.out.block Q9 (Array.getElem?_eq_some_iff.1 HQ12.out).1)).trans HQ12.out)
  have HX13 := Lib.hid (And.intro (HX12.out.1.below HB13.out) (HX12.out.2.below HB13.out))
  have HR13 := Lib.hid (HR12.out.below HB13.out)
  have HB13w := Lib.hid (below_to HB12.out HB13.out HB12.out.size)
  have s2 : w13.cell? ⟨Q + 1, 2, none⟩ = some (.bool false) := HP13.out.cells.2.2.1
  have s2f : w13.frozen? ⟨Q + 1, 2, none⟩ = false := HP13.out.free 2
  go_upto_region 15 with fail
  have HP14 : Hid (IpAt (w13.setCell ⟨Q + 1, 2, none⟩ (.bool true)) (Q + 1) shPd (.slice (some ⟨Q, 0, none⟩) 100 100)) := Lib.hid (HP13.out.set2 true)
  have HQ14 : Hid ((w13.setCell ⟨Q + 1, 2, none⟩ (.bool true)).heap[Q9]? = some (.cells #[.int .u8 0, .int .u16 7, .bool false, .bool false, .int .i64 0, .int .u8 0, .int .u8 17, .int .u32 0, .int .u32 0, .slice B9 100 d9] 42 (0, 0))) := Lib.hid ((Below.heap_setCell _ _ _ _ Hqp.out).trans HQ13.out)
  have HX14 : Hid (Pv.At (w13.setCell ⟨Q + 1, 2, none⟩ (.bool true)) g (0 + 0 * 10) x0 ∧ Pv.At (w13.setCell ⟨Q + 1, 2, none⟩ (.bool true)) g (0 + 2 * 10) x2) := Lib.hid ⟨at_set HX13.out.1 Hgp.out 2 _, at_set HX13.out.2 Hgp.out 2 _⟩
  have HR14 : Hid (Rd (w13.setCell ⟨Q + 1, 2, none⟩ (.bool true)) (.slice (some ⟨Q, 0, none⟩) 100 100) shP.b) := Lib.hid (rd_set HR13.out (Nat.ne_of_lt (Nat.lt_succ_self Q)) 2 _)
  have HE14 : Hid (ErrIs (w13.setCell ⟨Q + 1, 2, none⟩ (.bool true)) 1 false ev13) := Lib.hid (HE13.out.set2 (Q + 1) _)
  have HB14 : Hid (Below w.heap.size w (w13.setCell ⟨Q + 1, 2, none⟩ (.bool true))) := Lib.hid (HB13w.out.setCell (show w.heap.size ≤ Q + 1 by rw [HQ.out]; omega) _)
  clear s2 s2f HP13 HQ13 HX13 HR13 HE13 HB13w HB13 HP12 HQ12 HX12 HR12 HB12
  generalize w13.setCell ⟨Q + 1, 2, none⟩ (.bool true) = w14 at HP14 HQ14 HX14 HR14 HE14 HB14 ⊢
  have XS3 : Hid (Calls Tryd.prog 17 #[.agg #[.int .u8 0, .int .u16 7, .bool true, .bool false, .int .i64 0, .int .u8 0, .int .u8 17, .int .u32 0, .int .u32 0, .slice (some ⟨Q, 0, none⟩) 100 100], .int .i64 119] w14 (SplitVal2 shPd 119 w14)) := Lib.hid (fsplit_any shPd (some ⟨Q, 0, none⟩) 100 119 w14 shPd_in (by decide) (by omega) (by omega) (by omega) HR14.out)
  obtain ⟨e0, e1, e2, e3, e4, e5, e6, e7, e8, e9⟩ : w14.cell? ⟨Q + 1, 0, none⟩ = some (.int .u8 0) ∧ w14.cell? ⟨Q + 1, 1, none⟩ = some (.int .u16 7) ∧ w14.cell? ⟨Q + 1, 2, none⟩ = some (.bool true) ∧ w14.cell? ⟨Q + 1, 3, none⟩ = some (.bool false) ∧ w14.cell? ⟨Q + 1, 4, none⟩ = some (.int .i64 0) ∧ w14.cell? ⟨Q + 1, 5, none⟩ = some (.int .u8 0) ∧ w14.cell? ⟨Q + 1, 6, none⟩ = some (.int .u8 17) ∧ w14.cell? ⟨Q + 1, 7, none⟩ = some (.int .u32 0) ∧ w14.cell? ⟨Q + 1, 8, none⟩ = some (.int .u32 0) ∧ w14.cell? ⟨Q + 1, 9, none⟩ = some (.slice (some ⟨Q, 0, none⟩) 100 100) := HP14.out.cells
  go_upto_region 16 with (go_at_call 17; (with_reducible refine XS3.out.mono ?_); rintro e w15 ⟨l15, A15, c15, ev15, rfl, hE, hm, hPk⟩; (rw [if_neg (by rw [shPd_119.1]; decide)] at hm); (obtain rfl := List.map_eq_nil_iff.1 hm); (rw [shPd_119.1, shPd_119.2] at hE); (have HE15 := Lib.hid hE); (have HB15 := Lib.hid hPk.base); clear hE hm hPk)
  clear e0 e1 e2 e3 e4 e5 e6 e7 e8 e9 XS3
  have HQ15 := Lib.hid (((HB15.out.block Q9 (Array.getElem?_eq_some_iff.1 HQ14.out).1)).trans HQ14.out)
  obtain ⟨q3, q4, q9⟩ := q_cells HQ15.out
  obtain ⟨_, _, _, l03, _⟩ := at_0 (HX14.out.1.below HB15.out)
  obtain ⟨_, _, _, l23, l24, _, _, _, _, l29⟩ := at_2 (HX14.out.2.below HB15.out)
  rw [HY.out.1] at l03
  rw [HY.out.2.2] at l23 l24 l29
  have f03 : (seg shP 0 48).mf = true := by decide
  have f23 : (seg shP 96 48).mf = false := by decide
  have f24 : (seg shP 96 48).off = 96 := by decide
  have f29 : (seg shP 96 48).b.length = 4 := by decide
  rw [f03] at l03
  rw [f23] at l23
  rw [f24] at l24
  rw [f29] at l29
  have HE15b := Lib.hid (HE14.out.keep (fun a v hv => (HB15.out.cell (World.block_lt_of_cell? _ _ hv)).trans hv))
  have HB15w := Lib.hid (below_to HB14.out HB15.out HB14.out.size)
  obtain ⟨k13, hk13, hc13⟩ := HE15b.out.big (by decide)
  obtain ⟨k15, hk15, hc15⟩ := HE15.out.big (by decide)
  subst ev13 ev15
  have XC := Lib.hid (code_any 1 _ _ w15 ((HB15w.out.cell (World.block_lt_of_cell? w _ Hv.out)).trans Hv.out) hc13)
  have HC15 := Lib.hid hc15
  clear hc13 hc15 f03 f23 f24 f29
  simp only [List.append_eq, List.cons_append, List.nil_append]
  go_wp2_with (first
    | (go_at_call 35; (with_reducible refine XC.out.mono ?_); rintro e w16 ⟨rfl, hB16⟩; (have HB16 := Lib.hid hB16); (have XT := Lib.hid (told_ip (m := 7) (by omega) (by decide) (HC15.out.below hB16) ⟨#[102, 114, 97, 103, 58, 32, 101, 114, 114, 111, 114, 32, 55]⟩ (by decide))); clear hB16)
    | (go_at_call 19; (with_reducible refine XT.out.mono ?_); rintro e w17 ⟨rfl, hB17⟩; (have HB17 := Lib.hid hB17); clear hB17))
  go_ret
  exact ⟨rfl, below_to (below_to HB15w.out HB16.out HB15w.out.size) HB17.out (below_to HB15w.out HB16.out HB15w.out.size).size⟩
end Go.Proofs.YtdmogppkambgaaaDoor
