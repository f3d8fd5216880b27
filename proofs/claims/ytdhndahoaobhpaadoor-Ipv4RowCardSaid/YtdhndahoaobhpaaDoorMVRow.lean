/-
  What is proved: a row of packets of the law's own (structs of ten cells), appended to; what the packets are as bytes.
  Conditions: fewer than 2^30 packets.
  What is proved: the row of packets and their bytes of the law Ipv4Row, one packet more; the rest of a slice.
  Conditions: fewer than 2^30 packets.
  What is proved: Ipv4Row of the laws of layer 5 by contract.
  Conditions: errors.errorType holds the handle of the type error; the packets' numbers fit their types; the slices' capacities are ints.
  What is proved: the row and the tied card of Ipv4Row out of its function's contract.
  Conditions: the contract, handed in; the listed package-level variables start as the program's text lays them (the card ties them).
  What is proved: Ipv4Row: for any slice of packets, the law returns true and leaves its arguments as they were (the tied card).
  Conditions: the listed package-level variables start as the program's text lays them (the card ties them).
-/
import Derived.Test.YtdhndahoaobhpaaDoorVPktsArg
import Derived.Test.YtdhndahoaobhpaaDoorVOwn
import Derived.Test.YtdhndahoaobhpaaDoorOwn
import Derived.Test.YtdhndahoaobhpaaDoorVSame
import Derived.Deep.CutBlock
import Derived.Test.YtdhndahoaobhpaaDoorCards
import Derived.Test.YtdhndahoaobhpaaDoorTie
import Derived.SevenTiedAt
namespace Go.Proofs.YtdhndahoaobhpaaDoor
open Go.RowKit

/-- A packet, and its slice. -/
structure PkV where
  p : Ip
  B : Option Addr
  c : Nat
def PkV.cells (p : PkV) : List Value := (p.p.row (.slice p.B p.p.b.length p.c)).toList
structure PkV.Ok (w : World) (p : PkV) : Prop where
  inn : p.p.In
  good : p.p.bad = 0
  few : p.p.b.length ≤ 200
  rd : Rd w (.slice p.B p.p.b.length p.c) p.p.b
theorem PkV.Ok.below {w w' : World} {p : PkV} (h : p.Ok w) (hb : Below w.heap.size w w') : p.Ok w' := ⟨h.inn, h.good, h.few, h.rd.below hb⟩
theorem PkV.len (p : PkV) : p.cells.length = 10 := rfl
/-- All bytes. -/
def pkWire (l : List PkV) : List UInt8 := l.flatMap fun p => p.p.bs
theorem pkWire_append (a b : List PkV) : pkWire (a ++ b) = pkWire a ++ pkWire b := by simp [pkWire]
theorem pkWire_le {w : World} : ∀ {l : List PkV}, (∀ p ∈ l, p.Ok w) → (pkWire l).length ≤ 220 * l.length
  | [], _ => by simp [pkWire]
  | p :: r, h => by
    have h1 := (h p (List.mem_cons_self ..)).few
    have h2 := pkWire_le (l := r) (fun x hx => h x (List.mem_cons_of_mem _ hx))
    have h3 := p.p.bs_len
    simp only [pkWire, List.flatMap_cons, List.length_append, List.length_cons] at h2 ⊢
    omega
theorem pkZero_info : (Tryd.prog.info? 29).map (fun i => (i.zero, i.size, i.bytes)) = some (some (.agg #[.int .u8 0, .int .u16 0, .bool false, .bool false, .int .i64 0, .int .u8 0, .int .u8 0, .int .u32 0, .int .u32 0, .slice none 0 0]), 10, 56) := by kernel_rfl
theorem pk_cells_len (l : List PkV) : (l.flatMap PkV.cells).length = l.length * 10 := by
  induction l with
  | nil => rfl
  | cons p r ih => simp only [List.flatMap_cons, List.length_append, ih, PkV.len, List.length_cons]; omega
theorem pk_one {p : PkV} : ∀ u ∈ p.cells, u.oneCell' = true := by
  intro u hu
  simp only [PkV.cells, Ip.row, List.mem_cons, List.not_mem_nil, or_false] at hu
  rcases hu with rfl | rfl | rfl | rfl | rfl | rfl | rfl | rfl | rfl | rfl <;> rfl
theorem append_pk {W : World} {v : Value} {l : List PkV} (ho : W.ownsRow 0 29 10 v l.length (l.flatMap PkV.cells)) (p : PkV) (A : Addr) (c : Nat) (hx : ∀ j u, p.cells[j]? = some u → W.cell? (A.add j) = some u) (hL : l.length ≤ 1048576) :
    ∃ v' W1, (Builtin.append_ #[22, 22] 22 #[v, .slice (some A) 1 c]).run Tryd.prog W = .ok v' W1 ∧ W1.ownsRow 0 29 10 v' (l ++ [p]).length ((l ++ [p]).flatMap PkV.cells) ∧ W.grownBy W1 v.ownBlock ∧ (v'.ownBlock = v.ownBlock ∨ v'.ownBlock = some W.heap.size) := by
  obtain ⟨i0, hi, hz0, hz1, hz2⟩ := info_parts pkZero_info
  obtain ⟨v', w1, hrun, ho1, hg, _, hat⟩ := run_append_own_at (P := Tryd.prog) W 0 22 22 29 i0 (.agg #[.int .u8 0, .int .u16 0, .bool false, .bool false, .int .i64 0, .int .u8 0, .int .u8 0, .int .u32 0, .int .u32 0, .slice none 0 0]) 10 56 Tryd.underlying22 hi hz0 hz1 hz2 rfl (by omega) v l.length (l.flatMap PkV.cells) ho A 1 c p.cells rfl
    hx (fun u hu => by
      simp only [PkV.cells, Ip.row, List.mem_cons, List.not_mem_nil, or_false] at hu
      rcases hu with rfl | rfl | rfl | rfl | rfl | rfl | rfl | rfl | rfl | rfl <;> rfl) (by simp only [maxLen]; omega) (by omega) (by omega)
  exact ⟨v', w1, hrun, by rw [List.length_append, List.flatMap_append]; simpa using ho1, hg, hat⟩
/-- The cells of a row of packets. -/
theorem pkCell {W : World} {v : Value} {l : List PkV} (ho : W.ownsRow 0 29 10 v l.length (l.flatMap PkV.cells)) {k : Nat} {p : PkV} (hp : l[k]? = some p) :
    ∃ g c, v = .slice (some ⟨g, 0, none⟩) l.length c ∧ l.length ≤ c ∧ ∀ j u, p.cells[j]? = some u → W.cell? ⟨g, k * 10 + j, none⟩ = some u := by
  have hk : k < l.length := (List.getElem?_eq_some_iff.1 hp).1
  have hat : ∀ j u, p.cells[j]? = some u → (l.flatMap PkV.cells)[k * 10 + j]? = some u := by
    have : l = l.take k ++ p :: l.drop (k + 1) := by
      have e : l[k] = p := by rw [List.getElem?_eq_getElem hk] at hp; exact Option.some.inj hp
      rw [← e, ← List.drop_eq_getElem_cons hk, List.take_append_drop]
    intro j u hu
    have hj : j < 10 := (List.getElem?_eq_some_iff.1 hu).1
    rw [this, List.flatMap_append, List.getElem?_append_right (by rw [pk_cells_len, List.length_take]; omega), pk_cells_len, List.length_take, Nat.min_eq_left (by omega), show k * 10 + j - k * 10 = j by omega, List.flatMap_cons, List.getElem?_append_left (by exact hj)]
    exact hu
  rcases ho.2 with ⟨_, hn⟩ | ⟨g, cap, cur, rfl, _, hgg, hnc, _⟩
  · omega
  · refine ⟨g, cap, rfl, hnc, fun j u hu => ?_⟩
    have h := ho.cells (g := g) rfl (k * 10 + j) _ (hat j u hu)
    rw [Addr.add_lit] at h
    simpa using h
end Go.Proofs.YtdhndahoaobhpaaDoor
namespace Go.Proofs.YtdhndahoaobhpaaDoor
open Go.RowKit

/-- The law's own rows: packets, and bytes. -/
structure RowSt (w : World) (v : Value) (g c : Nat) (l : List PkV) (bs : List UInt8) (W : World) : Prop where
  mine : Mine w W g c bs
  own : W.ownsRow 0 29 10 v l.length (l.flatMap PkV.cells)
  new : ∀ h, v.ownBlock = some h → w.heap.size ≤ h ∧ h ≠ g ∧ h < W.heap.size
  ok : ∀ p ∈ l, p.Ok w
section
variable {w W W' : World} {v : Value} {g c : Nat} {l : List PkV} {bs : List UInt8}
theorem RowSt.keepOwn (h : RowSt w v g c l bs W) (hk : ∀ k, v.ownBlock = some k → W'.heap[k]? = W.heap[k]?) : W'.ownsRow 0 29 10 v l.length (l.flatMap PkV.cells) := by
  refine ⟨h.own.1, ?_⟩
  rcases h.own.2 with hn | ⟨g, cap, cur, rfl, hb, hgg, rest⟩
  · exact .inl hn
  · refine .inr ⟨g, cap, cur, rfl, hb, ?_, rest⟩
    rw [hk g rfl]
    exact hgg
theorem RowSt.below (h : RowSt w v g c l bs W) (hb : Below W.heap.size W W') : RowSt w v g c l bs W' :=
  ⟨h.mine.below hb, h.keepOwn fun k hk => hb.block k (h.new k hk).2.2, fun k hk => ⟨(h.new k hk).1, (h.new k hk).2.1, Nat.lt_of_lt_of_le (h.new k hk).2.2 hb.size⟩, h.ok⟩
/-- A write to a block of one's own beside the rows. -/
theorem RowSt.setCell (h : RowSt w v g c l bs W) {b i : Nat} (h1 : w.heap.size ≤ b) (h2 : b ≠ g) (h3 : v.ownBlock ≠ some b) (x : Value) : RowSt w v g c l bs (W.setCell ⟨b, i, none⟩ x) := by
  obtain ⟨cur, e1, e2, e3⟩ := h.mine.row.ex
  refine ⟨⟨⟨⟨cur, ?_, e2, e3⟩, h.mine.row.fits⟩, h.mine.cap, h.mine.new, h.mine.old.setCell (p := ⟨b, i, none⟩) h1 x⟩, h.keepOwn fun k hk => ?_, fun k hk => ?_, h.ok⟩
  · rw [Below.heap_setCell _ _ _ _ (Ne.symm h2)]; exact e1
  · exact Below.heap_setCell _ _ _ _ (fun e => h3 (by rw [hk, e]))
  · rw [World.size_setCell]; exact h.new k hk
/-- A packet more. -/
theorem RowSt.push (h : RowSt w v g c l bs W) (p : PkV) (hp : p.Ok w) (hL : l.length ≤ 1000) :
    ∃ v' y, (Builtin.append_ #[22, 22] 22 #[v, .slice (some ⟨W.heap.size, 0, none⟩) 1 1]).run Tryd.prog (W.alloc (p.p.obj (.slice p.B p.p.b.length p.c))) = .ok v' y ∧ RowSt w v' g c (l ++ [p]) bs y ∧
      (∀ k, k < W.heap.size → v.ownBlock ≠ some k → y.heap[k]? = W.heap[k]?) ∧ W.heap.size ≤ y.heap.size ∧ (v'.ownBlock = v.ownBlock ∨ ∃ j, v'.ownBlock = some j ∧ W.heap.size ≤ j) := by
  have hB : Below W.heap.size W (W.alloc (p.p.obj (.slice p.B p.p.b.length p.c))) := below_al (Below.refl _ _) _
  have h1 := h.below hB
  obtain ⟨v', y, hrun, ho, hg, hat⟩ := append_pk h1.own p ⟨W.heap.size, 0, none⟩ 1 (fun j u hu => by
    have hc := (IpAt.new W p.p (.slice p.B p.p.b.length p.c))
    unfold IpAt Ip.obj at hc
    rw [Addr.add_lit, Nat.zero_add]
    unfold Ip.obj
    rw [cell_of_row _ _ _ _ _ _ hc]
    have e : p.cells[j]? = (p.p.row (.slice p.B p.p.b.length p.c))[j]? := by simp [PkV.cells]
    rw [e] at hu
    exact hu) (by omega)
  have hkeep : ∀ k, k < W.heap.size → v.ownBlock ≠ some k → y.heap[k]? = W.heap[k]? := fun k hk hn => (hg.block k (by rw [World.size_alloc]; omega) (fun e => hn e.symm)).trans (hB.block k hk)
  have hsz : (W.alloc (p.p.obj (.slice p.B p.p.b.length p.c))).heap.size ≤ y.heap.size := hg.size
  rw [World.size_alloc] at hsz
  refine ⟨v', y, hrun, ⟨?_, ho, fun k hk => ?_, fun r hr => ?_⟩, hkeep, by omega, ?_⟩
  · obtain ⟨cur, e1, e2, e3⟩ := h.mine.row.ex
    have hgl := h.mine.row.lt
    have hne : v.ownBlock ≠ some g := fun e => (h.new g e).2.1 rfl
    refine ⟨⟨⟨cur, by rw [hkeep g hgl hne]; exact e1, e2, e3⟩, h.mine.row.fits⟩, h.mine.cap, h.mine.new, ?_⟩
    have hf : Fr (fun a => some a.block = v.ownBlock) (W.alloc (p.p.obj (.slice p.B p.p.b.length p.c))) y :=
      ⟨hg.os, hg.tape, hg.output, hg.size, fun a ha hn => World.cell?_of_block (hg.block a.block ha hn), fun a ha hn => World.frozen?_of_block (hg.block a.block ha hn), fun j hj hn => hg.block j hj (fun e => hn ⟨j, 0, none⟩ e rfl)⟩
    exact below_to h1.mine.old (hf.below (B := w.heap.size) h1.mine.old.size (fun a ha => (h1.new _ ha.symm).1)) (Nat.le_refl _)
  · have hgy : k < y.heap.size := (ho.lt k hk).2
    rcases hat with e | e
    · have := h.new k (by rw [← e]; exact hk)
      exact ⟨this.1, this.2.1, hgy⟩
    · rw [e] at hk
      have hg2 := Option.some.inj hk
      rw [World.size_alloc] at hg2
      have s1 := h.mine.old.size
      have s2 := h.mine.row.lt
      exact ⟨by omega, by omega, hgy⟩
  · rcases List.mem_append.1 hr with hr | hr
    · exact h.ok r hr
    · rw [List.mem_singleton.1 hr]; exact hp
  · rcases hat with e | e
    · exact .inl e
    · exact .inr ⟨_, e, by rw [World.size_alloc]; omega⟩
/-- Bytes more. -/
theorem RowSt.more (h : RowSt w v g c l bs W) (xs : List UInt8) (u : Value) (hx : Rd W u xs) (hL : bs.length + xs.length ≤ 1099511627776) :
    ∃ g' c' y, (Builtin.append_ #[24, 24] 24 #[.slice (some ⟨g, 0, none⟩) bs.length c, u]).run Tryd.prog W = .ok (.slice (some ⟨g', 0, none⟩) (bs ++ xs).length c') y ∧ RowSt w v g' c' l (bs ++ xs) y := by
  obtain ⟨g', c', y, run, m, hat, hk, hs⟩ := h.mine.append xs u hx hL
  refine ⟨g', c', y, run, m, h.keepOwn fun k hk' => hk k (h.new k hk').2.2 (h.new k hk').2.1, fun k hk' => ?_, h.ok⟩
  obtain ⟨n1, n2, n3⟩ := h.new k hk'
  refine ⟨n1, ?_, by omega⟩
  rcases hat with e | e
  · rw [e]; exact n2
  · rw [e]; omega
end
/-- The rest of a slice. -/
theorem Rd.tail {W : World} {A : Option Addr} {n c K : Nat} {bs : List UInt8} (h : Rd W (.slice A n c) bs) (hK : K ≤ n) (h0 : 0 < n) : ∃ g o, A = some ⟨g, o, none⟩ ∧ Rd W (.slice (if c = K then some ⟨g, o, none⟩ else some ⟨g, o + K, none⟩) (n - K) (c - K)) (bs.drop K) := by
  obtain ⟨A', c', e, hc, hi⟩ := h
  cases e
  obtain ⟨g, o, rfl, hi2⟩ := hi h0
  refine ⟨g, o, rfl, _, c - K, by rw [List.length_drop], by rw [List.length_drop]; omega, fun h1 => ?_⟩
  rw [List.length_drop] at h1
  refine ⟨g, o + K, by rw [if_neg (by omega)], fun i u hu => ?_⟩
  rw [List.getElem?_drop] at hu
  rw [Nat.add_assoc]
  exact hi2 (K + i) u hu
end Go.Proofs.YtdhndahoaobhpaaDoor
namespace Go.Proofs.YtdhndahoaobhpaaDoor
open Go.RowKit

theorem IpAt.set9 {W : World} {G : Nat} {d : Ip} {bv : Value} (h : IpAt W G d bv) (v : Value) : IpAt (W.setCell ⟨G, 9, none⟩ v) G d v := by
  have h' : W.heap[G]? = some (d.obj bv) := h
  unfold IpAt
  rw [heap_set, h']
  simp [Ip.obj]
/-- A packet cut at two hundred bytes. -/
def Ip.few3 (d : Ip) : Ip := { d with b := d.b.take 200 }
theorem Ip.few3_len (d : Ip) : d.few3.b.length = min d.b.length 200 := by show (d.b.take 200).length = _; rw [List.length_take]; omega
theorem pk_drop {l : List PkV} {k : Nat} (h : k < l.length) : pkWire (l.drop k) = l[k].p.bs ++ pkWire (l.drop (k + 1)) := by
  unfold pkWire
  rw [List.drop_eq_getElem_cons h, List.flatMap_cons]
set_option maxRecDepth 100000 in
set_option maxHeartbeats 8000000 in
theorem ipv4Row_any (A : Option Addr) (M c : Nat) (w : World) (hg : Hdl w) (hp : PktsAt w A M) (_hM : M ≤ c) (_hc : c ≤ 9223372036854775807) :
    Calls Tryd.prog 3 #[.slice A M c] w fun e w' => e = .returned (.bool true) ∧ Below w.heap.size w w' := by
  have HP := Lib.hid hp
  have HG := Lib.hid hg
  clear hp hg
  go_enter Tryd.func3, Tryd.ntmps3
  go_wp2_with fail
  refine (vShown_any w HG.out).mono ?_
  rintro e w0 ⟨rfl, hb0⟩
  have R0 : Hid (RowSt w (.slice none 0 0) w0.heap.size 0 [] [] (w0.alloc (.cells #[] 5))) := ⟨Mine.first hb0, World.ownsRow_nil _ _ _ _, by simp [Value.ownBlock], by simp⟩
  clear hb0
  go_upto_block 0 with (fail)
  generalize w0.alloc (.cells #[] 5) = w1 at *
  generalize w0.heap.size = g0 at *
  go_cut [4, 5] (fun v a wx => ∃ (l : List PkV) (g c : Nat), l.length ≤ 6 ∧ a = .slice (some ⟨g, 0, none⟩) (pkWire l).length c ∧ RowSt w v g c l (pkWire l) wx)
  case first =>
   go_wp2_with fail
   go_loopw [4, 5, 6] (fun v a i wr => ∃ (k : Nat) (l : List PkV) (g c : Nat), k ≤ 6 ∧ l.length ≤ k ∧ i = .int .i64 (k : Int) ∧ a = .slice (some ⟨g, 0, none⟩) (pkWire l).length c ∧ RowSt w v g c l (pkWire l) wr) (fun _ _ i _ => 6 - (intOf i).toNat)
   case atStart => exact ⟨0, [], g0, 0, by omega, by simp, rfl, rfl, R0.out⟩
   case round =>
     clear R0
     obtain ⟨k, l, g, ca, hk, hl, rfl, rfl, hst⟩ := hrel
     have ST := Lib.hid hst
     clear hst
     by_cases hlt : k < M ∧ k < 6
     · obtain ⟨hlt1, hlt2⟩ := hlt
       obtain ⟨gP, oP, p, B, cb, hA, hcells, hcb, hrd, hfit⟩ := HP.out k hlt1
       subst hA
       have hcw : ∀ j u, (p.row (.slice B p.b.length cb)).toList[j]? = some u → wr.cell? ⟨gP, oP + k * 10 + j, none⟩ = some u := fun j u h => (ST.out.mine.old.cell (World.block_lt_of_cell? w _ (hcells j u h))).trans (hcells j u h)
       have k0 : wr.cell? ⟨gP, oP + k * 10, none⟩ = some (.int .u8 p.tos) := hcw 0 _ rfl
       have k1 : wr.cell? ⟨gP, oP + k * 10 + 1, none⟩ = some (.int .u16 p.id) := hcw 1 _ rfl
       have k2 : wr.cell? ⟨gP, oP + k * 10 + 2, none⟩ = some (.bool p.df) := hcw 2 _ rfl
       have k3 : wr.cell? ⟨gP, oP + k * 10 + 3, none⟩ = some (.bool p.mf) := hcw 3 _ rfl
       have k4 : wr.cell? ⟨gP, oP + k * 10 + 4, none⟩ = some (.int .i64 p.off) := hcw 4 _ rfl
       have k5 : wr.cell? ⟨gP, oP + k * 10 + 5, none⟩ = some (.int .u8 p.ttl) := hcw 5 _ rfl
       have k6 : wr.cell? ⟨gP, oP + k * 10 + 6, none⟩ = some (.int .u8 p.proto) := hcw 6 _ rfl
       have k7 : wr.cell? ⟨gP, oP + k * 10 + 7, none⟩ = some (.int .u32 p.src) := hcw 7 _ rfl
       have k8 : wr.cell? ⟨gP, oP + k * 10 + 8, none⟩ = some (.int .u32 p.dst) := hcw 8 _ rfl
       have k9 : wr.cell? ⟨gP, oP + k * 10 + 9, none⟩ = some (.slice B p.b.length cb) := hcw 9 _ rfl
       have HRD := Lib.hid hrd
       have HFI := Lib.hid hfit
       have HCB := Lib.hid hcb
       have hb2 := below_al (Below.refl wr.heap.size wr) (p.obj (.slice B p.b.length cb))
       have S2 := Lib.hid (ST.out.below hb2)
       have HX2 := Lib.hid (IpAt.new wr p (.slice B p.b.length cb))
       have HNB : Hid (w.heap.size ≤ wr.heap.size ∧ wr.heap.size ≠ g ∧ u4.ownBlock ≠ some wr.heap.size) := ⟨ST.out.mine.old.size, by have := ST.out.mine.row.lt; omega, fun e => by have := (ST.out.new _ e).2.2; omega⟩
       clear hcells hrd hfit hcb hcw hb2 ST
       go_upto_region 8 with fail
       generalize hW2 : wr.alloc (p.obj (.slice B p.b.length cb)) = w2 at *
       unfold Ip.obj at hW2
       (try rw [hW2])
       clear hW2 k0 k1 k2 k3 k4 k5 k6 k7 k8 k9
       generalize wr.heap.size = n2 at *
       obtain ⟨q, hq⟩ : ∃ q : Ip, p.few3 = q := ⟨_, rfl⟩
       have HQ : Hid (q.b.length = min p.b.length 200 ∧ q.b.length ≤ cb ∧ q.b.length ≤ 200) := by
         have e1 := p.few3_len
         rw [hq] at e1
         have e2 : p.b.length ≤ cb := by
           obtain ⟨A', c', e, h, _⟩ := HRD.out
           simp only [Value.slice.injEq] at e
           rw [e.2.2]
           exact h
         show _ ∧ _
         omega
       have HQI : Hid q.In := by rw [← hq]; exact HFI.out.inn _ (by rw [List.length_take]; omega)
       have HQR : Hid (Rd w (.slice B q.b.length cb) q.b) := by rw [← hq]; exact front_any HRD.out 200
       have HQX : Hid (IpAt w2 n2 q (.slice B p.b.length cb)) := by rw [← hq]; exact HX2.out
       obtain ⟨M0, hM0⟩ : ∃ M : Int, ((p.b.length : Nat) : Int) = M := ⟨_, rfl⟩
       obtain ⟨K0, hK0⟩ : ∃ K : Int, ((q.b.length : Nat) : Int) = K := ⟨_, rfl⟩
       have hmin0 : ∀ W, (Builtin.min_ #[3, 3] 3 #[.int .i64 M0, .int .i64 200]).run Tryd.prog W = .ok (.int .i64 K0) W := fun W => min_run (P := Tryd.prog) #[3, 3] 3 M0 200 K0 (by have := HQ.out; omega) W
       have i1 : 0 ≤ K0 := by omega
       have i2 : ¬ K0 < 0 := by omega
       have i3 : K0 ≤ (cb : Int) := by have := HQ.out; omega
       have i4 : K0.toNat = q.b.length := by omega
       have k9 := HX2.out.cells.2.2.2.2.2.2.2.2.2
       have z9 := HX2.out.free 9
       clear hK0
       go_upto_region 9 with fail
       have HX3 : Hid (IpAt (w2.setCell ⟨n2, 9, none⟩ (.slice B q.b.length cb)) n2 q (.slice B q.b.length cb)) := HQX.out.set9 _
       have S3 := Lib.hid (S2.out.setCell (i := 9) HNB.out.1 HNB.out.2.1 HNB.out.2.2 (.slice B q.b.length cb))
       clear hM0 hmin0 i1 i2 i3 i4 k9 z9 HX2 HQX S2 hq HRD HFI HCB
       generalize w2.setCell ⟨n2, 9, none⟩ (.slice B q.b.length cb) = w3 at *
       obtain ⟨d0, d1, d2, d3, d4, d5, d6, d7, d8, d9⟩ := HX3.out.cells
       by_cases hbad : q.bad = 0
       · have HBAD := Lib.hid hbad
         have HXB := Lib.hid (vBytes_ok q HQI.out hbad B cb w3 (HQR.out.below S3.out.mine.old))
         rw [Ip.val_lit] at HXB
         clear hbad
         go_wp2_with fail
         refine HXB.out.mono ?_
         rintro e w4 ⟨b, rfl, hbn, hy, hl4⟩
         have HY4 := Lib.hid (show BAt w4 b q.bs from hy)
         have S4 := Lib.hid (S3.out.below hl4)
         have HX4 := Lib.hid (HX3.out.below hl4)
         have HBN : Hid (u4.ownBlock ≠ some b) := fun e => by have := (S3.out.new _ e).2.2; omega
         clear hbn hy hl4 HXB S3 HX3 d0 d1 d2 d3 d4 d5 d6 d7 d8 d9
         obtain ⟨d0, d1, d2, d3, d4, d5, d6, d7, d8, d9⟩ := HX4.out.cells
         obtain ⟨v', y, run1, hs5, hkeep, hsz, _⟩ := S4.out.push ⟨q, B, cb⟩ ⟨HQI.out, HBAD.out, HQ.out.2.2, HQR.out⟩ (by omega)
         have E1 := Lib.hid run1
         have HY5 : Hid (BAt y b q.bs) := (hkeep b HY4.out.lt HBN.out).trans HY4.out
         have hwl : (pkWire l).length ≤ 2000 := by have := pkWire_le hs5.ok; have := pkWire_le S4.out.ok; omega
         have HQL : Hid (q.bs.length = 20 + q.b.length) := q.bs_len
         obtain ⟨g6, c6, w6, run2, hs6⟩ := hs5.more q.bs (.slice (some ⟨b, 0, none⟩) (20 + q.b.length) (20 + q.b.length)) (by rw [← HQL.out]; exact HY5.out.rd) (by have := HQ.out; have := HQL.out; omega)
         have E2 := Lib.hid run2
         have S6 := Lib.hid hs6
         have HLL : Hid (pkWire l ++ q.bs = pkWire (l ++ [⟨q, B, cb⟩])) := by show _ = _; rw [pkWire_append]; simp [pkWire]
         unfold Ip.obj at E1
         clear run1 hs5 hkeep hsz run2 hs6
         go_wp2_with (first
           | (at_builtin; refine wpList_append_eq rfl (.tmp 46) (.tmp 48) 22 rfl _ _ rfl rfl _ _ E1.out ?_)
           | (at_builtin; refine wpList_append_eq rfl (.tmp 50) (.tmp 51) 24 rfl _ _ rfl rfl _ _ E2.out ?_))
         exact ⟨⟨k + 1, l ++ [⟨q, B, cb⟩], g6, c6, by omega, by simp; omega, by go_num, by rw [← HLL.out, List.length_append], by have h := S6.out; rw [HLL.out] at h; exact h⟩, by simp [intOf]; omega⟩
       · have HXB := Lib.hid (vBytes_bad q hbad B cb w3 (by have := HQ.out; omega))
         rw [Ip.val_lit] at HXB
         clear hbad
         go_wp2_with fail
         refine HXB.out.mono ?_
         rintro e w4 ⟨b, rfl, _, hl4⟩
         have S4 := Lib.hid (S3.out.below hl4)
         clear hl4 HXB S3 HX3 d0 d1 d2 d3 d4 d5 d6 d7 d8 d9
         go_wp2_with fail
         exact ⟨⟨k + 1, l, g, ca, by omega, by omega, by go_num, rfl, S4.out⟩, by simp [intOf]; omega⟩
     · have hx : ¬ (k : Int) < (M : Int) ∨ ((k : Int) < (M : Int) ∧ ¬ (k : Int) < 6) := by omega
       rcases hx with h1 | ⟨h1, h2⟩
       all_goals
         go_wp2_with fail
         go_meet
         exact ⟨l, g, ca, by omega, rfl, ST.out⟩
  obtain ⟨l, g, ca, hl6, rfl, hst⟩ := hcut
  have ST := Lib.hid hst
  clear hst R0
  generalize wc = w2 at *
  go_upto_region 13 with fail
  obtain ⟨OA, oc, rfl⟩ : ∃ OA oc, u4 = .slice OA l.length oc := by
    rcases ST.out.own.2 with ⟨h1, h2⟩ | ⟨g', cap, cur, rfl, _⟩
    · exact ⟨none, 0, by rw [h2]; exact h1⟩
    · exact ⟨_, _, rfl⟩
  go_wp2_with fail
  go_loopw [5, 10] (fun a i wr => ∃ (k : Nat) (A' : Option Addr) (cap : Nat), k ≤ l.length ∧ i = .int .i64 (k : Int) ∧ a = .slice A' (pkWire (l.drop k)).length cap ∧ Rd wr (.slice A' (pkWire (l.drop k)).length cap) (pkWire (l.drop k)) ∧ RowSt w (.slice OA l.length oc) g ca l (pkWire l) wr) (fun _ i _ => l.length - (intOf i).toNat)
  case atStart => exact ⟨0, some ⟨g, 0, none⟩, ca, by omega, rfl, rfl, ST.out.mine.rd, ST.out⟩
  case round =>
    clear ST
    obtain ⟨k, A', cap, hk, rfl, rfl, hrd, hst⟩ := hrel
    have ST := Lib.hid hst
    have hle : (pkWire (l.drop k)).length ≤ 2000 := by
      have e := pkWire_le (w := w) (l := l.drop k) (fun p hp => hst.ok p (List.mem_of_mem_drop hp))
      rw [List.length_drop] at e
      omega
    by_cases hlt : k < l.length
    · have hpk : l[k]? = some l[k] := List.getElem?_eq_getElem hlt
      have hok := hst.ok _ (List.getElem_mem hlt)
      have ed := pk_drop hlt
      obtain ⟨go, oc', ev, _, hcc⟩ := pkCell hst.own hpk
      cases ev
      obtain ⟨rs, hrs⟩ : ∃ rs, pkWire (l.drop (k + 1)) = rs := ⟨_, rfl⟩
      obtain ⟨⟨q, B, cb⟩, hq⟩ : ∃ x, l[k] = x := ⟨_, rfl⟩
      rw [hq] at hok ed hcc
      rw [hrs] at ed
      simp only at ed
      have HOK := Lib.hid hok
      have HRS := Lib.hid hrs
      obtain ⟨N, hN⟩ : ∃ N, (pkWire (l.drop k)).length = N := ⟨_, rfl⟩
      rw [hN] at hrd hle ⊢
      rw [ed] at hrd hN
      have HRD := Lib.hid hrd
      have HN := Lib.hid hN
      have XP := Lib.hid (vParse_of q hok.inn hok.good rs _ wr hrd (by rw [hN]; omega))
      unfold InOk Ip.val Ip.row at XP
      have hkn : (k : Int) < (l.length : Int) := by omega
      have HCC := Lib.hid hcc
      have HKL := Lib.hid hlt
      clear hpk hok ed hrs hq hrd hN hcc hst hlt
      go_wp2_with fail
      refine XP.out.mono ?_
      rintro e w3 ⟨bx, rfl, _, hox, hl⟩
      have hb4 := below_al (Below.refl w3.heap.size w3) (q.obj (.slice (some ⟨bx, 0, none⟩) q.b.length q.b.length))
      have l4 := below_to hl hb4 hl.size
      have HX4 := Lib.hid (IpAt.new w3 q (.slice (some ⟨bx, 0, none⟩) q.b.length q.b.length))
      have HO4 := Lib.hid ((show BAt w3 bx q.b from hox).below hb4)
      have S4 := Lib.hid (ST.out.below l4)
      have HR4 := Lib.hid (HRD.out.below l4)
      have HC4 : Hid (∀ j u, (PkV.cells ⟨q, B, cb⟩)[j]? = some u → (w3.alloc (q.obj (.slice (some ⟨bx, 0, none⟩) q.b.length q.b.length))).cell? ⟨go, k * 10 + j, none⟩ = some u) := fun j u h => (l4.cell (World.block_lt_of_cell? _ _ (HCC.out j u h))).trans (HCC.out j u h)
      clear hox hl hb4 l4 XP HRD HCC ST
      go_upto_region 17 with fail
      generalize hW4 : w3.alloc (q.obj (.slice (some ⟨bx, 0, none⟩) q.b.length q.b.length)) = W4 at *
      unfold Ip.obj at hW4
      (try rw [hW4])
      clear hW4
      generalize w3.heap.size = g4 at *
      have KS : Hid (∀ W, Below W4.heap.size W4 W → (W.cell? ⟨g4, 0, none⟩ = some (.int .u8 q.tos) ∧ W.cell? ⟨g4, 1, none⟩ = some (.int .u16 q.id) ∧ W.cell? ⟨g4, 2, none⟩ = some (.bool q.df) ∧ W.cell? ⟨g4, 3, none⟩ = some (.bool q.mf) ∧ W.cell? ⟨g4, 4, none⟩ = some (.int .i64 q.off) ∧ W.cell? ⟨g4, 5, none⟩ = some (.int .u8 q.ttl) ∧ W.cell? ⟨g4, 6, none⟩ = some (.int .u8 q.proto) ∧ W.cell? ⟨g4, 7, none⟩ = some (.int .u32 q.src) ∧ W.cell? ⟨g4, 8, none⟩ = some (.int .u32 q.dst) ∧ W.cell? ⟨g4, 9, none⟩ = some (.slice (some ⟨bx, 0, none⟩) q.b.length q.b.length)) ∧ W.cell? ⟨go, k * 10, none⟩ = some (.int .u8 q.tos) ∧ W.cell? ⟨go, k * 10 + 1, none⟩ = some (.int .u16 q.id) ∧ W.cell? ⟨go, k * 10 + 2, none⟩ = some (.bool q.df) ∧ W.cell? ⟨go, k * 10 + 3, none⟩ = some (.bool q.mf) ∧ W.cell? ⟨go, k * 10 + 4, none⟩ = some (.int .i64 q.off) ∧ W.cell? ⟨go, k * 10 + 5, none⟩ = some (.int .u8 q.ttl) ∧ W.cell? ⟨go, k * 10 + 6, none⟩ = some (.int .u8 q.proto) ∧ W.cell? ⟨go, k * 10 + 7, none⟩ = some (.int .u32 q.src) ∧ W.cell? ⟨go, k * 10 + 8, none⟩ = some (.int .u32 q.dst) ∧ W.cell? ⟨go, k * 10 + 9, none⟩ = some (.slice B q.b.length cb)) := fun W h => by
        obtain ⟨e0, e1, e2, e3, e4, e5, e6, e7, e8, e9⟩ := (HX4.out.below h).cells
        have hc : ∀ j u, (PkV.cells ⟨q, B, cb⟩)[j]? = some u → W.cell? ⟨go, k * 10 + j, none⟩ = some u := fun j u hu => (h.cell (World.block_lt_of_cell? _ _ (HC4.out j u hu))).trans (HC4.out j u hu)
        exact ⟨⟨e0, e1, e2, e3, e4, e5, e6, e7, e8, e9⟩, hc 0 _ rfl, hc 1 _ rfl, hc 2 _ rfl, hc 3 _ rfl, hc 4 _ rfl, hc 5 _ rfl, hc 6 _ rfl, hc 7 _ rfl, hc 8 _ rfl, hc 9 _ rfl⟩
      have XS : Hid (∀ W, Below W4.heap.size W4 W → Calls Tryd.prog 7 #[.agg #[.int .u8 q.tos, .int .u16 q.id, .bool q.df, .bool q.mf, .int .i64 q.off, .int .u8 q.ttl, .int .u8 q.proto, .int .u32 q.src, .int .u32 q.dst, .slice (some ⟨bx, 0, none⟩) q.b.length q.b.length], .agg #[.int .u8 q.tos, .int .u16 q.id, .bool q.df, .bool q.mf, .int .i64 q.off, .int .u8 q.ttl, .int .u8 q.proto, .int .u32 q.src, .int .u32 q.dst, .slice B q.b.length cb]] W fun e w' => e = .returned (.bool true) ∧ Below W.heap.size W w') := fun W h => by
        have k := same_any q q HOK.out.inn HOK.out.inn (some ⟨bx, 0, none⟩) B q.b.length cb W (HO4.out.below h).rd (HOK.out.rd.below (below_to S4.out.mine.old h S4.out.mine.old.size))
        rw [ipB_same] at k
        exact k
      go_cut [74] (fun s wx => s = .bool false ∧ Below W4.heap.size W4 wx)
      case first =>
        go_region_held_law (fun W => (W.cell? ⟨g4, 0, none⟩ = some (.int .u8 q.tos) ∧ W.cell? ⟨g4, 1, none⟩ = some (.int .u16 q.id) ∧ W.cell? ⟨g4, 2, none⟩ = some (.bool q.df) ∧ W.cell? ⟨g4, 3, none⟩ = some (.bool q.mf) ∧ W.cell? ⟨g4, 4, none⟩ = some (.int .i64 q.off) ∧ W.cell? ⟨g4, 5, none⟩ = some (.int .u8 q.ttl) ∧ W.cell? ⟨g4, 6, none⟩ = some (.int .u8 q.proto) ∧ W.cell? ⟨g4, 7, none⟩ = some (.int .u32 q.src) ∧ W.cell? ⟨g4, 8, none⟩ = some (.int .u32 q.dst) ∧ W.cell? ⟨g4, 9, none⟩ = some (.slice (some ⟨bx, 0, none⟩) q.b.length q.b.length)) ∧ W.cell? ⟨go, k * 10, none⟩ = some (.int .u8 q.tos) ∧ W.cell? ⟨go, k * 10 + 1, none⟩ = some (.int .u16 q.id) ∧ W.cell? ⟨go, k * 10 + 2, none⟩ = some (.bool q.df) ∧ W.cell? ⟨go, k * 10 + 3, none⟩ = some (.bool q.mf) ∧ W.cell? ⟨go, k * 10 + 4, none⟩ = some (.int .i64 q.off) ∧ W.cell? ⟨go, k * 10 + 5, none⟩ = some (.int .u8 q.ttl) ∧ W.cell? ⟨go, k * 10 + 6, none⟩ = some (.int .u8 q.proto) ∧ W.cell? ⟨go, k * 10 + 7, none⟩ = some (.int .u32 q.src) ∧ W.cell? ⟨go, k * 10 + 8, none⟩ = some (.int .u32 q.dst) ∧ W.cell? ⟨go, k * 10 + 9, none⟩ = some (.slice B q.b.length cb))
          (first | assumption | exact KS.out _ (below_drew W4) | exact KS.out _ H1.out)
          (first | (go_at_call 7; (with_reducible refine (XS.out _ (below_drew W4)).mono ?_); rintro e w5 ⟨rfl, hl5⟩; (have H1 := Lib.hid ((below_drew W4).trans hl5)); clear hl5))
        all_goals
          go_wp2_with fail
          go_meet
          exact ⟨rfl, H1.out⟩
      obtain ⟨rfl, hl⟩ := hcut
      have HX5 := Lib.hid (HX4.out.below hl)
      have S5 := Lib.hid (S4.out.below hl)
      have HR5 := Lib.hid (HR4.out.below hl)
      clear hl HX4 HO4 S4 HR4 HC4 KS XS
      generalize wc = w6 at *
      go_upto_region 19 with fail
      obtain ⟨KK, hKK⟩ : ∃ KK, 20 + q.b.length = KK := ⟨_, rfl⟩
      have HQL : Hid (q.bs.length = KK) := by rw [← hKK]; exact q.bs_len
      have hNN : KK ≤ N := by have h := HN.out; rw [List.length_append, HQL.out] at h; omega
      have hN0 : 0 < N := by omega
      obtain ⟨g9, o9, rfl, hrt⟩ := HR5.out.tail hNN hN0
      have hcN : N ≤ cap := by
        obtain ⟨_, _, e, h, _⟩ := HR5.out
        simp only [Value.slice.injEq] at e
        rw [e.2.2, e.2.1]
        exact h
      have hdr : (q.bs ++ rs).drop KK = pkWire (l.drop (k + 1)) := by rw [← HQL.out, List.drop_left, HRS.out]
      have hnl : N - KK = (pkWire (l.drop (k + 1))).length := by have h := HN.out; rw [List.length_append, HQL.out, ← HRS.out] at h; omega
      rw [hdr] at hrt
      have HRT := Lib.hid hrt
      have HNL := Lib.hid hnl
      have hw : IntKind.i64.wrap (20 + (q.b.length : Int)) = (KK : Int) := by rw [IntKind.wrap_i64]; omega
      have s1 : (KK : Int) ≤ (N : Int) := by omega
      have s2 : ¬ (KK : Int) < 0 := by omega
      have HKC : Hid (k < l.length) := HKL.out
      obtain ⟨_, _, _, _, _, _, _, _, _, k9⟩ := HX5.out.cells
      clear hrt hnl hdr hKK
      by_cases hcap : cap = KK
      · rw [if_pos hcap] at HRT
        go_wp2_with fail
        exact ⟨⟨k + 1, some ⟨g9, o9, none⟩, 0, by have := HKC.out; omega, by go_num, by rw [HNL.out], by have h := HRT.out; rw [HNL.out, show cap - KK = 0 by omega] at h; exact h, S5.out⟩, by have := HKC.out; simp [intOf]; omega⟩
      · rw [if_neg hcap] at HRT
        go_wp2_with fail
        exact ⟨⟨k + 1, some ⟨g9, o9 + KK, none⟩, cap - KK, by have := HKC.out; omega, by go_num, by rw [HNL.out], by have h := HRT.out; rw [HNL.out] at h; exact h, S5.out⟩, by have := HKC.out; simp [intOf]; omega⟩
    · have hkL : k = l.length := by omega
      have e0 : pkWire (l.drop k) = [] := by rw [hkL, List.drop_length]; rfl
      rw [e0] at hrd ⊢
      have hkn : ¬ (k : Int) < (l.length : Int) := by omega
      have XP := Lib.hid (vParse_short [] (.slice A' 0 cap) wr hrd (by decide))
      unfold VErr noIpVal at XP
      simp only [List.length_nil] at hrd ⊢
      clear hrd hst e0 hkL hle
      go_wp2_with fail
      refine XP.out.mono ?_
      rintro e w3 ⟨b3, rfl, hc, hl⟩
      have hb4 := below_al (Below.refl w3.heap.size w3) (.cells #[.int .u8 0, .int .u16 0, .bool false, .bool false, .int .i64 0, .int .u8 0, .int .u8 0, .int .u32 0, .int .u32 0, .slice none 0 0] 29)
      have HC4 := Lib.hid (hc.below hb4)
      have HB4 := Lib.hid (below_to ST.out.mine.old (below_to hl hb4 hl.size) ST.out.mine.old.size)
      clear hc hl hb4 XP ST
      go_upto_region 21 with fail
      generalize w3.alloc (.cells #[.int .u8 0, .int .u16 0, .bool false, .bool false, .int .i64 0, .int .u8 0, .int .u8 0, .int .u32 0, .int .u32 0, .slice none 0 0] 29) = W4 at *
      go_wp2_with fail
      refine (code_any 2 _ _ _ (HG.out.below HB4.out) HC4.out).mono ?_
      rintro e w5 ⟨rfl, hl⟩
      have HB5 := Lib.hid (below_to HB4.out hl HB4.out.size)
      clear hl
      go_wp2_with fail
      go_ret
      exact ⟨rfl, HB5.out⟩
end Go.Proofs.YtdhndahoaobhpaaDoor
namespace Go.Proofs.YtdhndahoaobhpaaDoor
open Go Go.ChangeShapes Go.WideShapes Go.RowKit Go.Deep

/-- The contract. -/
def Ipv4RowDoes : Prop := ∀ (A0 : Option Addr) (M0 c0 : Nat) (w : World), Hdl w → PktsAt w A0 M0 → M0 ≤ c0 → c0 ≤ 9223372036854775807 → Calls Tryd.prog 3 #[.slice A0 M0 c0] w fun e w' => e = .returned (.bool true) ∧ Below w.heap.size w w'

set_option maxRecDepth 100000 in
theorem ipv4Row_lifted (hc : Ipv4RowDoes) (os : Os) (started : os.Started) (H : Type) (enc : TypeId × Value → H) :
    ReturnsInHanded {} Tryd.checked os 3 .any (fun w args => (Rows.ipv4RowSpec.pre enc Tryd.prog Tryd.f3 [] false w args ∧ laidMetH Tryd.prog laidList w) ∧ sizedMet enc Tryd.prog Tryd.f3 (OpenSpec.ofChange Rows.ipv4RowSpec) false w args)
      (Rows.ipv4RowSpec.post enc Tryd.prog Tryd.f3 false true false false) := by
  refine returnsInHanded_of_change_and (C := Tryd.checked) (X := fun w _ => laidMetH Tryd.prog laidList w) (fun _ _ _ hh h => h.of_heap hh) ownGodebug started (by kernel_rfl) Tryd.func3
    (ChangeSpec.witness_at (enc := enc) (C := Tryd.checked) (os := os) (X := fun w _ => laidMetH Tryd.prog laidList w) false (laidWorld os) #[.slice none 0 0] 8 rfl (by kernel_rfl) (by kernel_rfl) (by kernel_rfl) (by kernel_rfl) (by kernel_rfl) (laidWorld_met os _)) ?_
  intro W base args ds gs before hval0 hW _ _ hL _
  have hval : ∀ (j : Nat) t v, Tryd.f3.params[j]? = some t → args[j]? = some v → Value.okWide Tryd.prog W .any base t v := hval0
  have hW' := hW
  obtain ⟨p, q, hA0, hV0, rfl, hfz, hnd⟩ := hW
  have hA : DataW.TrodAll enc Tryd.prog W 0 (fun _ => true) true Tryd.f3.params.toList args.toList ds p := hA0
  have hV : DataW.TrodVars enc Tryd.prog W (fun _ => true) [] gs q := hV0
  rw [Tryd.params3] at hA hval
  obtain ⟨v0, vs0, d0, ds0, p0, q0, hargs, rfl, rfl, h0, r0⟩ := trodAll_cons hA
  obtain ⟨rfl, rfl, rfl⟩ := trodAll_nil r0
  obtain rfl : args = #[v0] := by cases args; simpa using hargs
  obtain ⟨rfl, rfl⟩ := trodVars_none hV
  obtain ⟨A0, M0, c0, rfl, a0, b0, e0⟩ := open_pkts (hval 0 22 v0 rfl rfl) h0
  refine (hc A0 M0 c0 W (hdl_of_laid hL) e0 a0 b0).mono fun e W' ⟨he, hb⟩ => ?_
  subst he
  exact ⟨_, rfl, law_post rfl rfl rfl (by rw [Tryd.params3]; intro t ht; simp at ht; (try rcases ht with rfl) <;> (try subst ht) <;> exact ⟨by kernel_rfl, by rw [typesSize]; decide⟩) hW' hb⟩
theorem ipv4Row_row (hc : Ipv4RowDoes) : Rows.Ipv4RowSaid :=
  OpenClaim.holds_of_wide 3 Tryd.f3 rfl rfl rfl rfl rfl rfl rfl ⟨rfl, rfl, rfl, rfl, rfl⟩ rfl rfl rfl rfl rfl (by kernel_rfl) Tryd.func3 (by kernel_rfl)
    (of_decide_eq_true (by kernel_rfl)) (by unfold Func.isWrapper; rw [if_neg (of_decide_eq_false (by kernel_rfl))]; exact ⟨rfl, rfl⟩)
    (fun os started H enc _ => ipv4Row_lifted hc os started H enc)
theorem ipv4Row_card (hrow : Rows.Ipv4RowSaid) : Rows.Ipv4RowCardSaid :=
  Claim7.holds_tied_plain_at .later [] [.handle] true _ true
    hrow (fun _ h => by cases h) (by kernel_rfl) (fun _ h => by cases h) ipv4Row_row_tie rfl ⟨rfl, rfl⟩ (by kernel_rfl) rfl
    (fun f fn hf hfn => by
      obtain rfl : f = 3 := Option.some.inj ((show Tryd.prog.funcNamed "underpass/underpasslaw05.Ipv4Row" = some 3 by kernel_rfl).symm.trans hf) |>.symm
      obtain rfl : fn = Tryd.f3 := (Option.some.inj (Tryd.func3.symm.trans hfn)).symm
      exact ⟨by kernel_rfl, fun j t ht => by
        rw [Tryd.params3] at ht
        rcases j with _ | j
        · have h3 : t = 22 := by simpa using ht.symm
          subst h3
          exact (show Tryd.prog.wantsStandIn 22 = false by kernel_rfl)
        · simp at ht⟩)
    (by kernel_rfl)
end Go.Proofs.YtdhndahoaobhpaaDoor
namespace Go.Proofs.YtdhndahoaobhpaaDoor
theorem ipv4Row_holds : Rows.Ipv4RowCardSaid := ipv4Row_card (ipv4Row_row ipv4Row_any)
end Go.Proofs.YtdhndahoaobhpaaDoor
