/-
  What is proved: what Parse and the document's Parse of layer 6 answer of one row of bytes, side by side.
  Conditions: at most three thousand bytes.
-/
import Derived.Test.YtikcnlcpbifobaaDoorURefP
namespace Go.Proofs.YtikcnlcpbifobaaDoor
open Go.RowKit

/-- What both Parses answer of bytes that are no datagram. -/
structure NoDg (ls : List UInt8) (s t : Nat) (m : Nat) (k : List ByteArray) (tx : ByteArray) : Prop where
  num : m < 14
  few : (text m k).size ≤ 1000000000
  said : text m k = tx
  parse : ∀ (A : Option Addr) (cap : Nat) (w : World), Rd w (.slice A ls.length cap) ls → Calls Tryd.prog 9 #[.slice A ls.length cap, .int .u32 (s : Int), .int .u32 (t : Int)] w (ToldErr (.agg noDgRow) m k w)
  ref : ∀ w : World, Calls Tryd.prog 10 #[.string (txt ls), .int .u32 (s : Int), .int .u32 (t : Int)] w (RErr tx w)
/-- What both Parses answer of a datagram's bytes. -/
structure ADg (ls : List UInt8) (s t : Nat) (d : Dg) : Prop where
  inn : d.In
  few : d.b.length ≤ 3000
  parse : ∀ (A : Option Addr) (cap : Nat) (w : World), Rd w (.slice A ls.length cap) ls → Calls Tryd.prog 9 #[.slice A ls.length cap, .int .u32 (s : Int), .int .u32 (t : Int)] w (PDgTold d w)
  ref : ∀ w : World, Calls Tryd.prog 10 #[.string (txt ls), .int .u32 (s : Int), .int .u32 (t : Int)] w (ROk d w)
theorem nodg_of (a : Nat) (ha : a < 65536) (b : Nat) (hb : b < 65536) (n : Nat) (hn : n < 65536) (c : Nat) (hc : c < 65536) (r : List UInt8) (hr : r.length ≤ 2992) (s t : Nat) (m : Nat) (tx : ByteArray) (hcd : ucode s t a b n c r = m) (hm : m ≠ 0) (h14 : m < 14) (hf : (text m [udpWord]).size ≤ 1000000000) (ht : text m [udpWord] = tx)
    (href : ∀ w : World, Calls Tryd.prog 10 #[.string (txt (hd8 a b n c ++ r)), .int .u32 (s : Int), .int .u32 (t : Int)] w (RErr tx w)) : NoDg (hd8 a b n c ++ r) s t m [udpWord] tx := by
  have hl : (hd8 a b n c ++ r).length = 8 + r.length := by rw [List.length_append, hd8_len]
  refine ⟨h14, hf, ht, fun A cap w hrd => ?_, href⟩
  rw [hl] at hrd ⊢
  refine (uParse_long a ha b hb n hn c hc r A cap s t w hrd (by rw [hl]; omega)).mono ?_
  rintro e w' (⟨_, x⟩ | ⟨x, _⟩)
  · rw [hcd] at x
    exact x
  · exact absurd (hcd.symm.trans x) hm
theorem dg_or_none (ls : List UInt8) (hL : ls.length ≤ 3000) (s t : Nat) (hs : s < 4294967296) (ht : t < 4294967296) : (∃ m k tx, NoDg ls s t m k tx) ∨ ∃ d, ADg ls s t d := by
  by_cases h0 : ls.length < 8
  · exact .inl ⟨2, [udpWord, octetsWord], _, by decide, by decide, by decide, fun A cap w hr => uParse_short ls h0 A cap s t w hr, fun w => urefParse_short ls h0 s t w⟩
  · obtain ⟨a, b, n, c, r, ha, hb, hn, hc, rfl⟩ := hd8_split ls (by omega)
    have hl : (hd8 a b n c ++ r).length = 8 + r.length := by rw [List.length_append, hd8_len]
    rw [hl] at hL
    have hr : r.length ≤ 2992 := by omega
    have hL2 : 8 + r.length ≤ 1099511627776 := by omega
    by_cases h1 : n < 8
    · exact .inl ⟨3, _, _, nodg_of a ha b hb n hn c hc r hr s t 3 _ (by unfold ucode; rw [if_pos h1]) (by decide) (by decide) (by decide) (by decide) (urefParse_form a ha b hb n hn c hc r s t h1 hL2)⟩
    · by_cases h2 : 8 + r.length < n
      · exact .inl ⟨2, _, _, nodg_of a ha b hb n hn c hc r hr s t 2 _ (by unfold ucode; rw [if_neg h1, if_pos h2]) (by decide) (by decide) (by decide) (by decide) (urefParse_less a ha b hb n hn c hc r s t (by omega) h2 hL2)⟩
      · have hlen : (r.take (n - 8)).length ≤ 3000 := by rw [List.length_take]; omega
        have good : ucode s t a b n c r = 0 → (∀ w : World, Calls Tryd.prog 10 #[.string (txt (hd8 a b n c ++ r)), .int .u32 (s : Int), .int .u32 (t : Int)] w (ROk ⟨a, b, decide (c = 0), r.take (n - 8)⟩ w)) → ADg (hd8 a b n c ++ r) s t ⟨a, b, decide (c = 0), r.take (n - 8)⟩ := fun hcd href => by
          refine ⟨⟨ha, hb, by show (r.take (n - 8)).length ≤ _; omega⟩, hlen, fun A cap w hrd => ?_, href⟩
          rw [hl] at hrd ⊢
          refine (uParse_long a ha b hb n hn c hc r A cap s t w hrd (by rw [hl]; omega)).mono ?_
          rintro e w' (⟨x, _⟩ | ⟨_, x⟩)
          · exact absurd hcd x
          · exact x
        by_cases h3 : c = 0
        · refine .inr ⟨_, good (by unfold ucode; rw [if_neg h1, if_neg h2, if_neg (by rintro ⟨h, _⟩; exact h h3)]) fun w => ?_⟩
          rw [decide_eq_true h3]
          exact urefParse_plain a ha b hb n hn c hc r s t (by omega) (by omega) h3 hL2 w
        · by_cases h4 : ck (psd s t 17 (n : Nat) ++ (hd8 a b n c ++ r).take n) = 0
          · refine .inr ⟨_, good (by unfold ucode; rw [if_neg h1, if_neg h2, if_neg (by rintro ⟨_, h⟩; exact h h4)]) fun w => ?_⟩
            rw [decide_eq_false h3]
            exact urefParse_ok a ha b hb n hn c hc r s t (by omega) (by omega) h3 hs ht h4 hL2 w
          · exact .inl ⟨4, _, _, nodg_of a ha b hb n hn c hc r hr s t 4 _ (by unfold ucode; rw [if_neg h1, if_neg h2, if_pos ⟨h3, h4⟩]) (by decide) (by decide) (by decide) (by decide) (urefParse_sum a ha b hb n hn c hc r s t (by omega) (by omega) h3 hs ht h4 hL2)⟩
end Go.Proofs.YtikcnlcpbifobaaDoor
