/-
  What is proved: each row of bytes is no ARP packet's, or begins with the bytes of the packet that Parse tells.
  Conditions: at most a hundred bytes.
-/
import Derived.Test.YthinmonahnbkdaaDoorAShown
import Derived.Test.YthinmonahnbkdaaDoorESplit
namespace Go.Proofs.YthinmonahnbkdaaDoor
open Go.RowKit

theorem bytes_split (ls : List UInt8) (h : 28 ≤ ls.length) : ∃ (hd : M6) (p : Pkt) (r : List UInt8), p.In ∧ ls = hd.bs ++ (be2 p.op ++ (p.sha.bs ++ (be4 p.spa ++ (p.tha.bs ++ (be4 p.tpa ++ r))))) := by
  obtain ⟨hd, r1, rfl⟩ := six_of ls (by omega)
  rw [List.length_append, mac_bs_len] at h
  have h1 : 22 ≤ r1.length := by omega
  match r1, h1 with
  | a :: b :: r2, h1 =>
    have h : 20 ≤ r2.length := by simp at h1; omega
    obtain ⟨sha, r3, rfl⟩ := six_of r2 (by omega)
    rw [List.length_append, mac_bs_len] at h
    have h2 : 14 ≤ r3.length := by omega
    match r3, h2 with
    | c0 :: c1 :: c2 :: c3 :: r4, h2 =>
      have h : 10 ≤ r4.length := by simp at h2; omega
      obtain ⟨tha, r5, rfl⟩ := six_of r4 (by omega)
      rw [List.length_append, mac_bs_len] at h
      have h3 : 4 ≤ r5.length := by omega
      match r5, h3 with
      | d0 :: d1 :: d2 :: d3 :: r, _ =>
        have ha := a.toNat_lt
        have hb := b.toNat_lt
        refine ⟨hd, ⟨a.toNat * 256 + b.toNat, sha, n32 c0 c1 c2 c3, tha, n32 d0 d1 d2 d3⟩, r, ⟨by simp only; omega, n32_lt _ _ _ _, n32_lt _ _ _ _⟩, ?_⟩
        simp only [be2_of, be4_of]
        rfl
theorem aParse_kind (ls : List UInt8) (hL : ls.length ≤ 100) :
    (∀ (v : Value) (W : World), Rd W v ls → Calls Tryd.prog 5 #[v] W fun e w' => ∃ n l, PErr n l W e w') ∨
    (∃ p : Pkt, p.In ∧ 28 ≤ ls.length ∧ p.bs = ls.take 28 ∧ ∀ (v : Value) (W : World), Rd W v ls → Calls Tryd.prog 5 #[v] W fun e w' => e = .returned (.tuple #[p.val, .nilIface]) ∧ Below W.heap.size W w') := by
  by_cases hs : ls.length < 28
  · exact .inl fun v W hr => (aParse_short v ls W hr hs).mono fun e w' h => ⟨_, _, h⟩
  · obtain ⟨hd, p, r, hp, e⟩ := bytes_split ls (by omega)
    by_cases h1 : hd.bs = arpHead
    · have e2 : ls = p.bs ++ r := by rw [e, h1]; simp only [Pkt.bs, List.append_assoc]
      by_cases h2 : p.op = 1 ∨ p.op = 2
      · refine .inr ⟨p, hp, by omega, ?_, fun v W hr => ?_⟩
        · rw [e2]
          exact (List.take_left' (Pkt.bs_len p)).symm
        · rw [e2] at hr
          exact aParse_ok v p r W hp h2 (by rw [← e2]; omega) hr
      · refine .inl fun v W hr => ?_
        rw [e2] at hr
        exact (aParse_form v p r W hp (fun h => h2 (.inl h)) (fun h => h2 (.inr h)) (by rw [← e2]; omega) hr).mono fun e w' h => ⟨_, _, h⟩
    · refine .inl fun v W hr => ?_
      rw [e] at hr
      exact (aParse_proto v hd.bs p r W rfl hp h1 (by rw [← e]; omega) hr).mono fun e w' h => ⟨_, _, h⟩
end Go.Proofs.YthinmonahnbkdaaDoor
