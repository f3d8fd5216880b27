/-
  What is proved: words for memory (a frame by cells, bytes that a slice holds), and octets.own: a copy of the bytes in a new block.
  Conditions: the bytes are fewer than 2^40.
-/
import Derived.Test.YtjnhfabgdegngaaDoorText
import Derived.Test.YtjnhfabgdegngaaDoorSMem
import Derived.OwnWalk
import Derived.Laws.CopyOwn
namespace Go.Proofs.YtjnhfabgdegngaaDoor
open Go.RowKit

section
variable {p q : Addr → Prop} {a b c : World}
end

theorem own_any (v : Value) (bs : List UInt8) (w : World) (hr : Rd w v bs) (hn : bs.length ≤ 1099511627776) :
    Calls Tryd.prog 38 #[v] w fun e w' => e = .returned (.slice (some ⟨w.heap.size, 0, none⟩) bs.length bs.length) ∧ w.alloc (bytesObj bs) = w' := by
  obtain ⟨A, c, rfl, hc, hcell⟩ := hr
  have hmk := make_bytes bs.length hn
  have hcp := copy_bytes bs (List.replicate bs.length 0) (by simp) A c bs.length bs.length rfl w hcell
  clear hcell
  go_enter Tryd.func38, Tryd.ntmps38
  go_wp2_with fail
  go_ret
  exact ⟨rfl, rfl⟩
end Go.Proofs.YtjnhfabgdegngaaDoor
