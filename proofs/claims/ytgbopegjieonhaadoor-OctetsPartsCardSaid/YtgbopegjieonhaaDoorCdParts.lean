/-
  What is proved: OctetsParts' tied card: for any bytes and sizes the law returns true, and leaves its arguments as they were.
  Conditions: the variable errors.errorType starts as the program's text lays it (the card ties it).
-/
import Derived.Test.YtgbopegjieonhaaDoorPfParts
import Derived.Test.YtgbopegjieonhaaDoorCards
import Derived.Test.YtgbopegjieonhaaDoorTie
import Derived.SevenTiedAt
namespace Go.Proofs.YtgbopegjieonhaaDoor
open Go

theorem parts_card (hrow : Rows.OctetsPartsSaid) : Rows.OctetsPartsCardSaid :=
  Claim7.holds_tied_plain_at .later [] [.handle] true _ true
    hrow (fun _ h => by cases h) (by kernel_rfl) (fun _ h => by cases h) octetsParts_row_tie rfl ⟨rfl, rfl⟩ (by kernel_rfl) rfl
    (fun f fn hf hfn => by
      obtain rfl : f = 6 := Option.some.inj ((show Tryd.prog.funcNamed "underpass/underpasslaw01.OctetsParts" = some 6 by kernel_rfl).symm.trans hf) |>.symm
      obtain rfl : fn = Tryd.f6 := (Option.some.inj (Tryd.func6.symm.trans hfn)).symm
      exact ⟨by kernel_rfl, fun j t ht => by
        rw [Tryd.params6] at ht
        have h3 : t = 22 := by
          rcases j with _ | _ | j <;> simp at ht <;> exact ht.symm
        subst h3
        exact (show Tryd.prog.wantsStandIn 22 = false by kernel_rfl)⟩)
    (by kernel_rfl)
end Go.Proofs.YtgbopegjieonhaaDoor
