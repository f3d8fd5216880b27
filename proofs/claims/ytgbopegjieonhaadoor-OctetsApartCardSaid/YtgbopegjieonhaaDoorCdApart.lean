/-
  What is proved: OctetsApart' tied card: for any puts and turns the law returns true, and leaves its arguments as they were.
  Conditions: the variable errors.errorType starts as the program's text lays it (the card ties it).
-/
import Derived.Test.YtgbopegjieonhaaDoorBools
import Derived.Test.YtgbopegjieonhaaDoorCards
import Derived.Test.YtgbopegjieonhaaDoorTie
import Derived.SevenTiedAt
namespace Go.Proofs.YtgbopegjieonhaaDoor
open Go

theorem apart_card (hrow : Rows.OctetsApartSaid) : Rows.OctetsApartCardSaid :=
  Claim7.holds_tied_plain_at .later [] [.handle] true _ true
    hrow (fun _ h => by cases h) (by kernel_rfl) (fun _ h => by cases h) octetsApart_row_tie rfl ⟨rfl, rfl⟩ (by kernel_rfl) rfl
    (fun f fn hf hfn => by
      obtain rfl : f = 8 := Option.some.inj ((show Tryd.prog.funcNamed "underpass/underpasslaw01.OctetsApart" = some 8 by kernel_rfl).symm.trans hf) |>.symm
      obtain rfl : fn = Tryd.f8 := (Option.some.inj (Tryd.func8.symm.trans hfn)).symm
      exact ⟨by kernel_rfl, fun j t ht => by
        rw [Tryd.params8] at ht
        rcases j with _ | _ | j
        · have h3 : t = 52 := by simpa using ht.symm
          subst h3
          exact (show Tryd.prog.wantsStandIn 52 = false by kernel_rfl)
        · have h3 : t = 69 := by simpa using ht.symm
          subst h3
          exact (show Tryd.prog.wantsStandIn 69 = false by kernel_rfl)
        · simp at ht⟩)
    (by kernel_rfl)
end Go.Proofs.YtgbopegjieonhaaDoor
