/- Generator: ClassKey. -/
import Derived.Test.YtbieiefbgcgogaaDoorStream
import Derived.Test.YtbieiefbgcgogaaDoorPck
namespace Go.Proofs.YtbieiefbgcgogaaDoor
open Go.RowKit

def ClassKeyPost (s K : Nat) (w : World) (e : Ending) (w' : World) : Prop := ∃ r : ByteArray, e = .returned (.string r) ∧ Small r ∧ SB w' s (K + 1) ∧ G w w' (some s)
theorem classKey_c (w : World) (s : Nat) (K : Nat) (hs : SB w s K) (hk : K ≤ 900000000000) :
    Calls Tryd.prog 32 #[.pointer (some ⟨s, 0, none⟩)] w (ClassKeyPost s K w) := by
  go_enter Tryd.func32, Tryd.ntmps32
  go_wp2_with fail
  refine (some_c _ _ _ [⟨#[109, 105, 110, 105]⟩, ⟨#[109, 105, 110, 105]⟩, ⟨#[109, 105, 100, 105]⟩, ⟨#[109, 97, 120, 105]⟩, ⟨#[98, 105, 103]⟩, ⟨#[109, 105, 110, 105]⟩, ⟨#[110, 111, 110, 101]⟩, ⟨#[]⟩, ⟨#[65]⟩] _ _ K (hs.alloc _) (by omega) (by decide) (by decide) (Rd.newAt _ rfl rfl (by decide)) (hs.newAt _ _ _ (Nat.le_refl _))).mono ?_; rintro e w1 ⟨r, rfl, hr, hSB1, hG1⟩
  have hrs := small_pick hr (by decide)
  have hG01 := ((G.refl w (some s)).alloc _).trans hG1
  clear hr
  go_wp2_with fail
  go_ret
  exact ⟨r, rfl, hrs, hSB1, hG01⟩
end Go.Proofs.YtbieiefbgcgogaaDoor
