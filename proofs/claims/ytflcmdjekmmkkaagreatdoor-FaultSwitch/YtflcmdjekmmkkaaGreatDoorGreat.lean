/-
  The two switches over abilities, at each kind of error.
-/
import Derived.Test.YtflcmdjekmmkkaaGreatDoorAsk
namespace Go.Proofs.YtflcmdjekmmkkaaGreatDoor
open Go.RowKit Go.Shelf
attribute [local go_sem] isNCoded isNLocated isNRaised isNLacking isNUnw isNAsI isNUnws isNNoted isGCoded isGLocated isGRaised isGLacking isGUnw isGAsI isGUnws isGNoted isCCoded isCLocated isCRaised isCLacking isCUnw isCAsI isCUnws isCNoted isLCoded isLLocated isLRaised isLLacking isLUnw isLAsI isLUnws isLNoted isRCoded isRLocated isRRaised isRLacking isRUnw isRAsI isRUnws isRNoted isKCoded isKLocated isKRaised isKLacking isKUnw isKAsI isKUnws isKNoted isHCoded isHLocated isHRaised isHLacking isHUnw isHAsI isHUnws isHNoted toCodedCoded toCodedLocated toCodedRaised toCodedLacking toCodedNoted toLocatedCoded toLocatedLocated toLocatedRaised toLocatedLacking toLocatedNoted toRaisedCoded toRaisedLocated toRaisedRaised toRaisedLacking toRaisedNoted toLackingCoded toLackingLocated toLackingRaised toLackingLacking toLackingNoted toNotedCoded toNotedLocated toNotedRaised toNotedLacking toNotedNoted mNUnwrap mNError mCCode mCError mLCode mLWhere mLError mRCode mRWhere mRSaid mRError mKCode mKWhere mKLacks mKError mGUnwrap mGError mHAs mHUnwrap

theorem greater_nil (w : World) : Calls Tryz.prog 21 #[.nilIface] w fun r w' => r = .returned (.string ⟨#[110, 111, 110, 101]⟩) ∧ w' = w := by
  go_enter Tryz.func21, Tryz.ntmps21
  go_wp2
  go_ret
  exact ⟨rfl, rfl⟩


theorem greater_C (v : Value) (w : World) : Calls Tryz.prog 21 #[.iface 128 v] w fun r w' => r = .returned (.string ⟨#[99, 111, 100, 101, 100]⟩) ∧ w' = w := by
  go_enter Tryz.func21, Tryz.ntmps21
  go_wp2
  go_ret
  exact ⟨rfl, rfl⟩


theorem greater_L (v : Value) (w : World) : Calls Tryz.prog 21 #[.iface 127 v] w fun r w' => r = .returned (.string ⟨#[108, 111, 99, 97, 116, 101, 100]⟩) ∧ w' = w := by
  go_enter Tryz.func21, Tryz.ntmps21
  go_wp2
  go_ret
  exact ⟨rfl, rfl⟩


theorem greater_N (v : Value) (w : World) : Calls Tryz.prog 21 #[.iface 87 v] w fun r w' => r = .returned (.string ⟨#[112, 108, 97, 105, 110]⟩) ∧ w' = w := by
  go_enter Tryz.func21, Tryz.ntmps21
  go_wp2
  go_ret
  exact ⟨rfl, rfl⟩


theorem lesser_C (v : Value) (w : World) : Calls Tryz.prog 22 #[.iface 128 v] w fun r w' => r = .returned (.string ⟨#[99, 111, 100, 101, 100]⟩) ∧ w' = w := by
  go_enter Tryz.func22, Tryz.ntmps22
  go_wp2
  go_ret
  exact ⟨rfl, rfl⟩


theorem lesser_L (v : Value) (w : World) : Calls Tryz.prog 22 #[.iface 127 v] w fun r w' => r = .returned (.string ⟨#[99, 111, 100, 101, 100]⟩) ∧ w' = w := by
  go_enter Tryz.func22, Tryz.ntmps22
  go_wp2
  go_ret
  exact ⟨rfl, rfl⟩


theorem lesser_R (v : Value) (w : World) : Calls Tryz.prog 22 #[.iface 129 v] w fun r w' => r = .returned (.string ⟨#[99, 111, 100, 101, 100]⟩) ∧ w' = w := by
  go_enter Tryz.func22, Tryz.ntmps22
  go_wp2
  go_ret
  exact ⟨rfl, rfl⟩


theorem lesser_K (v : Value) (w : World) : Calls Tryz.prog 22 #[.iface 132 v] w fun r w' => r = .returned (.string ⟨#[99, 111, 100, 101, 100]⟩) ∧ w' = w := by
  go_enter Tryz.func22, Tryz.ntmps22
  go_wp2
  go_ret
  exact ⟨rfl, rfl⟩


theorem lesser_N (v : Value) (w : World) : Calls Tryz.prog 22 #[.iface 87 v] w fun r w' => r = .returned (.string ⟨#[112, 108, 97, 105, 110]⟩) ∧ w' = w := by
  go_enter Tryz.func22, Tryz.ntmps22
  go_wp2
  go_ret
  exact ⟨rfl, rfl⟩


theorem greater_R (b : Nat) (sa : ByteArray) (w : World) (hs : sa.size ≤ 140737488355328) (h : w.cell? ⟨b, 3, none⟩ = some (.string sa)) : Calls Tryz.prog 21 #[.iface 129 (.pointer (some ⟨b, 0, none⟩))] w fun r w' => r = .returned (.string (⟨#[114, 97, 105, 115, 101, 100, 32]⟩ ++ sa)) ∧ w' = w := by
  go_enter Tryz.func21, Tryz.ntmps21
  go_wp2_with (go_at_call 122; refine (said_of b sa _ h).mono ?_; rintro r w1 ⟨rfl, rfl⟩)
  go_ret
  exact ⟨rfl, rfl⟩
theorem greater_K (b : Nat) (ki ab : ByteArray) (w : World) (hk : ki.size ≤ 140737488355328) (ha : ab.size ≤ 140737488355328) (h : w.cell? ⟨b, 3, none⟩ = some (.string ki)) (h' : w.cell? ⟨b, 4, none⟩ = some (.string ab)) : Calls Tryz.prog 21 #[.iface 132 (.pointer (some ⟨b, 0, none⟩))] w fun r w' => r = .returned (.string (⟨#[108, 97, 99, 107, 105, 110, 103, 32]⟩ ++ ki ++ ⟨#[32]⟩ ++ ab)) ∧ Ext w w' := by
  go_enter Tryz.func21, Tryz.ntmps21
  go_wp2_with (go_at_call 124; refine (lacks_of b ki ab _ h h').mono ?_; rintro r w1 ⟨rfl, hx⟩)
  go_ret
  exact ⟨rfl, hx⟩


end Go.Proofs.YtflcmdjekmmkkaaGreatDoor
