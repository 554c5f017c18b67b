/-
  espalierlaw6.Can of the document's nodes; espalierref6.Names; by contracts.
-/
import Derived.Test.YtaodkfchmaendaaGreatDoorBFacts
import Derived.Test.YtaodkfchmaendaaGreatDoorJRows
import Derived.Test.YtaodkfchmaendaaGreatDoorPItems
namespace Go.Proofs.YtaodkfchmaendaaGreatDoor.Nd
open Go.RowKit Go.Stop
def nmA : Nat → ByteArray
  | 0 => ⟨#[76, 105, 116, 101, 114, 97, 108]⟩
  | 1 => ⟨#[83, 116, 114, 105, 99, 116]⟩
  | 2 => ⟨#[76, 97, 122, 121]⟩
  | 3 => ⟨#[66, 105, 110, 100, 101, 114]⟩
  | 4 => ⟨#[85, 115, 101, 114]⟩
  | 5 => ⟨#[67, 97, 108, 108, 101, 114]⟩
  | 6 => ⟨#[80, 117, 114, 101]⟩
  | 7 => ⟨#[84, 111, 116, 97, 108]⟩
  | 8 => ⟨#[83, 111, 114, 116, 101, 100]⟩
  | 9 => ⟨#[83, 117, 103, 97, 114]⟩
  | 10 => ⟨#[70, 114, 97, 109, 101, 100]⟩
  | 11 => ⟨#[87, 114, 97, 112, 112, 101, 100]⟩
  | 12 => ⟨#[79, 114, 105, 103, 105, 110]⟩
  | 13 => ⟨#[79, 112, 97, 113, 117, 101]⟩
  | _ => ⟨#[]⟩
def canLit : Nat → Bool
  | 0 => true
  | 6 => true
  | 7 => true
  | 8 => true
  | _ => false
set_option maxRecDepth 100000 in
theorem canLit0 (v : Value) (w : World) : Calls Tryz.prog 63 #[.iface 175 v, .string ⟨#[76, 105, 116, 101, 114, 97, 108]⟩] w fun e w' => e = .returned (.bool true) ∧ w' = w := by
  have h1 := fun xT w => isLitLiteral v xT w
  go_enter Tryz.func63, Tryz.ntmps63
  go_wp2_with fail
  go_ret
  exact ⟨rfl, rfl⟩
set_option maxRecDepth 100000 in
theorem canLit1 (v : Value) (w : World) : Calls Tryz.prog 63 #[.iface 175 v, .string ⟨#[83, 116, 114, 105, 99, 116]⟩] w fun e w' => e = .returned (.bool false) ∧ w' = w := by
  have h1 := fun xT w => isLitStrict v xT w
  go_enter Tryz.func63, Tryz.ntmps63
  go_wp2_with fail
  go_ret
  exact ⟨rfl, rfl⟩
set_option maxRecDepth 100000 in
theorem canLit2 (v : Value) (w : World) : Calls Tryz.prog 63 #[.iface 175 v, .string ⟨#[76, 97, 122, 121]⟩] w fun e w' => e = .returned (.bool false) ∧ w' = w := by
  have h1 := fun xT w => isLitLazy v xT w
  go_enter Tryz.func63, Tryz.ntmps63
  go_wp2_with fail
  go_ret
  exact ⟨rfl, rfl⟩
set_option maxRecDepth 100000 in
theorem canLit3 (v : Value) (w : World) : Calls Tryz.prog 63 #[.iface 175 v, .string ⟨#[66, 105, 110, 100, 101, 114]⟩] w fun e w' => e = .returned (.bool false) ∧ w' = w := by
  have h1 := fun xT w => isLitBinder v xT w
  go_enter Tryz.func63, Tryz.ntmps63
  go_wp2_with fail
  go_ret
  exact ⟨rfl, rfl⟩
set_option maxRecDepth 100000 in
theorem canLit4 (v : Value) (w : World) : Calls Tryz.prog 63 #[.iface 175 v, .string ⟨#[85, 115, 101, 114]⟩] w fun e w' => e = .returned (.bool false) ∧ w' = w := by
  have h1 := fun xT w => isLitUser v xT w
  go_enter Tryz.func63, Tryz.ntmps63
  go_wp2_with fail
  go_ret
  exact ⟨rfl, rfl⟩
set_option maxRecDepth 100000 in
theorem canLit5 (v : Value) (w : World) : Calls Tryz.prog 63 #[.iface 175 v, .string ⟨#[67, 97, 108, 108, 101, 114]⟩] w fun e w' => e = .returned (.bool false) ∧ w' = w := by
  have h1 := fun xT w => isLitCaller v xT w
  go_enter Tryz.func63, Tryz.ntmps63
  go_wp2_with fail
  go_ret
  exact ⟨rfl, rfl⟩
set_option maxRecDepth 100000 in
theorem canLit6 (v : Value) (w : World) : Calls Tryz.prog 63 #[.iface 175 v, .string ⟨#[80, 117, 114, 101]⟩] w fun e w' => e = .returned (.bool true) ∧ w' = w := by
  have h1 := fun xT w => isLitPure v xT w
  go_enter Tryz.func63, Tryz.ntmps63
  go_wp2_with fail
  go_ret
  exact ⟨rfl, rfl⟩
set_option maxRecDepth 100000 in
theorem canLit7 (v : Value) (w : World) : Calls Tryz.prog 63 #[.iface 175 v, .string ⟨#[84, 111, 116, 97, 108]⟩] w fun e w' => e = .returned (.bool true) ∧ w' = w := by
  have h1 := fun xT w => isLitTotal v xT w
  go_enter Tryz.func63, Tryz.ntmps63
  go_wp2_with fail
  go_ret
  exact ⟨rfl, rfl⟩
set_option maxRecDepth 100000 in
theorem canLit8 (v : Value) (w : World) : Calls Tryz.prog 63 #[.iface 175 v, .string ⟨#[83, 111, 114, 116, 101, 100]⟩] w fun e w' => e = .returned (.bool true) ∧ w' = w := by
  have h1 := fun xT w => isLitSorted v xT w
  go_enter Tryz.func63, Tryz.ntmps63
  go_wp2_with fail
  go_ret
  exact ⟨rfl, rfl⟩
set_option maxRecDepth 100000 in
theorem canLit9 (v : Value) (w : World) : Calls Tryz.prog 63 #[.iface 175 v, .string ⟨#[83, 117, 103, 97, 114]⟩] w fun e w' => e = .returned (.bool false) ∧ w' = w := by
  have h1 := fun xT w => isLitSugar v xT w
  go_enter Tryz.func63, Tryz.ntmps63
  go_wp2_with fail
  go_ret
  exact ⟨rfl, rfl⟩
set_option maxRecDepth 100000 in
theorem canLit10 (v : Value) (w : World) : Calls Tryz.prog 63 #[.iface 175 v, .string ⟨#[70, 114, 97, 109, 101, 100]⟩] w fun e w' => e = .returned (.bool false) ∧ w' = w := by
  have h1 := fun xT w => isLitFramed v xT w
  go_enter Tryz.func63, Tryz.ntmps63
  go_wp2_with fail
  go_ret
  exact ⟨rfl, rfl⟩
set_option maxRecDepth 100000 in
theorem canLit11 (v : Value) (w : World) : Calls Tryz.prog 63 #[.iface 175 v, .string ⟨#[87, 114, 97, 112, 112, 101, 100]⟩] w fun e w' => e = .returned (.bool false) ∧ w' = w := by
  have h1 := fun xT w => isLitWrapped v xT w
  go_enter Tryz.func63, Tryz.ntmps63
  go_wp2_with fail
  go_ret
  exact ⟨rfl, rfl⟩
set_option maxRecDepth 100000 in
theorem canLit12 (v : Value) (w : World) : Calls Tryz.prog 63 #[.iface 175 v, .string ⟨#[79, 114, 105, 103, 105, 110]⟩] w fun e w' => e = .returned (.bool false) ∧ w' = w := by
  have h1 := fun xT w => isLitOrigin v xT w
  go_enter Tryz.func63, Tryz.ntmps63
  go_wp2_with fail
  go_ret
  exact ⟨rfl, rfl⟩
set_option maxRecDepth 100000 in
theorem canLit13 (v : Value) (w : World) : Calls Tryz.prog 63 #[.iface 175 v, .string ⟨#[79, 112, 97, 113, 117, 101]⟩] w fun e w' => e = .returned (.bool false) ∧ w' = w := by
  have h1 := fun xT w => isLitOpaque v xT w
  go_enter Tryz.func63, Tryz.ntmps63
  go_wp2_with fail
  go_ret
  exact ⟨rfl, rfl⟩
theorem can_Lit (v : Value) : ∀ j, j < 14 → ∀ w, Calls Tryz.prog 63 #[.iface 175 v, .string (nmA j)] w fun e w' => e = .returned (.bool (canLit j)) ∧ w' = w
  | 0, _ => canLit0 v
  | 1, _ => canLit1 v
  | 2, _ => canLit2 v
  | 3, _ => canLit3 v
  | 4, _ => canLit4 v
  | 5, _ => canLit5 v
  | 6, _ => canLit6 v
  | 7, _ => canLit7 v
  | 8, _ => canLit8 v
  | 9, _ => canLit9 v
  | 10, _ => canLit10 v
  | 11, _ => canLit11 v
  | 12, _ => canLit12 v
  | 13, _ => canLit13 v
def canVar : Nat → Bool
  | 4 => true
  | 6 => true
  | _ => false
set_option maxRecDepth 100000 in
theorem canVar0 (v : Value) (w : World) : Calls Tryz.prog 63 #[.iface 186 v, .string ⟨#[76, 105, 116, 101, 114, 97, 108]⟩] w fun e w' => e = .returned (.bool false) ∧ w' = w := by
  have h1 := fun xT w => isVarLiteral v xT w
  go_enter Tryz.func63, Tryz.ntmps63
  go_wp2_with fail
  go_ret
  exact ⟨rfl, rfl⟩
set_option maxRecDepth 100000 in
theorem canVar1 (v : Value) (w : World) : Calls Tryz.prog 63 #[.iface 186 v, .string ⟨#[83, 116, 114, 105, 99, 116]⟩] w fun e w' => e = .returned (.bool false) ∧ w' = w := by
  have h1 := fun xT w => isVarStrict v xT w
  go_enter Tryz.func63, Tryz.ntmps63
  go_wp2_with fail
  go_ret
  exact ⟨rfl, rfl⟩
set_option maxRecDepth 100000 in
theorem canVar2 (v : Value) (w : World) : Calls Tryz.prog 63 #[.iface 186 v, .string ⟨#[76, 97, 122, 121]⟩] w fun e w' => e = .returned (.bool false) ∧ w' = w := by
  have h1 := fun xT w => isVarLazy v xT w
  go_enter Tryz.func63, Tryz.ntmps63
  go_wp2_with fail
  go_ret
  exact ⟨rfl, rfl⟩
set_option maxRecDepth 100000 in
theorem canVar3 (v : Value) (w : World) : Calls Tryz.prog 63 #[.iface 186 v, .string ⟨#[66, 105, 110, 100, 101, 114]⟩] w fun e w' => e = .returned (.bool false) ∧ w' = w := by
  have h1 := fun xT w => isVarBinder v xT w
  go_enter Tryz.func63, Tryz.ntmps63
  go_wp2_with fail
  go_ret
  exact ⟨rfl, rfl⟩
set_option maxRecDepth 100000 in
theorem canVar4 (v : Value) (w : World) : Calls Tryz.prog 63 #[.iface 186 v, .string ⟨#[85, 115, 101, 114]⟩] w fun e w' => e = .returned (.bool true) ∧ w' = w := by
  have h1 := fun xT w => isVarUser v xT w
  go_enter Tryz.func63, Tryz.ntmps63
  go_wp2_with fail
  go_ret
  exact ⟨rfl, rfl⟩
set_option maxRecDepth 100000 in
theorem canVar5 (v : Value) (w : World) : Calls Tryz.prog 63 #[.iface 186 v, .string ⟨#[67, 97, 108, 108, 101, 114]⟩] w fun e w' => e = .returned (.bool false) ∧ w' = w := by
  have h1 := fun xT w => isVarCaller v xT w
  go_enter Tryz.func63, Tryz.ntmps63
  go_wp2_with fail
  go_ret
  exact ⟨rfl, rfl⟩
set_option maxRecDepth 100000 in
theorem canVar6 (v : Value) (w : World) : Calls Tryz.prog 63 #[.iface 186 v, .string ⟨#[80, 117, 114, 101]⟩] w fun e w' => e = .returned (.bool true) ∧ w' = w := by
  have h1 := fun xT w => isVarPure v xT w
  go_enter Tryz.func63, Tryz.ntmps63
  go_wp2_with fail
  go_ret
  exact ⟨rfl, rfl⟩
set_option maxRecDepth 100000 in
theorem canVar7 (v : Value) (w : World) : Calls Tryz.prog 63 #[.iface 186 v, .string ⟨#[84, 111, 116, 97, 108]⟩] w fun e w' => e = .returned (.bool false) ∧ w' = w := by
  have h1 := fun xT w => isVarTotal v xT w
  go_enter Tryz.func63, Tryz.ntmps63
  go_wp2_with fail
  go_ret
  exact ⟨rfl, rfl⟩
set_option maxRecDepth 100000 in
theorem canVar8 (v : Value) (w : World) : Calls Tryz.prog 63 #[.iface 186 v, .string ⟨#[83, 111, 114, 116, 101, 100]⟩] w fun e w' => e = .returned (.bool false) ∧ w' = w := by
  have h1 := fun xT w => isVarSorted v xT w
  go_enter Tryz.func63, Tryz.ntmps63
  go_wp2_with fail
  go_ret
  exact ⟨rfl, rfl⟩
set_option maxRecDepth 100000 in
theorem canVar9 (v : Value) (w : World) : Calls Tryz.prog 63 #[.iface 186 v, .string ⟨#[83, 117, 103, 97, 114]⟩] w fun e w' => e = .returned (.bool false) ∧ w' = w := by
  have h1 := fun xT w => isVarSugar v xT w
  go_enter Tryz.func63, Tryz.ntmps63
  go_wp2_with fail
  go_ret
  exact ⟨rfl, rfl⟩
set_option maxRecDepth 100000 in
theorem canVar10 (v : Value) (w : World) : Calls Tryz.prog 63 #[.iface 186 v, .string ⟨#[70, 114, 97, 109, 101, 100]⟩] w fun e w' => e = .returned (.bool false) ∧ w' = w := by
  have h1 := fun xT w => isVarFramed v xT w
  go_enter Tryz.func63, Tryz.ntmps63
  go_wp2_with fail
  go_ret
  exact ⟨rfl, rfl⟩
set_option maxRecDepth 100000 in
theorem canVar11 (v : Value) (w : World) : Calls Tryz.prog 63 #[.iface 186 v, .string ⟨#[87, 114, 97, 112, 112, 101, 100]⟩] w fun e w' => e = .returned (.bool false) ∧ w' = w := by
  have h1 := fun xT w => isVarWrapped v xT w
  go_enter Tryz.func63, Tryz.ntmps63
  go_wp2_with fail
  go_ret
  exact ⟨rfl, rfl⟩
set_option maxRecDepth 100000 in
theorem canVar12 (v : Value) (w : World) : Calls Tryz.prog 63 #[.iface 186 v, .string ⟨#[79, 114, 105, 103, 105, 110]⟩] w fun e w' => e = .returned (.bool false) ∧ w' = w := by
  have h1 := fun xT w => isVarOrigin v xT w
  go_enter Tryz.func63, Tryz.ntmps63
  go_wp2_with fail
  go_ret
  exact ⟨rfl, rfl⟩
set_option maxRecDepth 100000 in
theorem canVar13 (v : Value) (w : World) : Calls Tryz.prog 63 #[.iface 186 v, .string ⟨#[79, 112, 97, 113, 117, 101]⟩] w fun e w' => e = .returned (.bool false) ∧ w' = w := by
  have h1 := fun xT w => isVarOpaque v xT w
  go_enter Tryz.func63, Tryz.ntmps63
  go_wp2_with fail
  go_ret
  exact ⟨rfl, rfl⟩
theorem can_Var (v : Value) : ∀ j, j < 14 → ∀ w, Calls Tryz.prog 63 #[.iface 186 v, .string (nmA j)] w fun e w' => e = .returned (.bool (canVar j)) ∧ w' = w
  | 0, _ => canVar0 v
  | 1, _ => canVar1 v
  | 2, _ => canVar2 v
  | 3, _ => canVar3 v
  | 4, _ => canVar4 v
  | 5, _ => canVar5 v
  | 6, _ => canVar6 v
  | 7, _ => canVar7 v
  | 8, _ => canVar8 v
  | 9, _ => canVar9 v
  | 10, _ => canVar10 v
  | 11, _ => canVar11 v
  | 12, _ => canVar12 v
  | 13, _ => canVar13 v
def canFra : Nat → Bool
  | 6 => true
  | 7 => true
  | 10 => true
  | _ => false
set_option maxRecDepth 100000 in
theorem canFra0 (v : Value) (w : World) : Calls Tryz.prog 63 #[.iface 189 v, .string ⟨#[76, 105, 116, 101, 114, 97, 108]⟩] w fun e w' => e = .returned (.bool false) ∧ w' = w := by
  have h1 := fun xT w => isFraLiteral v xT w
  go_enter Tryz.func63, Tryz.ntmps63
  go_wp2_with fail
  go_ret
  exact ⟨rfl, rfl⟩
set_option maxRecDepth 100000 in
theorem canFra1 (v : Value) (w : World) : Calls Tryz.prog 63 #[.iface 189 v, .string ⟨#[83, 116, 114, 105, 99, 116]⟩] w fun e w' => e = .returned (.bool false) ∧ w' = w := by
  have h1 := fun xT w => isFraStrict v xT w
  go_enter Tryz.func63, Tryz.ntmps63
  go_wp2_with fail
  go_ret
  exact ⟨rfl, rfl⟩
set_option maxRecDepth 100000 in
theorem canFra2 (v : Value) (w : World) : Calls Tryz.prog 63 #[.iface 189 v, .string ⟨#[76, 97, 122, 121]⟩] w fun e w' => e = .returned (.bool false) ∧ w' = w := by
  have h1 := fun xT w => isFraLazy v xT w
  go_enter Tryz.func63, Tryz.ntmps63
  go_wp2_with fail
  go_ret
  exact ⟨rfl, rfl⟩
set_option maxRecDepth 100000 in
theorem canFra3 (v : Value) (w : World) : Calls Tryz.prog 63 #[.iface 189 v, .string ⟨#[66, 105, 110, 100, 101, 114]⟩] w fun e w' => e = .returned (.bool false) ∧ w' = w := by
  have h1 := fun xT w => isFraBinder v xT w
  go_enter Tryz.func63, Tryz.ntmps63
  go_wp2_with fail
  go_ret
  exact ⟨rfl, rfl⟩
set_option maxRecDepth 100000 in
theorem canFra4 (v : Value) (w : World) : Calls Tryz.prog 63 #[.iface 189 v, .string ⟨#[85, 115, 101, 114]⟩] w fun e w' => e = .returned (.bool false) ∧ w' = w := by
  have h1 := fun xT w => isFraUser v xT w
  go_enter Tryz.func63, Tryz.ntmps63
  go_wp2_with fail
  go_ret
  exact ⟨rfl, rfl⟩
set_option maxRecDepth 100000 in
theorem canFra5 (v : Value) (w : World) : Calls Tryz.prog 63 #[.iface 189 v, .string ⟨#[67, 97, 108, 108, 101, 114]⟩] w fun e w' => e = .returned (.bool false) ∧ w' = w := by
  have h1 := fun xT w => isFraCaller v xT w
  go_enter Tryz.func63, Tryz.ntmps63
  go_wp2_with fail
  go_ret
  exact ⟨rfl, rfl⟩
set_option maxRecDepth 100000 in
theorem canFra6 (v : Value) (w : World) : Calls Tryz.prog 63 #[.iface 189 v, .string ⟨#[80, 117, 114, 101]⟩] w fun e w' => e = .returned (.bool true) ∧ w' = w := by
  have h1 := fun xT w => isFraPure v xT w
  go_enter Tryz.func63, Tryz.ntmps63
  go_wp2_with fail
  go_ret
  exact ⟨rfl, rfl⟩
set_option maxRecDepth 100000 in
theorem canFra7 (v : Value) (w : World) : Calls Tryz.prog 63 #[.iface 189 v, .string ⟨#[84, 111, 116, 97, 108]⟩] w fun e w' => e = .returned (.bool true) ∧ w' = w := by
  have h1 := fun xT w => isFraTotal v xT w
  go_enter Tryz.func63, Tryz.ntmps63
  go_wp2_with fail
  go_ret
  exact ⟨rfl, rfl⟩
set_option maxRecDepth 100000 in
theorem canFra8 (v : Value) (w : World) : Calls Tryz.prog 63 #[.iface 189 v, .string ⟨#[83, 111, 114, 116, 101, 100]⟩] w fun e w' => e = .returned (.bool false) ∧ w' = w := by
  have h1 := fun xT w => isFraSorted v xT w
  go_enter Tryz.func63, Tryz.ntmps63
  go_wp2_with fail
  go_ret
  exact ⟨rfl, rfl⟩
set_option maxRecDepth 100000 in
theorem canFra9 (v : Value) (w : World) : Calls Tryz.prog 63 #[.iface 189 v, .string ⟨#[83, 117, 103, 97, 114]⟩] w fun e w' => e = .returned (.bool false) ∧ w' = w := by
  have h1 := fun xT w => isFraSugar v xT w
  go_enter Tryz.func63, Tryz.ntmps63
  go_wp2_with fail
  go_ret
  exact ⟨rfl, rfl⟩
set_option maxRecDepth 100000 in
theorem canFra10 (v : Value) (w : World) : Calls Tryz.prog 63 #[.iface 189 v, .string ⟨#[70, 114, 97, 109, 101, 100]⟩] w fun e w' => e = .returned (.bool true) ∧ w' = w := by
  have h1 := fun xT w => isFraFramed v xT w
  go_enter Tryz.func63, Tryz.ntmps63
  go_wp2_with fail
  go_ret
  exact ⟨rfl, rfl⟩
set_option maxRecDepth 100000 in
theorem canFra11 (v : Value) (w : World) : Calls Tryz.prog 63 #[.iface 189 v, .string ⟨#[87, 114, 97, 112, 112, 101, 100]⟩] w fun e w' => e = .returned (.bool false) ∧ w' = w := by
  have h1 := fun xT w => isFraWrapped v xT w
  go_enter Tryz.func63, Tryz.ntmps63
  go_wp2_with fail
  go_ret
  exact ⟨rfl, rfl⟩
set_option maxRecDepth 100000 in
theorem canFra12 (v : Value) (w : World) : Calls Tryz.prog 63 #[.iface 189 v, .string ⟨#[79, 114, 105, 103, 105, 110]⟩] w fun e w' => e = .returned (.bool false) ∧ w' = w := by
  have h1 := fun xT w => isFraOrigin v xT w
  go_enter Tryz.func63, Tryz.ntmps63
  go_wp2_with fail
  go_ret
  exact ⟨rfl, rfl⟩
set_option maxRecDepth 100000 in
theorem canFra13 (v : Value) (w : World) : Calls Tryz.prog 63 #[.iface 189 v, .string ⟨#[79, 112, 97, 113, 117, 101]⟩] w fun e w' => e = .returned (.bool false) ∧ w' = w := by
  have h1 := fun xT w => isFraOpaque v xT w
  go_enter Tryz.func63, Tryz.ntmps63
  go_wp2_with fail
  go_ret
  exact ⟨rfl, rfl⟩
theorem can_Fra (v : Value) : ∀ j, j < 14 → ∀ w, Calls Tryz.prog 63 #[.iface 189 v, .string (nmA j)] w fun e w' => e = .returned (.bool (canFra j)) ∧ w' = w
  | 0, _ => canFra0 v
  | 1, _ => canFra1 v
  | 2, _ => canFra2 v
  | 3, _ => canFra3 v
  | 4, _ => canFra4 v
  | 5, _ => canFra5 v
  | 6, _ => canFra6 v
  | 7, _ => canFra7 v
  | 8, _ => canFra8 v
  | 9, _ => canFra9 v
  | 10, _ => canFra10 v
  | 11, _ => canFra11 v
  | 12, _ => canFra12 v
  | 13, _ => canFra13 v

end Go.Proofs.YtaodkfchmaendaaGreatDoor.Nd
/-
  espalierlaw6.Abilities of the document's nodes: what the rows tell; by a contract.
-/
namespace Go.Proofs.YtaodkfchmaendaaGreatDoor.Nd
open Go.RowKit Go.Stop
theorem strInfoA : (Tryz.prog.info? 9).map (fun i => (i.zero, i.size, i.bytes)) = some (some (.string ⟨#[]⟩), 1, 16) := by kernel_rfl
def namesC : Array Value := (((List.range 14).map fun i => Value.string (nmA i))).toArray
theorem names_any (w : World) : Calls Tryz.prog 62 #[] w fun e w' => e = .returned (.slice (some ⟨w.heap.size, 0, none⟩) 14 14) ∧ w' = w.alloc (.cells namesC 9) := by
  go_enter Tryz.func62, Tryz.ntmps62
  go_wp2_with fail
  go_ret
  exact ⟨rfl, rfl⟩
/-- The abilities among the first j names. -/
def accA (f : Nat → Bool) (j : Nat) : List ByteArray := ((List.range j).filter f).map nmA
theorem accA_succ (f : Nat → Bool) (j : Nat) : accA f (j + 1) = accA f j ++ (if f j = true then [nmA j] else []) := by
  unfold accA
  rw [List.range_succ, List.filter_append, List.map_append]
  cases h : f j <;> simp [h]
theorem accA_len (f : Nat → Bool) (j : Nat) : (accA f j).length ≤ j := by
  unfold accA
  rw [List.length_map]
  exact Nat.le_trans (List.length_filter_le _ _) (by simp)
def AbR (w : World) (xs : List ByteArray) (e : Ending) (w' : World) : Prop := ∃ a c, e = .returned (.slice a xs.length c) ∧ TRow w' a xs ∧ Ext w w'
theorem new_str (w : World) (s : ByteArray) : ∀ (j : Nat) (u : Value), [Value.string s][j]? = some u → (w.alloc (.cells #[.string s] 9)).cell? (Addr.add ⟨w.heap.size, 0, none⟩ j) = some u := by
  intro j u hu
  match j, hu with
  | 0, hu => simp at hu; subst hu; exact cell_of (i := 0) (blk0 w _) rfl
theorem own_cellA {w : World} {B n c g : Nat} {e : TypeId} {xs : List Value} (ho : w.ownsRow B e 1 (.slice (some ⟨g, 0, none⟩) n c) n xs) {i : Nat} {u : Value} (hu : xs[i]? = some u) : w.cell? ⟨g, i, none⟩ = some u := by
  rcases ho.2 with ⟨hv, _⟩ | ⟨g', cap, cur, hv, _, hb, _, _, _, ht⟩
  · cases hv
  · injection hv with e1 e2 e3
    injection e1 with e1
    injection e1 with e1
    subst e1
    rw [← ht, List.getElem?_take] at hu
    split at hu
    case isTrue => simp [World.cell?, hb]; rw [← Array.getElem?_toList]; exact hu
    case isFalse => cases hu
set_option maxRecDepth 100000 in
set_option maxHeartbeats 4000000 in
theorem abilities_any (t : TypeId) (v : Value) (f : Nat → Bool) (hcan : ∀ j, j < 14 → ∀ w, Calls Tryz.prog 63 #[.iface t v, .string (nmA j)] w fun e w' => e = .returned (.bool (f j)) ∧ w' = w) (w : World) : Calls Tryz.prog 29 #[.iface t v] w (AbR w (accA f 14)) := by
  obtain ⟨i0, hi0, hz0, hz1, hz2⟩ := info_parts strInfoA
  have HCAN := hid hcan
  clear hcan
  obtain ⟨M, hM⟩ : ∃ M, w.alloc (.cells namesC 9) = M := ⟨_, rfl⟩
  have XM := hid (show Ext w M from hM ▸ Ext.alloc _ _)
  have HN := hid (show M.heap[w.heap.size]? = some (.cells namesC 9) from hM ▸ blk0 _ _)
  have HNM := hid (fun w => names_any w)
  have hwl := hid (show w.heap.size < M.heap.size from hM ▸ (by simp))
  go_enter Tryz.func29, Tryz.ntmps29
  go_wp2_with fail
  refine (HNM.out _).mono ?_
  rintro e w1 ⟨rfl, rfl⟩
  rw [hM]
  clear hM
  go_wp2_with fail
  go_loopw [3, 5] (fun q3 q5 wr => ∃ j : Nat, j ≤ 14 ∧ q5 = .int .i64 j ∧ wr.ownsRow M.heap.size 9 1 q3 (accA f j).length ((accA f j).map Value.string) ∧ Ext M wr) (fun _ q5 _ => 14 - (intOf q5).toNat)
  case atStart => exact ⟨0, Nat.zero_le _, rfl, World.ownsRow_nil _ _ _ _, Ext.refl _⟩
  case round =>
    obtain ⟨j, hj, rfl, ho, hx⟩ := hrel
    obtain ⟨a3, c3, rfl⟩ : ∃ a c, u3 = .slice a (accA f j).length c := by
      rcases ho.2 with ⟨rfl, h0⟩ | ⟨g, cap, cur, rfl, _⟩
      · exact ⟨none, 0, by rw [h0]⟩
      · exact ⟨_, _, rfl⟩
    have HO := hid ho
    have HX := hid hx
    clear ho hx
    have hll := accA_len f j
    by_cases hlt : j < 14
    · have hlt' : (j : Int) < 14 := by omega
      have hcl : wr.cell? ⟨w.heap.size, j, none⟩ = some (.string (nmA j)) := cell_of (HX.out.block HN.out) (by unfold namesC; simp [hlt])
      have HCL := hid hcl
      have HC := hid (HCAN.out j hlt)
      have HSU := hid (accA_succ f j)
      go_wp2_with fail
      refine (HC.out _).mono ?_
      rintro e w2 ⟨rfl, rfl⟩
      rcases hfj : f j with _ | _
      · have HFJ := hid hfj
        go_wp2_with fail
        go_roundw
        case measure => simp [intOf]; omega
        case rel => exact ⟨j + 1, by omega, by go_num, by rw [HSU.out, HFJ.out]; simpa using HO.out, HX.out⟩
      · have HFJ := hid hfj
        have HO2 := hid (row_ext HO.out (Ext.alloc w2 (.cells #[.string (nmA j)] 9)))
        have HNS := hid (new_str w2 (nmA j))
        have HUS := hid HX.out.size
        generalize nmA j = s at *
        go_wp2_with (at_builtin; refine wpList_append_own_at _ rfl _ _ 35 rfl M.heap.size 9 i0 (.string ⟨#[]⟩) 1 16 Tryz.underlying35 hi0 hz0 hz1 hz2 rfl (by decide) _ _ _ rfl HO2.out ⟨w2.heap.size, 0, none⟩ 1 1 [.string s] rfl rfl HNS.out (by simp [Value.oneCell']) (by unfold maxLen; omega) (by omega) (by have := HUS.out; simp; omega) ?_; intro v9 w9 hown9 hgrow9 _ _; have HO9 := hid hown9; have HG9 : Hid (World.grownBy (w2.alloc (.cells #[.string s] 9)) w9 (Value.slice a3 (accA f j).length c3).ownBlock) := hid hgrow9; clear hown9 hgrow9)
        go_roundw
        case measure => simp [intOf]; omega
        case rel => exact ⟨j + 1, by omega, by go_num, by rw [HSU.out, HFJ.out]; simpa using HO9.out, (HX.out.more _).grown HG9.out (by have := HUS.out; simp; omega) (fun k hk => (HO2.out.lt k hk).1)⟩
    · obtain rfl : j = 14 := by omega
      go_wp2_with fail
      go_ret
      refine ⟨a3, c3, rfl, ?_, XM.out.trans HX.out⟩
      rcases HO.out.2 with ⟨_, h0⟩ | ⟨g, cap, cur, hv, _⟩
      · exact .inl (List.length_eq_zero_iff.1 h0)
      · injection hv with e1 e2 e3
        subst e1
        exact .inr ⟨g, 0, rfl, fun k hk => by rw [Nat.zero_add]; exact own_cellA HO.out (by simp [hk])⟩
end Go.Proofs.YtaodkfchmaendaaGreatDoor.Nd
