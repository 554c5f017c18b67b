/-
  truth.Work by a contract, whatever the operations give.
-/
import Derived.Test.YtnmcmjgfnncdmaaGreatDoorCWorkG
import Derived.Test.YtnmcmjgfnncdmaaGreatDoorTKinds
namespace Go.Proofs.YtnmcmjgfnncdmaaGreatDoor
open Go.RowKit
set_option maxRecDepth 100000 in
set_option maxHeartbeats 1000000 in
theorem workT_gen (op : ByteArray) (a : Option Addr) (n c : Nat) (w : World) (P : World → Value → Prop)
    (h : ∀ w1 tb, Ext w w1 → TabAt w1 tb truthK → Calls Tryz.prog 50 #[.slice (some ⟨tb, 0, none⟩) 5 5, .string op, .slice a n c] w1 fun e w' => ∃ V, e = .returned V ∧ P w' V ∧ (∃ x y z, V = .tuple #[x, y, z]) ∧ Ext w1 w') :
    Calls Tryz.prog 35 #[.string op, .slice a n c] w fun e w' => ∃ V, e = .returned V ∧ P w' V ∧ Ext w w' := by
  have H := hid h
  clear h
  go_enter Tryz.func35, Tryz.ntmps35
  go_wp2_with fail
  refine (kindsT_any w).mono ?_
  rintro e w1 ⟨rfl, hx1⟩
  have X1 := hid hx1
  clear hx1
  rw [truthA_agg]
  have hsz : truthC.size = 45 := truthC_size
  go_wp2_with fail
  rw [storeT w1 _ _ rfl]
  simp only [Result.andThen_ok, Oper.upon_skip]
  have HT := hid (show TabAt (w1.alloc (.cells truthC 158)) w1.heap.size truthK from ⟨158, by rw [← truthC_tab]; exact blk0 _ _⟩)
  go_wp2_with fail
  refine (H.out _ _ (X1.out.trans (Ext.alloc _ _)) HT.out).mono ?_
  rintro e w2 ⟨V, rfl, hp, ⟨x, y, z, rfl⟩, hx2⟩
  have HP := hid hp
  have X2 := hid ((X1.out.trans (Ext.alloc w1 (.cells truthC 158))).trans hx2)
  clear hp hx2
  go_wp2_with fail
  go_ret3
  exact ⟨_, rfl, HP.out, X2.out⟩
  exact rfl
end Go.Proofs.YtnmcmjgfnncdmaaGreatDoor
