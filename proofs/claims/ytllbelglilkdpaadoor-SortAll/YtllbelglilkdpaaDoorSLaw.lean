/-
  The statement's own list, by a contract.
-/
import Derived.Test.YtllbelglilkdpaaDoorSSort
namespace Go.Proofs.YtllbelglilkdpaaDoor
open Go.RowKit
set_option maxRecDepth 100000 in
theorem list_any {K : Nat → Prop} {d : Nat} {v : Value} {t : S} (w : World) (hr : SRd K w d v t) : Calls Tryd.prog 21 #[v] w fun e w' => ∃ v', e = .returned v' ∧ SRd (fun q => K q ∨ w.heap.size ≤ q) w' (d + 1) v' (.node wList [t]) ∧ Ext w w' := by
  obtain ⟨a, c, rfl⟩ := hr.shape
  obtain ⟨nm, hnm⟩ : ∃ nm, t.name = nm := ⟨_, rfl⟩
  obtain ⟨kl, hkl⟩ : ∃ kl, t.kids.length = kl := ⟨_, rfl⟩
  have HR := hid hr
  have HN := hid hnm
  have HK := hid hkl
  rw [hnm, hkl]
  clear hr hnm hkl
  go_enter Tryd.func21, Tryd.ntmps21
  go_wp2_with fail
  refine bodyPost_ret (v := .agg #[.string wList, .slice (some ⟨w.heap.size + 1 + 1, 0, none⟩) 1 1]) (by simp [results, Tryd.results21, go_sem]; rfl) rfl ?_
  have hx : ∀ o1 o2 o3, Ext w (((w.alloc o1).alloc o2).alloc o3) := fun o1 o2 o3 => (Ext.alloc2 _ _ _).trans (Ext.alloc _ _)
  have hm := (HR.out.later (hx (.cells #[.string nm, .slice a kl c] 27) (.cells #[.string wList, .slice (some ⟨w.heap.size + 1 + 1, 0, none⟩) 1 1] 27) (.cells #[.string nm, .slice a kl c] 27))).mono (L := fun q => K q ∨ w.heap.size ≤ q) (fun _ _ h => .inl h)
  refine ⟨_, rfl, ?_, hx _ _ _⟩
  have hb := blk2 w (.cells #[.string nm, .slice a kl c] 27) (.cells #[.string wList, .slice (some ⟨w.heap.size + 1 + 1, 0, none⟩) 1 1] 27) (.cells #[.string nm, .slice a kl c] 27)
  rw [← HN.out, ← HK.out] at hb hm ⊢
  exact SRd.list hb (.inr (by omega)) hm
end Go.Proofs.YtllbelglilkdpaaDoor
