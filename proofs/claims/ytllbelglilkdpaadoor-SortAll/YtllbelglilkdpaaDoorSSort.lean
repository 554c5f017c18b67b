/-
  The method sort of a shape by a contract: a sort in memory of its own.
-/
import Derived.Test.YtllbelglilkdpaaDoorSFace
namespace Go.Proofs.YtllbelglilkdpaaDoor
open Go.RowKit
theorem SRd.list {K : Nat → Prop} {w : World} {d g : Nat} {t : S} {a : Option Addr} {c : Nat} (hb : w.heap[g]? = some (.cells #[.string t.name, .slice a t.kids.length c] 27)) (hK : K g) (h : SRd K w d (.agg #[.string t.name, .slice a t.kids.length c]) t) : SRd K w (d + 1) (.agg #[.string wList, .slice (some ⟨g, 0, none⟩) 1 1]) (.node wList [t]) := by
  refine ⟨some ⟨g, 0, none⟩, 1, rfl, by decide, by simp, .inr ⟨g, 0, rfl, hK, fun j hj => ?_⟩⟩
  have hj0 : j = 0 := by simp at hj; omega
  subst hj0
  exact ⟨_, _, two_of hb, h⟩
/-- The outer list of a sort that was made lies in a block of its own. -/
def TopO (B : Nat) (w : World) (n : Nat) (v : Value) : Prop := n = 0 ∨ ∃ g u0 u1, v = .agg #[.string wList, .slice (some ⟨g, 0, none⟩) 1 1] ∧ B ≤ g ∧ w.heap[g]? = some (.cells #[u0, u1] 27)
theorem TopO.keep {B b : Nat} {w w' : World} {n : Nat} {v : Value} (h : TopO B w n v) (hk : Kp (· ≠ b) w w') (hb : b < B) : TopO B w' n v := by
  rcases h with h | ⟨g, u0, u1, h1, h2, h3⟩
  · exact .inl h
  · exact .inr ⟨g, u0, u1, h1, h2, hk.block' h3 (by show g ≠ b; omega)⟩
theorem TopO.mono {B B' : Nat} {w : World} {n : Nat} {v : Value} (h : TopO B w n v) (hb : B' ≤ B) : TopO B' w n v := by
  rcases h with h | ⟨g, u0, u1, h1, h2, h3⟩
  · exact .inl h
  · exact .inr ⟨g, u0, u1, h1, by omega, h3⟩
theorem TopO.later {B : Nat} {w w' : World} {n : Nat} {v : Value} (h : TopO B w n v) (hx : Ext w w') : TopO B w' n v := by
  rcases h with h | ⟨g, u0, u1, h1, h2, h3⟩
  · exact .inl h
  · exact .inr ⟨g, u0, u1, h1, h2, hx.block h3⟩
set_option maxRecDepth 100000 in
set_option maxHeartbeats 1000000 in
theorem sort_any (n : Nat) (x : ByteArray) (w : World) (hn : n ≤ 1048576) (hx : x.size ≤ 140737488351232) : Calls Tryd.prog 37 #[.agg #[.int .i64 n, .string x]] w fun e w' => ∃ v', e = .returned v' ∧ SRd (fun q => w.heap.size ≤ q) w' (n + 1) v' (chain n x) ∧ Ext w w' ∧ TopO w.heap.size w' n v' := by
  have hn' : (n : Int) ≤ 1048576 := by omega
  have HX0 := hid hx
  clear hx
  go_enter Tryd.func37, Tryd.ntmps37
  go_wp2_with fail
  go_loopw [9] (fun i wr => ∃ (j : Nat) (a : Option Addr) (c : Nat), i = .int .i64 j ∧ j ≤ n ∧ Ext w wr ∧ wr.heap[w.heap.size]? = some (.cells #[.int .i64 n, .string x] 58) ∧ wr.heap[w.heap.size + 1]? = some (.cells #[.string ⟨#[]⟩, .slice none 0 0] 27) ∧ wr.heap[w.heap.size + 1 + 1]? = some (.cells #[.string (chain j x).name, .slice a (chain j x).kids.length c] 27) ∧ SRd (fun q => w.heap.size + 3 ≤ q) wr (j + 1) (.agg #[.string (chain j x).name, .slice a (chain j x).kids.length c]) (chain j x) ∧ TopO (w.heap.size + 3) wr j (.agg #[.string (chain j x).name, .slice a (chain j x).kids.length c])) (fun i _ => n - (intOf i).toNat)
  case atStart =>
    exact ⟨0, none, 0, rfl, Nat.zero_le _, (Ext.alloc2 _ _ _).trans (Ext.alloc _ _), blkOld _ (blkOld _ (blk0 _ _)), blkOld _ (blk1 _ _ _), blkN (by rw [blkS, blkS]), ⟨none, 0, rfl, HX0.out, by decide, .inl rfl⟩, .inl rfl⟩
  case round =>
    obtain ⟨j, a, c, rfl, hj, hx, hb0, hb1, hb2, hrd, hto⟩ := hrel
    have HTO := hid hto
    clear hto
    have HX := hid hx
    have HB1 := hid hb1
    have HB2 := hid hb2
    have HB0 := hid hb0
    have HRD := hid hrd
    obtain ⟨p0, p1⟩ := two_of hb2
    obtain ⟨f0, f1⟩ := two_free hb2
    have hs2 := lt_of_block hb2
    clear hx hb0 hb1 hb2 hrd
    by_cases hlt : j < n
    · have hlt' : (j : Int) < n := by omega
      have HC := hid (show chain (j + 1) x = .node wList [chain j x] from rfl)
      generalize chain j x = t at *
      obtain ⟨nm, kids⟩ := t
      have HRD' : Hid (SRd (fun q => w.heap.size + 3 ≤ q) wr (j + 1) (.agg #[.string nm, .slice a kids.length c]) (.node nm kids)) := HRD
      have p0' : wr.cell? ⟨w.heap.size + 1 + 1, 0, none⟩ = some (.string nm) := p0
      have p1' : wr.cell? ⟨w.heap.size + 1 + 1, 0 + 1, none⟩ = some (.slice a kids.length c) := p1
      clear p0 p1 HRD
      go_wp2_with fail
      go_roundw
      case rel =>
        have k2 := Kp.set2 wr (w.heap.size + 1 + 1) 0 (.string ⟨#[108, 105, 115, 116]⟩) (.slice (some ⟨wr.heap.size, 0, none⟩) 1 1)
        have hsz : ((wr.setCell ⟨w.heap.size + 1 + 1, 0, none⟩ (.string ⟨#[108, 105, 115, 116]⟩)).setCell ⟨w.heap.size + 1 + 1, 0 + 1, none⟩ (.slice (some ⟨wr.heap.size, 0, none⟩) 1 1)).heap.size = wr.heap.size := by rw [size_set, size_set]
        have k3 := k2.trans ((Ext.alloc _ (.cells #[.string nm, .slice a kids.length c] 27)).kp _)
        refine ⟨j + 1, some ⟨wr.heap.size, 0, none⟩, 1, by go_num, hlt, ?_⟩
        rw [HC.out]
        refine ⟨Kp.ext ((HX.out.kp _).trans k3) (fun q hq => by show q ≠ w.heap.size + 1 + 1; omega), k3.block' HB0.out (by omega), k3.block' HB1.out (by omega), blkOld _ (two_set HB2.out), ?_⟩
        refine ⟨?_, .inr ⟨wr.heap.size, _, _, rfl, by omega, blkN hsz⟩⟩
        exact SRd.list (t := .node nm kids) (blkN hsz) (by omega) (HRD'.out.keep (k3.mono (fun q _ h => by have h' : w.heap.size + 3 ≤ q := h; show q ≠ _; omega)))
      case measure => simp [intOf]; omega
    · have hlt' : ¬ (j : Int) < n := by omega
      have hje : j = n := by omega
      subst hje
      obtain ⟨t, ht⟩ : ∃ t, chain j x = t := ⟨_, rfl⟩
      rw [ht] at HRD p0 p1 HB2 HTO
      have HTO' : Hid (TopO (w.heap.size + 3) wr j (.agg #[.string t.name, .slice a t.kids.length c])) := HTO
      clear HTO
      have HT := hid ht
      clear ht
      obtain ⟨nm, kids⟩ := t
      have HTO2 : Hid (TopO (w.heap.size + 3) wr j (.agg #[.string nm, .slice a kids.length c])) := HTO'
      clear HTO'
      have HRD' : Hid (SRd (fun q => w.heap.size + 3 ≤ q) wr (j + 1) (.agg #[.string nm, .slice a kids.length c]) (.node nm kids)) := HRD
      have p0' : wr.cell? ⟨w.heap.size + 1 + 1, 0, none⟩ = some (.string nm) := p0
      have p1' : wr.cell? ⟨w.heap.size + 1 + 1, 0 + 1, none⟩ = some (.slice a kids.length c) := p1
      obtain ⟨r0, r1⟩ := two_of HB1.out
      obtain ⟨e0, e1⟩ := two_free HB1.out
      clear p0 p1 HRD
      go_wp2_with fail
      obtain ⟨z0, z1⟩ := two_of (two_set (u0 := .string nm) (u1 := .slice a kids.length c) HB1.out)
      refine bodyPost_ret (v := .agg #[.string nm, .slice a kids.length c]) (by simp [results, Tryd.results37, go_sem, z0, z1]) rfl ?_
      have k2 := Kp.set2 wr (w.heap.size + 1) 0 (.string nm) (.slice a kids.length c)
      rw [HT.out]
      refine ⟨_, rfl, (HRD'.out.keep (k2.mono (fun q _ h => by have h' : w.heap.size + 3 ≤ q := h; show q ≠ _; omega))).mono (fun q _ h => by have h' : w.heap.size + 3 ≤ q := h; show w.heap.size ≤ q; omega), Kp.ext ((HX.out.kp _).trans k2) (fun q hq => by show q ≠ w.heap.size + 1; omega), (HTO2.out.keep k2 (by omega)).mono (by omega)⟩
end Go.Proofs.YtllbelglilkdpaaDoor
