/-
  node.Plain by a contract: the tree of a handle's node in memory of its own, or ErrLong.
-/
import Derived.Test.YtdikcdefpoolfaaNPlain
import Derived.Test.YtdikcdefpoolfaaNVoid
namespace Go.Proofs.Ytdikcdefpoolfaa
open Go.RowKit
/-- What Plain answers. -/
def PlainR (w : World) (d : Nat) (t : T) (e : Ending) (w' : World) : Prop := Ext w w' ∧
  ((t.small ∧ ∃ v' bs, e = .returned (.tuple #[v', .nilIface]) ∧ Own w' d v' t bs ∧ (∀ b ∈ bs, w.heap.size ≤ b) ∧ bs.Nodup) ∨ (¬ t.small ∧ ∃ b, e = .returned (.tuple #[zTree, ErrV b]) ∧ Fa.CodedAt w' b 2))
set_option maxRecDepth 100000 in
set_option maxHeartbeats 2000000 in
theorem plainF_any (d h : Nat) (v : Value) (t : T) (K : Nat → Prop) (w : World) (hn : Nd K w d v t) (hh : w.cell? ⟨h, 0, none⟩ = some v) : Calls Try.prog 9 #[.pointer (some ⟨h, 0, none⟩)] w (PlainR w d t) := by
  obtain ⟨ty, p, rfl⟩ : ∃ ty p, v = .iface ty (.pointer (some ⟨p, 0, none⟩)) := by
    cases d with
    | zero => exact hn.elim
    | succ d => cases t; obtain ⟨ty, p, _, _, _, _, h, _⟩ := hn; exact ⟨ty, p, h⟩
  have HN := hid (hn.mono (L := (· < w.heap.size)) (fun k hk _ => hk))
  have hl := lt_of_cell hh
  clear hn
  obtain ⟨M, hM⟩ : ∃ M, w.alloc (.cells #[.string ⟨#[]⟩, .int .i64 0, .string ⟨#[]⟩, .slice none 0 0] 30) = M := ⟨_, rfl⟩
  have XM := hid (show Ext w M from hM ▸ Ext.alloc _ _)
  have HM0 := hid (show M.heap[w.heap.size]? = some (.cells #[.string ⟨#[]⟩, .int .i64 0, .string ⟨#[]⟩, .slice none 0 0] 30) from hM ▸ blk0 _ _)
  have HMS := hid (show M.heap.size = w.heap.size + 1 from hM ▸ (by simp))
  have hm := (XM.out.kp (fun _ => True)).cell hh trivial
  have hlm : h < M.heap.size := lt_of_cell hm
  clear hh
  go_enter Try.func9, Try.ntmps9
  go_wp2_with fail
  clear hM
  go_at_call 7
  refine (node_cell h _ M hm).mono ?_
  rintro e w' ⟨rfl, hw'⟩
  rw [hw']
  clear hw' w'
  go_wp2_with fail
  go_at_call 22
  have XV := hid (Ext.alloc M (.cells #[.int .i64 0, .int .i64 0] 93))
  refine (plain_any d _ t (· < w.heap.size) _ M.heap.size 0 0 1 (HN.out.keep ((XM.out.trans XV.out).kp _)) (by have := HMS.out; show ¬ M.heap.size < w.heap.size; omega) (blk0 _ _) (by omega) (by omega) (by omega) (by omega)).mono ?_
  rintro e w1 ⟨hk1, hcase⟩
  have hb1 := hk1.block' (blkOld _ HM0.out) (by have := HMS.out; show w.heap.size ≠ M.heap.size; omega)
  have XW := hid (show Ext w w1 from Kp.extOf (XM.out.trans XV.out) hk1 (by have := HMS.out; omega))
  have HB1 := hid hb1
  have hl1 : w.heap.size < w1.heap.size := lt_of_block hb1
  obtain ⟨r0, r1, r2, r3⟩ := four_of hb1
  have s0 := frozen_of (i := 0) hb1
  have s1 := frozen_of (i := 1) hb1
  have s2 := frozen_of (i := 2) hb1
  have s3 := frozen_of (i := 3) hb1
  clear hb1 hm hlm
  rcases hcase with ⟨hok, v', bs, rfl, hown, hge, hnd, _⟩ | ⟨hno, rfl⟩
  · obtain ⟨u0, u1, u2, u3, rfl⟩ := hown.rd.agg
    obtain ⟨k2, n2, x2, a2, c2, rfl, rfl, rfl, rfl⟩ := hown.rd.shape
    have HOK := hid ((T.ok_small t).1 hok)
    have HOWN := hid hown
    have HGE := hid hge
    have HND := hid hnd
    have HK1 := hid hk1
    clear hok hown hge hnd hk1
    generalize hkm : t.kids.length = km at HOWN
    clear hkm
    go_wp2_with fail
    have hk4 := Kp.set4 w1 w.heap.size 0 (.string k2) (.int .i64 n2) (.string x2) (.slice a2 km c2)
    obtain ⟨z0, z1, z2, z3⟩ := four_of (blkOld (.cells #[.string k2, .int .i64 n2, .string x2, .slice a2 km c2] 30) (four_set0 (u0 := .string k2) (u1 := .int .i64 n2) (u2 := .string x2) (u3 := .slice a2 km c2) HB1.out))
    refine bodyPost_ret (v := .tuple #[.agg #[.string k2, .int .i64 n2, .string x2, .slice a2 km c2], .nilIface]) (by simp [results, Try.results9, go_sem, z0, z1, z2, z3]) rfl ?_
    refine ⟨(Kp.extOf XW.out hk4 (Nat.le_refl _)).trans (Ext.alloc _ _), .inl ⟨HOK.out, _, bs, rfl, HOWN.out.keep ((hk4.mono (fun q _ hq e => ?_)).alloc _), fun b hb => ?_, HND.out⟩⟩
    · have := HGE.out q hq
      have e' : q = w.heap.size := e
      have := HMS.out
      have h9 : M.heap.size ≤ q := Nat.le_trans XV.out.size (HGE.out q hq)
      omega
    · have h9 : M.heap.size ≤ b := Nat.le_trans XV.out.size (HGE.out b hb)
      have := HMS.out
      omega
  · have HNO := hid (fun h => hno ((T.ok_small t).2 h))
    clear hno hk1
    go_wp2_with fail
    go_at_call 14
    refine (Fa.new_any 2 _ rfl).mono ?_
    rintro e w2 ⟨rfl, hc, hx⟩
    have HC := hid hc
    have hz := hx.block (blkOld _ HB1.out)
    have HZ := hid hz
    have XX := hid (XW.out.trans ((Ext.alloc _ _).trans hx))
    have hl2 : w.heap.size < w2.heap.size := lt_of_block hz
    have HL := hid (show w.heap.size < (w1.alloc (.cells #[.string ⟨#[]⟩, .int .i64 0, .string ⟨#[]⟩, .slice none 0 0] 30)).heap.size from Nat.lt_of_lt_of_le hl1 (Ext.alloc _ _).size)
    clear r0 r1 r2 r3 s0 s1 s2 s3 hc hx
    obtain ⟨r0, r1, r2, r3⟩ := four_of hz
    have s0 := frozen_of (i := 0) hz
    have s1 := frozen_of (i := 1) hz
    have s2 := frozen_of (i := 2) hz
    have s3 := frozen_of (i := 3) hz
    clear hz
    go_wp2_with fail
    obtain ⟨z0, z1, z2, z3⟩ := four_of (four_set0 (u0 := .string ⟨#[]⟩) (u1 := .int .i64 0) (u2 := .string ⟨#[]⟩) (u3 := .slice none 0 0) HZ.out)
    have hk4 := Kp.set4 w2 w.heap.size 0 (.string ⟨#[]⟩) (.int .i64 0) (.string ⟨#[]⟩) (.slice none 0 0)
    refine bodyPost_ret (v := .tuple #[zTree, ErrV (w1.alloc (.cells #[.string ⟨#[]⟩, .int .i64 0, .string ⟨#[]⟩, .slice none 0 0] 30)).heap.size]) (by simp [results, Try.results9, go_sem, z0, z1, z2, z3]) rfl ?_
    exact ⟨Kp.extOf XX.out hk4 (Nat.le_refl _), .inr ⟨HNO.out, _, rfl, hk4.block' HC.out (by have := HL.out; show _ ≠ w.heap.size; omega)⟩⟩
end Go.Proofs.Ytdikcdefpoolfaa
