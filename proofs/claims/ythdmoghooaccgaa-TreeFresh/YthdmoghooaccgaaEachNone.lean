/-
  The iterator of Each of a tree that is too great: it hands out nothing.
-/
import Derived.Test.YthdmoghooaccgaaEachIt
import Derived.Test.YthdmoghooaccgaaFaceAt
namespace Go.Proofs.Ythdmoghooaccgaa
open Go.RowKit Go.Shelf
attribute [local go_sem] Oper.semAt_some
set_option maxRecDepth 100000 in
set_option maxHeartbeats 2000000 in
theorem each_none {t : T} {eb ob : Nat} {w : World} {M0 : Nat → Prop} (he : w.heap[eb]? = some (.cells #[.int .i64 2] 42)) :
    IterOk 45 #[.pointer (some ⟨eb, 0, none⟩), .pointer (some ⟨ob, 0, none⟩)] 0 M0 w (eachX t w.heap.size) := by
  intro l J Jx W M hlt hst hxlt hxst hY hx hM hJ
  have z0 := cell_of (i := 0) (hx.block he) rfl
  simp only [List.getElem_toArray, List.getElem_cons_zero] at z0
  have hl1 := lt_of_block (hx.block he)
  have HJ := hid hJ
  have HST := hid hst
  clear hlt hst hxlt hxst hY hx hM hJ
  refine callsIn_of_wp_marks Try.func45 rfl trivial ?_ rfl
  show Code.wpIn _ _ _ _ _ _ _
  simp only [Try.ntmps45, List.size_toArray, List.length_cons, List.length_nil, Nat.reduceAdd, Nat.reduceSub, Array.replicate_succ, Array.replicate_zero, List.push_toArray, List.append_toArray, List.nil_append, List.cons_append]
  gi_wp2_with fail
  refine ⟨_, results_none rfl _ _ _, ⟨_, rfl⟩, (Ext.alloc _ _).kp _, .inl ⟨M, HST.out _ _ _ _ HJ.out ((Ext.alloc _ _).kp _), fun k hk => .inl hk⟩⟩
end Go.Proofs.Ythdmoghooaccgaa
