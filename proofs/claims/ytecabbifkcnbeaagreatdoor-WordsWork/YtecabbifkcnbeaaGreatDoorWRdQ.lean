/-
  Join by a contract: of a list of plain values in memory.
-/
import Derived.Test.YtecabbifkcnbeaaGreatDoorWRefB
import Derived.Test.YtecabbifkcnbeaaGreatDoorCIn
import Derived.Test.YtecabbifkcnbeaaGreatDoorPTwin
import Derived.Test.YtecabbifkcnbeaaGreatDoorWKLaw
import Derived.Maps.AppendAt
import Derived.Test.YtecabbifkcnbeaaGreatDoorReads
namespace Go.Proofs.YtecabbifkcnbeaaGreatDoor
open Go.RowKit
/-- What Join answers. -/
def JoinR (w : World) (d : Nat) (ks : List T) (e : Ending) (w' : World) : Prop := Ext w w' ∧
  ((∃ t ∈ ks, ¬ t.may) ∧ e = .returned (.tuple #[.nilIface, .int .i64 1]) ∨
   (∀ t ∈ ks, t.may) ∧ ¬ (T.node 5 0 ⟨#[]⟩ ks).may ∧ e = .returned (.tuple #[.nilIface, .int .i64 2]) ∨
   (∀ t ∈ ks, t.may) ∧ (T.node 5 0 ⟨#[]⟩ ks).may ∧ ∃ u bs, e = .returned (.tuple #[u, .int .i64 0]) ∧ VOwn w' d u (.node 5 0 ⟨#[]⟩ ks) bs ∧ (∀ b ∈ bs, w.heap.size ≤ b) ∧ bs.Nodup)
theorem RdL.node {K : Nat → Prop} {w : World} {d : Nat} {a : Option Addr} {ks : List T} (c : Nat) (h : RdL K w d a ks) : Rd K w (d + 1) (.agg #[.int .i64 5, .int .i64 0, .string ⟨#[]⟩, .slice a ks.length c]) (.node 5 0 ⟨#[]⟩ ks) :=
  ⟨a, c, rfl, by decide, h.1, h.2⟩
set_option maxRecDepth 100000 in
set_option maxHeartbeats 4000000 in
theorem join_any {K : Nat → Prop} {d : Nat} {a : Option Addr} {c : Nat} {ks : List T} (w : World) (h : RdL K w d a ks) : Calls Tryz.prog 55 #[.slice a ks.length c] w (JoinR w (d + 1) ks) := by
  have HA := hid h
  have hl : (ks.length : Int) ≤ 140737488355328 := by have := h.1; omega
  clear h
  go_enter Tryz.func55, Tryz.ntmps55
  go_wp2_with fail
  go_loopw [9] (fun i wr => ∃ j : Nat, j ≤ ks.length ∧ i = .int .i64 j ∧ Ext w wr ∧ (∀ t ∈ ks.take j, t.may)) (fun i _ => ks.length - (intOf i).toNat)
  case atStart => exact ⟨0, Nat.zero_le _, rfl, Ext.refl _, by simp⟩
  case round =>
    obtain ⟨j, hj, rfl, hx, hall⟩ := hrel
    have HX := hid hx
    have HALL := hid hall
    clear hx hall
    by_cases hlt : j < ks.length
    · have hlt' : (j : Int) < ks.length := by omega
      obtain ⟨g, off, k', n', x', a', l', c', rfl, hg, h4, hrd⟩ := HA.out.kid hlt
      obtain ⟨m0, m1, m2, m3⟩ := h4.keep (HX.out.kp K) hg
      have HR := hid (hrd.later HX.out)
      have HT := hid (T.take_succ' ks j hlt)
      clear h4 hg hrd
      by_cases hm : ks[j].may
      · have HM := hid (may_to HR.out true (decide_eq_true hm))
        have HMM := hid hm
        clear hm
        go_wp2_with fail
        refine (HM.out _ (Ext.alloc _ _)).mono ?_
        rintro e w1 ⟨rfl, hx1⟩
        have HX1 := hid (HX.out.trans ((Ext.alloc wr _).trans hx1))
        clear hx1 m0 m1 m2 m3
        go_wp2_with fail
        go_roundw
        case rel =>
          refine ⟨j + 1, hlt, by go_num, HX1.out, fun t ht => ?_⟩
          rw [HT.out] at ht
          rcases List.mem_append.1 ht with h | h
          · exact HALL.out t h
          · rw [List.mem_singleton.1 h]; exact HMM.out
        case measure => simp [intOf]; omega
      · have HM := hid (may_to HR.out false (decide_eq_false hm))
        have HMM := hid hm
        clear hm
        go_wp2_with fail
        refine (HM.out _ (Ext.alloc _ _)).mono ?_
        rintro e w1 ⟨rfl, hx1⟩
        have HX1 := hid (HX.out.trans ((Ext.alloc wr _).trans hx1))
        clear hx1 m0 m1 m2 m3
        go_wp2_with fail
        go_ret2
        exact ⟨HX1.out, .inl ⟨⟨ks[j], List.getElem_mem hlt, HMM.out⟩, rfl⟩⟩
    · have hje : j = ks.length := by omega
      have HALL' := hid (show ∀ t ∈ ks, t.may by have := HALL.out; rw [hje, List.take_length] at this; exact this)
      have HR := hid (RdL.node c (HA.out.keep (HX.out.kp K)))
      by_cases hm : (T.node 5 0 ⟨#[]⟩ ks).may
      · have HM := hid (may_to HR.out true (decide_eq_true hm))
        have HG := hid hm
        clear hm hje
        go_wp2_with fail
        refine (HM.out _ (Ext.alloc _ _)).mono ?_
        rintro e w1 ⟨rfl, hx1⟩
        obtain ⟨p0, p1, p2, p3⟩ := four_of (hx1.block (blk0 wr _))
        have HX1 := hid ((Ext.alloc wr _).trans hx1)
        clear hx1
        go_wp2_with fail
        refine (value_any (d + 1) _ _ K w1 (HR.out.later HX1.out) HG.out.1).mono ?_
        rintro e w2 ⟨u, bs, rfl, hx2, ho, hge, hnd⟩
        obtain ⟨τ, p, rfl⟩ := ho.rd.iface
        clear p0 p1 p2 p3
        have HO := hid ho
        have HX2 := hid (HX.out.trans (HX1.out.trans hx2))
        have HGE := hid hge
        clear ho hx2 hge
        go_wp2_with fail
        go_ret2
        exact ⟨HX2.out, .inr (.inr ⟨HALL'.out, HG.out, _, bs, rfl, HO.out, fun b hb => Nat.le_trans (HX.out.trans HX1.out).size (HGE.out b hb), hnd⟩)⟩
      · have HM := hid (may_to HR.out false (decide_eq_false hm))
        have HG := hid hm
        clear hm hje
        go_wp2_with fail
        refine (HM.out _ (Ext.alloc _ _)).mono ?_
        rintro e w1 ⟨rfl, hx1⟩
        have HX1 := hid (HX.out.trans ((Ext.alloc wr _).trans hx1))
        clear hx1
        go_wp2_with fail
        go_ret2
        exact ⟨HX1.out, .inr (.inl ⟨HALL'.out, HG.out, rfl⟩)⟩
end Go.Proofs.YtecabbifkcnbeaaGreatDoor
/-
  The reference's Copy by a contract: the same plain value, in lists that were not there; its Join.
-/
namespace Go.Proofs.YtecabbifkcnbeaaGreatDoor
open Go.RowKit
/-- The plain values of a row. -/
def RowOk (w : World) (base d : Nat) (v : Value) (ks : List T) (xs : List Value) : Prop :=
  ∀ j, (h : j < ks.length) → ∃ u0 u1 u2 u3, xs[j * 4]? = some u0 ∧ xs[j * 4 + 1]? = some u1 ∧ xs[j * 4 + 2]? = some u2 ∧ xs[j * 4 + 3]? = some u3 ∧ Rd (fun q => base ≤ q ∧ v.ownBlock ≠ some q) w d (.agg #[u0, u1, u2, u3]) ks[j]
end Go.Proofs.YtecabbifkcnbeaaGreatDoor
/-
  A text's reading goes on ahead.
-/
namespace Go.Proofs.YtecabbifkcnbeaaGreatDoor
theorem quoQ_ge {s : ByteArray} {i : Nat} {t : T} {a : Nat} (h : quoQ s i = .ok t a) : i ≤ a := by
  obtain ⟨x, _, _, e⟩ := quoL_bwd _ _ _ _ _ h
  omega
open Go.RowKit
def zeroP : Value := .agg #[.int .i64 0, .int .i64 0, .string ⟨#[]⟩, .slice none 0 0]
theorem rmay_to {K : Nat → Prop} {d : Nat} {v : Value} {t : T} {w : World} (hr : Rd K w d v t) (b : Bool) (hb : decide t.may = b) (w1 : World) (hx : Ext w w1) : Calls Tryz.prog 60 #[v] w1 fun e w' => e = .returned (.bool b) ∧ Ext w1 w' := by
  have := rmay_any w1 (hr.later hx)
  rw [hb] at this
  exact this
end Go.Proofs.YtecabbifkcnbeaaGreatDoor
