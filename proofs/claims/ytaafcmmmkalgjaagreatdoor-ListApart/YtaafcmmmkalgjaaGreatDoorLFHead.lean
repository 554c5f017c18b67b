/-
  ListFresh: Full of what list.Work answered; the sets of blocks of a round.
-/
import Derived.Test.YtaafcmmmkalgjaaGreatDoorVLists
import Derived.Test.YtaafcmmmkalgjaaGreatDoorCTItems
import Derived.Test.YtaafcmmmkalgjaaGreatDoorLRefF
namespace Go.Proofs.YtaafcmmmkalgjaaGreatDoor
open Go.RowKit
attribute [local go_sem] as_li_li
set_option maxRecDepth 100000 in
set_option maxHeartbeats 2000000 in
theorem full_nil (m : Int) (w : World) : Calls Tryz.prog 9 #[.iface 81 (.slice none 0 0), .int .i64 m] w fun e w' => (∃ u, e = .returned u) ∧ Ext w w' := by
  go_enter Tryz.func9, Tryz.ntmps9
  go_wp2_with fail
  go_loopw [6] (fun i wr => i = .int .i64 0 ∧ wr = w) (fun _ _ => 0)
  case atStart => exact ⟨rfl, rfl⟩
  case round =>
    obtain ⟨rfl, rfl⟩ := hrel
    go_wp2_with fail
    go_loopw [4] (fun lv wq => lv = .slice none 0 0 ∧ wq = wr) (fun _ _ => 0)
    case atStart => exact ⟨rfl, rfl⟩
    case round =>
      obtain ⟨rfl, rfl⟩ := hrel
      go_wp2_with fail
      go_end0
      exact ⟨⟨_, rfl⟩, Ext.refl _⟩
theorem fullE_any {d : Nat} {v : Value} {t : T} {bs : List Nat} (w : World) (m : Int) (h : VOwnE w d v t bs) (hn : bs.Nodup) (hz : t.size ≤ 65536) : Calls Tryz.prog 9 #[v, .int .i64 m] w fun e w' => (∃ u, e = .returned u) ∧ KpOff bs w w' := by
  rcases h with h | ⟨rfl, _, rfl⟩
  · exact full_any d v t bs w m h hn hz
  · exact (full_nil m w).mono fun _ _ ⟨he, hx⟩ => ⟨he, hx.kp _⟩
theorem sameV {K K' : Nat → Prop} {d d' : Nat} {v v' : Value} {t : T} (w : World) (hr : VRd K w d v t) (hr' : Rd K' w d' v' t) (hm : t.may) : Calls Tryz.prog 11 #[v, v'] w fun e w' => e = .returned (.bool true) ∧ Ext w w' := by
  have e := is_any w hr hr' (Nat.le_trans (T.nodes_size _) (Nat.le_trans hm.2.1 (by decide))) (Nat.le_trans hm.2.2 (by decide))
  rw [(T.beq_eq _ _).2 rfl] at e
  exact e
/-- The rows' blocks behind a round. -/
def O1 (O : Nat → Prop) (a b : Nat) : Nat → Prop := fun q => (O q ∧ q < a) ∨ b ≤ q
/-- What is read behind a round. -/
def R1 (R : Nat → Prop) (a b : Nat) (X : List Nat) : Nat → Prop := fun q => (R q ∧ q < a) ∨ (a ≤ q ∧ q < b ∧ q ∉ X)
theorem OR1 {O R : Nat → Prop} {a b : Nat} {X : List Nat} (h : ∀ q, O q → ¬ R q) (hab : a ≤ b) (q : Nat) (hO : O1 O a b q) : ¬ R1 R a b X q := by
  rintro (⟨hR, _⟩ | ⟨h1, h2, _⟩)
  · rcases hO with ⟨hO, _⟩ | hO
    · exact h q hO hR
    · omega
  · rcases hO with ⟨_, hO⟩ | hO <;> omega
theorem O1_mid {O : Nat → Prop} {a b q : Nat} (h1 : a ≤ q) (h2 : q < b) : ¬ O1 O a b q := by
  rintro (⟨_, h⟩ | h) <;> omega
theorem O1_low {O R : Nat → Prop} {m a b q : Nat} (h : ∀ q, O q → ¬ R q) (hl : ∀ q, q < m → R q) (hm : m ≤ b) (hq : q < m) : ¬ O1 O a b q := by
  rintro (⟨hO, _⟩ | hO)
  · exact h q hO (hl q hq)
  · omega
theorem VQ.offR {w w' : World} {base a b : Nat} {O R : Nat → Prop} {X : List Nat} {qv : Value} {acc : List T} (h : VQ w base (O1 O a b) (R1 R a b X) qv acc) (hk : KpOff X w w') (hb : ∀ q ∈ X, a ≤ q ∧ q < b) : VQ w' base (O1 O a b) (R1 R a b X) qv acc :=
  h.keep' hk (fun q hq e => O1_mid (hb q e).1 (hb q e).2 (h.own hq).2.1) (fun q _ hR e => by
    rcases hR with ⟨_, hR⟩ | ⟨_, _, hR⟩
    · have := (hb q e).1; omega
    · exact hR e)
theorem PQ.offR {w w' : World} {base a b : Nat} {O R : Nat → Prop} {X : List Nat} {qv : Value} {acc : List T} (h : PQ w base (O1 O a b) (R1 R a b X) qv acc) (hk : KpOff X w w') (hb : ∀ q ∈ X, a ≤ q ∧ q < b) : PQ w' base (O1 O a b) (R1 R a b X) qv acc :=
  h.keep' hk (fun q hq e => O1_mid (hb q e).1 (hb q e).2 (h.own hq).2.1) (fun q _ hR e => by
    rcases hR with ⟨_, hR⟩ | ⟨_, _, hR⟩
    · have := (hb q e).1; omega
    · exact hR e)
theorem R1_off {R : Nat → Prop} {a b : Nat} {X : List Nat} (hb : ∀ q ∈ X, a ≤ q ∧ q < b) (q : Nat) (h : R1 R a b X q) : q ∉ X := fun e => by
  rcases h with ⟨_, h⟩ | ⟨_, _, h⟩
  · have := (hb q e).1; omega
  · exact h e
/-- What lay below lies as it lay, whatever else was written. -/
theorem Ext.more' {w W W' : World} {L : Nat → Prop} (h : Ext w W) (hk : Kp L W W') (hl : ∀ q, q < w.heap.size → L q) : Ext w W' :=
  ((h.kp (· < w.heap.size)).trans (hk.mono fun q _ hq => hl q hq)).ext fun _ hk => hk
/-- The loop's state: no block of the rows is one that is read. -/
def FI (w : World) (j : Nat) (qv wv : Value) (acc : List T) (wr : World) : Prop := ∃ O R : Nat → Prop, j ≤ 30 ∧ acc.length ≤ j ∧ (∀ t ∈ acc, t.may) ∧ Ext w wr ∧ VQ wr w.heap.size O R qv acc ∧ PQ wr w.heap.size O R wv acc ∧ (∀ q, O q → ¬ R q) ∧ (∀ q, q < w.heap.size → R q)
theorem FI.later {w wr w' : World} {j : Nat} {qv wv : Value} {acc : List T} (h : FI w j qv wv acc wr) (hx : Ext wr w') (h5 : j < 30) : FI w (j + 1) qv wv acc w' := by
  obtain ⟨O, R, a1, a4, a5, a6, a7, a8, a9, a10⟩ := h
  exact ⟨O, R, by omega, by omega, a5, a6.trans hx, a7.later hx, a8.later hx, a9, a10⟩
end Go.Proofs.YtaafcmmmkalgjaaGreatDoor
