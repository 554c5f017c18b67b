/-
  Numbers and texts as plain values; the answers that operations give.
-/
import Derived.Test.YtgpggkepgoelfaaGreatDoorCWork
namespace Go.Proofs.YtgpggkepgoelfaaGreatDoor
open Go.RowKit
/-- A number as a plain value. -/
def intT (n : Int) : T := .node 3 n ⟨#[]⟩ []
def unitT : T := .node 1 0 ⟨#[]⟩ []
theorem intT_may (n : Int) : (intT n).may := by
  refine ⟨⟨.inr (.inr (.inl ⟨rfl, rfl, rfl⟩)), trivial⟩, ?_, ?_⟩
  · show (T.node 3 n ⟨#[]⟩ []).size ≤ 65536
    simp only [T.size, T.sizeL]; decide
  · show (T.node 3 n ⟨#[]⟩ []).deep ≤ 64
    simp only [T.deep]; simp
theorem unitT_may : unitT.may := by
  refine ⟨⟨.inl ⟨rfl, rfl, rfl, rfl⟩, trivial⟩, ?_, ?_⟩
  · show (T.node 1 0 ⟨#[]⟩ []).size ≤ 65536
    simp only [T.size, T.sizeL]; decide
  · show (T.node 1 0 ⟨#[]⟩ []).deep ≤ 64
    simp only [T.deep]; simp
theorem VRd.int {K : Nat → Prop} {w : World} {d : Nat} {v : Value} {n : Int} (h : VRd K w d v (intT n)) : v = .iface 87 (.int .i64 n) := by
  cases d with
  | zero => exact h.elim
  | succ d =>
    rcases h with ⟨h, _⟩ | ⟨h, _⟩ | ⟨_, _, _, h⟩ | ⟨h, _⟩ | ⟨h, _⟩
    · exact absurd h (by decide)
    · exact absurd h (by decide)
    · exact h
    · exact absurd h (by decide)
    · exact absurd h (by decide)
theorem NRes.came (n : Int) : NRes (cameV n) := .inl ⟨n, rfl⟩
theorem NRes.told (b : Bool) : NRes (toldV b) := .inr (.inl ⟨b, rfl⟩)
theorem NRes.ref {c : Int} (h : (c == 0) = false) : NRes (refV c) := .inr (.inr (.inl ⟨c, h, rfl⟩))
theorem NRes.wrote {s : ByteArray} (h : s.size ≤ 65535) : NRes (wroteV s) := .inr (.inr (.inr ⟨s, h, rfl⟩))
theorem NRes.three {R : Value} (h : NRes R) : ∃ x y z, R = .tuple #[x, y, z] := by
  rcases h with ⟨_, rfl⟩ | ⟨_, rfl⟩ | ⟨_, _, rfl⟩ | ⟨_, _, rfl⟩ <;> exact ⟨_, _, _, rfl⟩
/-- A text as a plain value. -/
def textT (s : ByteArray) : T := .node 4 0 s []
theorem textT_may {s : ByteArray} (h : s.size ≤ 65535) : (textT s).may := by
  refine ⟨⟨.inr (.inr (.inr (.inl ⟨rfl, rfl, rfl⟩))), trivial⟩, ?_, ?_⟩
  · show (T.node 4 0 s []).size ≤ 65536
    simp only [T.size, T.sizeL]; omega
  · show (T.node 4 0 s []).deep ≤ 64
    simp only [T.deep]; simp
theorem textT_not {s : ByteArray} (h : 65535 < s.size) : ¬ (textT s).may := by
  intro hm
  have : (T.node 4 0 s []).size ≤ 65536 := hm.2.1
  simp only [T.size, T.sizeL] at this
  omega
theorem VRd.text {K : Nat → Prop} {w : World} {d : Nat} {v : Value} {s : ByteArray} (h : VRd K w d v (textT s)) : v = .iface 89 (.string s) := by
  cases d with
  | zero => exact h.elim
  | succ d =>
    rcases h with ⟨h, _⟩ | ⟨h, _⟩ | ⟨h, _⟩ | ⟨_, _, _, _, h⟩ | ⟨h, _⟩
    · exact absurd h (by decide)
    · exact absurd h (by decide)
    · exact absurd h (by decide)
    · exact h
    · exact absurd h (by decide)
end Go.Proofs.YtgpggkepgoelfaaGreatDoor
