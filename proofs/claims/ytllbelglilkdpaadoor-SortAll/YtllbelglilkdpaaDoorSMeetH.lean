/-
  A solver in memory.
-/
import Derived.Test.YtllbelglilkdpaaDoorSBare
import Derived.Deep.DeepCutAuto
namespace Go.Proofs.YtllbelglilkdpaaDoor
open Go.RowKit
/-- The function values. -/
abbrev standF (kb : Nat) : Value := .func (.func 64) #[] #[.pointer (some ⟨kb, 0, none⟩)]
abbrev foundF (b2 : Nat) : Value := .func (.func 57) #[] #[.pointer (some ⟨b2, 0, none⟩)]
abbrev meetF (b3 b1 : Nat) : Value := .func (.func 58) #[] #[.pointer (some ⟨b3, 0, none⟩), .pointer (some ⟨b1, 0, none⟩)]
/-- A solver lies there. -/
structure Sol (w : World) (kb mb N b1 b2 b3 : Nat) (σ : ByteArray → Option Sh) : Prop where
  map : SolM w kb mb N σ
  c1 : w.heap[b1]? = some (.cells #[standF kb] 74)
  c2 : w.heap[b2]? = some (.cells #[standsF kb] 75)
  c3 : w.heap[b3]? = some (.cells #[foundF b2] 69)
  n1 : b1 ≠ mb
  n2 : b2 ≠ mb
  n3 : b3 ≠ mb
theorem Sol.later {w w' : World} {kb mb N b1 b2 b3 : Nat} {σ : ByteArray → Option Sh} (h : Sol w kb mb N b1 b2 b3 σ) (hx : Ext w w') : Sol w' kb mb N b1 b2 b3 σ := ⟨h.map.later hx, hx.block h.c1, hx.block h.c2, hx.block h.c3, h.n1, h.n2, h.n3⟩
end Go.Proofs.YtllbelglilkdpaaDoor
