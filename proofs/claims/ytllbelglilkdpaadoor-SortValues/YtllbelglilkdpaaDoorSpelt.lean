/-
  sign.digit, sign.ofWord, sign.ofName, sign.spelt, sign.Word, sign.Name, each by a contract.
-/
import Derived.Test.YtllbelglilkdpaaDoorEqp
namespace Go.Proofs.YtllbelglilkdpaaDoor
open Go.RowKit

def digI (r : Int) : Bool := decide (48 ≤ r ∧ r ≤ 57)
def wordI (r : Int) : Bool := decide (97 ≤ r ∧ r ≤ 122) || digI r
def nameI (r : Int) : Bool := wordI r || decide (65 ≤ r ∧ r ≤ 90) || decide (r = 95)
theorem wordI_in {r : Int} (h1 : 97 ≤ r) (h2 : r ≤ 122) : wordI r = true := by simp [wordI, h1, h2]
theorem wordI_out {r : Int} (h : ¬ (97 ≤ r ∧ r ≤ 122)) : wordI r = digI r := by unfold wordI; rw [decide_eq_false h]; rfl
theorem nameI_cap {r : Int} (h1 : 65 ≤ r) (h2 : r ≤ 90) : nameI r = true := by simp [nameI, h1, h2]
theorem nameI_else {r : Int} (hw : wordI r = false) (h : ¬ (65 ≤ r ∧ r ≤ 90)) : nameI r = (r == 95) := by unfold nameI; rw [decide_eq_false h, hw]; by_cases e : r = 95 <;> simp [e]
theorem high_digI {r : Int} (h : 128 ≤ r) : digI r = false := by simp [digI]; omega
theorem high_wordI {r : Int} (h : 128 ≤ r) : wordI r = false := by rw [wordI_out (by omega)]; exact high_digI h
theorem high_nameI {r : Int} (h : 128 ≤ r) : nameI r = false := by rw [nameI_else (high_wordI h) (by omega)]; simp; omega
theorem Ext.iter {w w' : World} (h : Ext w w') (s : ByteArray) (pos : Nat) : Ext w (w'.iter s pos) := h.trans (Ext.alloc _ _)
/-- 1 to m signs, each such that f takes it, and no digit first. -/
def speltB (f : Int → Bool) (m : Nat) (l : List UInt8) : Bool := !l.isEmpty && decide (l.length ≤ m) && l.all (fun c => f c.toNat) && !(l.head?.any (fun c => digI c.toNat))
theorem speltB_none (f : Int → Bool) (m : Nat) : speltB f m [] = false := rfl
theorem speltB_long {f : Int → Bool} {m : Nat} {l : List UInt8} (h : m < l.length) : speltB f m l = false := by
  have : decide (l.length ≤ m) = false := by simp; omega
  simp [speltB, this]
theorem speltB_bad {f : Int → Bool} {m k : Nat} {l : List UInt8} (h : k < l.length) (hf : f l[k].toNat = false) : speltB f m l = false := by
  have : l.all (fun c => f c.toNat) = false := by
    rw [List.all_eq_false]
    exact ⟨l[k], List.getElem_mem h, by simp [hf]⟩
  simp [speltB, this]
theorem speltB_digit {f : Int → Bool} {m : Nat} {l : List UInt8} (h : 0 < l.length) (hf : digI l[0].toNat = true) : speltB f m l = false := by
  cases l with
  | nil => rfl
  | cons c l =>
    have : ((c :: l).head?.any (fun c => digI c.toNat)) = true := hf
    simp only [speltB, this]
    simp
theorem speltB_good {f : Int → Bool} {m : Nat} {l : List UInt8} (h0 : 0 < l.length) (hm : l.length ≤ m) (ha : ∀ k, (h : k < l.length) → f l[k].toNat = true) (hd : digI l[0].toNat = false) : speltB f m l = true := by
  cases l with
  | nil => simp at h0
  | cons c l =>
    have e1 : ((c :: l).head?.any (fun c => digI c.toNat)) = false := hd
    have e2 : (c :: l).all (fun c => f c.toNat) = true := by
      rw [List.all_eq_true]
      intro x hx
      obtain ⟨k, hk, rfl⟩ := List.getElem_of_mem hx
      exact ha k hk
    simp only [speltB, e1, e2]
    simp at hm ⊢
    exact hm
theorem at_list (s : ByteArray) (k : Nat) (h : k < s.size) : ∃ h' : k < s.data.toList.length, s[k] = s.data.toList[k] := ⟨by simpa using h, by simp; rfl⟩
theorem size_list (s : ByteArray) : s.data.toList.length = s.size := by simp

end Go.Proofs.YtllbelglilkdpaaDoor
