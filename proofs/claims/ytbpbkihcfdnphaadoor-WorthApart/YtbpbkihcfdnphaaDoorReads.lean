/-
  What a value's text is read as, by plain data.
-/
import Derived.Test.YtbpbkihcfdnphaaDoorDefer
namespace Go.Proofs.YtbpbkihcfdnphaaDoor
open Go.RowKit
def wrdR (s : ByteArray) (i : Nat) (l : List UInt8) (t : T) : Rs := if wordK s i l = l.length then .ok t (i + wordK s i l) else .bad 5 (i + wordK s i l)
mutual
/-- The value that stands at i, within n lists. -/
def rdV (s : ByteArray) (Q : Nat → Rs) : Nat → Nat → Nat → Rs
  | 0, _, _ => .bad 1 0
  | f + 1, n, i =>
    if nxt s i = 117 then wrdR s i [117, 110, 105, 116] (.node 1 0 ⟨#[]⟩ [])
    else if nxt s i = 121 then wrdR s i [121, 101, 115] (.node 2 1 ⟨#[]⟩ [])
    else if nxt s i = 110 then wrdR s i [110, 111] (.node 2 0 ⟨#[]⟩ [])
    else if nxt s i = 45 ∨ digP (nxt s i) then numR s i
    else if nxt s i = 34 then Q i
    else if nxt s i = 91 then (if n = 64 then .bad 2 i else if nxt s (i + 1) = 93 then .ok (.node 5 0 ⟨#[]⟩ []) (i + 2) else rdL s Q f (n + 1) (i + 1) [])
    else .bad 5 i
/-- A list's items from i on, behind acc. -/
def rdL (s : ByteArray) (Q : Nat → Rs) : Nat → Nat → Nat → List T → Rs
  | 0, _, _, _ => .bad 1 0
  | f + 1, n, i, acc =>
    match rdV s Q f n i with
    | .bad e a => .bad e a
    | .ok t a => if nxt s a = 93 then .ok (.node 5 0 ⟨#[]⟩ (acc ++ [t])) (a + 1) else if nxt s a = 44 then (if nxt s (a + 1) = 32 then rdL s Q f n (a + 2) (acc ++ [t]) else .bad 5 (a + 1)) else .bad 5 a
end
/-- What the reader leans on: ParseInt, and texts. -/
structure REnv (b : Nat) (s : ByteArray) (I : World → Prop) (Q : Nat → Rs) : Prop where
  keep : ∀ w w', I w → Kp (· ≠ b) w w' → I w'
  par : ∀ i w, I w → digP (nxt s (numAt s i)) → ParTo s i w
  quo : ∀ w i n d, I w → RdAt w b s i n → i < s.size → nxt s i = 34 → Calls Tryd.prog 58 #[.pointer (some ⟨b, 0, none⟩)] w (RsP w b s n (d + 1) (Q i))
  ahead : ∀ i t a, Q i = .ok t a → i ≤ a
theorem digEnd_ge (s : ByteArray) (i : Nat) : i ≤ digEnd s i := by
  unfold digEnd
  split
  · have := digEnd_ge s (i + 1); omega
  · exact Nat.le_refl _
termination_by s.size - i
theorem numR_ge {s : ByteArray} {i : Nat} {t : T} {a : Nat} (h : numR s i = .ok t a) : i ≤ a := by
  have hA : i ≤ numAt s i := by unfold numAt; split <;> omega
  have hD := digEnd_ge s (numAt s i)
  unfold numR at h
  split at h
  · cases h; omega
  split at h
  · cases h
  split at h
  · cases h; omega
  · cases h
theorem wrdR_ge {s : ByteArray} {i : Nat} {l : List UInt8} {t t' : T} {a : Nat} (h : wrdR s i l t = .ok t' a) : i ≤ a := by
  unfold wrdR at h
  split at h
  · cases h; omega
  · cases h
mutual
theorem rdV_ge {s : ByteArray} {Q : Nat → Rs} (hQ : ∀ i t a, Q i = .ok t a → i ≤ a) : ∀ (f n i : Nat) (t : T) (a : Nat), rdV s Q f n i = .ok t a → i ≤ a
  | 0, _, _, _, _, h => by simp [rdV] at h
  | f + 1, n, i, t, a, h => by
    simp only [rdV] at h
    split at h
    · exact wrdR_ge h
    split at h
    · exact wrdR_ge h
    split at h
    · exact wrdR_ge h
    split at h
    · exact numR_ge h
    split at h
    · exact hQ _ _ _ h
    split at h
    · split at h
      · cases h
      split at h
      · cases h; omega
      · have := rdL_ge hQ f (n + 1) (i + 1) [] t a h; omega
    · cases h
theorem rdL_ge {s : ByteArray} {Q : Nat → Rs} (hQ : ∀ i t a, Q i = .ok t a → i ≤ a) : ∀ (f n i : Nat) (acc : List T) (t : T) (a : Nat), rdL s Q f n i acc = .ok t a → i ≤ a
  | 0, _, _, _, _, _, h => by simp [rdL] at h
  | f + 1, n, i, acc, t, a, h => by
    simp only [rdL] at h
    split at h
    · cases h
    · rename_i t1 a1 h1
      have g1 := rdV_ge hQ f n i t1 a1 h1
      split at h
      · cases h; omega
      split at h
      · split at h
        · have := rdL_ge hQ f n (a1 + 2) (acc ++ [t1]) t a h; omega
        · cases h
      · cases h
end
end Go.Proofs.YtbpbkihcfdnphaaDoor
