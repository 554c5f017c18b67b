/-
  Trees, by plain data: how many nodes, how deep, how many bytes; the nodes in order, each with its path.
-/
namespace Go.Proofs.Ytdikcdefpoolfaa

/-- A tree. -/
inductive T where
  | node (k : ByteArray) (n : Int) (x : ByteArray) (kids : List T)
namespace T
def kids : T → List T | node _ _ _ ks => ks
def kind : T → ByteArray | node k _ _ _ => k
def text : T → ByteArray | node _ _ x _ => x
mutual
def size : T → Nat | node _ _ _ ks => 1 + sizeL ks
def sizeL : List T → Nat | [] => 0 | t :: r => size t + sizeL r
end
mutual
def height : T → Nat | node _ _ _ ks => 1 + heightL ks
def heightL : List T → Nat | [] => 0 | t :: r => max (height t) (heightL r)
end
mutual
def bytes : T → Nat | node _ _ x ks => x.size + bytesL ks
def bytesL : List T → Nat | [] => 0 | t :: r => bytes t + bytesL r
end
/-- Not so great that it may not be. -/
def small (t : T) : Prop := t.size ≤ 1024 ∧ t.height ≤ 64 ∧ t.bytes ≤ 16384
instance (t : T) : Decidable t.small := by unfold small; exact inferInstance
theorem ind {P : T → Prop} (h : ∀ k n x ks, (∀ u ∈ ks, P u) → P (node k n x ks)) : ∀ t, P t
  | node k n x ks => h k n x ks (fun u _ => ind h u)
theorem size_pos (t : T) : 1 ≤ t.size := by cases t; simp only [size]; omega
theorem height_pos (t : T) : 1 ≤ t.height := by cases t; simp only [height]; omega
theorem sizeL_append (a b : List T) : sizeL (a ++ b) = sizeL a + sizeL b := by
  induction a with
  | nil => simp [sizeL]
  | cons x r ih => simp only [List.cons_append, sizeL, ih]; omega
theorem bytesL_append (a b : List T) : bytesL (a ++ b) = bytesL a + bytesL b := by
  induction a with
  | nil => simp [bytesL]
  | cons x r ih => simp only [List.cons_append, bytesL, ih]; omega
theorem heightL_append (a b : List T) : heightL (a ++ b) = max (heightL a) (heightL b) := by
  induction a with
  | nil => simp [heightL]
  | cons x r ih => simp only [List.cons_append, heightL, ih]; omega
theorem sizeL_len (a : List T) : a.length ≤ sizeL a := by
  induction a with
  | nil => simp [sizeL]
  | cons x r ih => have := size_pos x; simp only [sizeL, List.length_cons]; omega
theorem take_succ' {α : Type} (l : List α) (i : Nat) (h : i < l.length) : l.take (i + 1) = l.take i ++ [l[i]] := by
  rw [List.take_add_one, List.getElem?_eq_getElem h]; rfl
theorem sizeL_take (l : List T) (i : Nat) (h : i < l.length) : sizeL (l.take (i + 1)) = sizeL (l.take i) + size l[i] := by
  rw [take_succ' l i h, sizeL_append]; simp [sizeL]
theorem bytesL_take (l : List T) (i : Nat) (h : i < l.length) : bytesL (l.take (i + 1)) = bytesL (l.take i) + bytes l[i] := by
  rw [take_succ' l i h, bytesL_append]; simp [bytesL]
theorem heightL_take (l : List T) (i : Nat) (h : i < l.length) : heightL (l.take (i + 1)) = max (heightL (l.take i)) (height l[i]) := by
  rw [take_succ' l i h, heightL_append]; simp [heightL]
theorem sizeL_split (l : List T) (i : Nat) : sizeL l = sizeL (l.take i) + sizeL (l.drop i) := by rw [← sizeL_append, List.take_append_drop]
theorem bytesL_split (l : List T) (i : Nat) : bytesL l = bytesL (l.take i) + bytesL (l.drop i) := by rw [← bytesL_append, List.take_append_drop]
theorem heightL_split (l : List T) (i : Nat) : heightL l = max (heightL (l.take i)) (heightL (l.drop i)) := by rw [← heightL_append, List.take_append_drop]
theorem sizeL_room (l : List T) (i : Nat) : sizeL (l.take i) + (l.length - i) ≤ sizeL l := by
  rw [sizeL_split l i]; have := sizeL_len (l.drop i); rw [List.length_drop] at this; omega
theorem sizeL_mem {u : T} {l : List T} (h : u ∈ l) : size u ≤ sizeL l := by
  induction l with
  | nil => cases h
  | cons x r ih =>
    simp only [sizeL]
    rcases List.mem_cons.1 h with rfl | h
    · omega
    · have := ih h; omega
theorem bytesL_mem {u : T} {l : List T} (h : u ∈ l) : bytes u ≤ bytesL l := by
  induction l with
  | nil => cases h
  | cons x r ih =>
    simp only [bytesL]
    rcases List.mem_cons.1 h with rfl | h
    · omega
    · have := ih h; omega
theorem heightL_mem {u : T} {l : List T} (h : u ∈ l) : height u ≤ heightL l := by
  induction l with
  | nil => cases h
  | cons x r ih =>
    simp only [heightL]
    rcases List.mem_cons.1 h with rfl | h
    · omega
    · have := ih h; omega
theorem small_kid {t u : T} (h : t.small) (hu : u ∈ t.kids) : u.small := by
  obtain ⟨k, n, x, ks⟩ := t
  obtain ⟨h1, h2, h3⟩ := h
  simp only [size, height, bytes, kids] at h1 h2 h3 hu
  exact ⟨by have := sizeL_mem hu; omega, by have := heightL_mem hu; omega, by have := bytesL_mem hu; omega⟩
/-- Whether a tree, that lies so deep, may be added to what was counted. -/
def ok (N B dep : Nat) (t : T) : Prop := N + t.size ≤ 1024 ∧ dep + t.height ≤ 65 ∧ B + t.bytes ≤ 16384
instance (N B dep : Nat) (t : T) : Decidable (ok N B dep t) := by unfold ok; exact inferInstance
theorem ok_small (t : T) : ok 0 0 1 t ↔ t.small := by unfold ok small; omega

mutual
def all : List Int → T → List (List Int × T) | p, node k n x ks => (p, node k n x ks) :: allL p 0 ks
def allL : List Int → Nat → List T → List (List Int × T) | _, _, [] => [] | p, i, t :: r => all (p ++ [(i : Int)]) t ++ allL p (i + 1) r
end
mutual
theorem all_length : ∀ (t : T) (p : List Int), (all p t).length = t.size
  | node k n x ks, p => by simp only [all, size, List.length_cons, allL_length ks p 0]; omega
theorem allL_length : ∀ (l : List T) (p : List Int) (i : Nat), (allL p i l).length = sizeL l
  | [], _, _ => by simp [allL, sizeL]
  | t :: r, p, i => by simp only [allL, sizeL, List.length_append, all_length t, allL_length r]
end
theorem allL_append : ∀ (a b : List T) (p : List Int) (i : Nat), allL p i (a ++ b) = allL p i a ++ allL p (i + a.length) b
  | [], b, p, i => by simp [allL]
  | x :: r, b, p, i => by simp only [List.cons_append, allL, allL_append r b p (i + 1), List.append_assoc, List.length_cons]; congr 3; omega
theorem allL_take (l : List T) (p : List Int) (i : Nat) (h : i < l.length) : allL p 0 (l.take (i + 1)) = allL p 0 (l.take i) ++ all (p ++ [(i : Int)]) l[i] := by
  rw [take_succ' l i h, allL_append]
  simp only [allL, List.length_take, Nat.min_eq_left (Nat.le_of_lt h), List.append_nil]
  congr 3
  simp
/-- The tree at a path. -/
def at? : T → List Int → Option T
  | t, [] => some t
  | node _ _ _ ks, i :: r => if 0 ≤ i ∧ i < ks.length then (match ks[i.toNat]? with | some u => at? u r | none => none) else none
/-- With another tree at a path. -/
def put : T → List Int → T → T
  | _, [], u => u
  | node k n x ks, i :: r, u => node k n x (match ks[i.toNat]? with | some y => ks.set i.toNat (put y r u) | none => ks)
mutual
def beq : T → T → Bool
  | node k n x ks, node k' n' x' ks' => decide (k = k') && decide (n = n') && decide (x = x') && beqL ks ks'
def beqL : List T → List T → Bool
  | [], [] => true
  | a :: r, b :: q => beq a b && beqL r q
  | _, _ => false
end
end T
end Go.Proofs.Ytdikcdefpoolfaa
