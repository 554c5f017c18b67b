/-
  Closed readings, and the statements' own num, text, list.
-/
import Derived.Test.YtbpbkihcfdnphaaGreatDoorReadF
import Derived.Test.YtbpbkihcfdnphaaGreatDoorTextF
import Derived.Test.YtbpbkihcfdnphaaGreatDoorShelf
namespace Go.Proofs.YtbpbkihcfdnphaaGreatDoor
open Go.RowKit
def numV (n : Int) : Value := .agg #[.int .i64 3, .int .i64 n, .string ⟨#[]⟩, .slice none 0 0]
def txtV (x : ByteArray) : Value := .agg #[.int .i64 4, .int .i64 0, .string x, .slice none 0 0]
theorem num_rd (K : Nat → Prop) (w : World) (n : Int) : Rd K w 1 (numV n) (.node 3 n ⟨#[]⟩ []) := ⟨none, 0, rfl, by decide, by decide, .inl rfl⟩
theorem txt_rd (K : Nat → Prop) (w : World) (x : ByteArray) (hx : x.size ≤ 140737488351232) : Rd K w 1 (txtV x) (.node 4 0 x []) := ⟨none, 0, rfl, hx, by decide, .inl rfl⟩
set_option maxRecDepth 100000 in
theorem num_any (n : Int) (w : World) : Calls Tryz.prog 7 #[.int .i64 n] w fun e w' => e = .returned (numV n) ∧ Ext w w' := by
  go_enter Tryz.func7, Tryz.ntmps7
  go_wp2_with fail
  refine bodyPost_ret (v := numV n) (by simp [results, Tryz.results7, go_sem, numV]) rfl ?_
  exact ⟨rfl, Ext.alloc _ _⟩
set_option maxRecDepth 100000 in
theorem txt_any (x : ByteArray) (w : World) : Calls Tryz.prog 10 #[.string x] w fun e w' => e = .returned (txtV x) ∧ Ext w w' := by
  go_enter Tryz.func10, Tryz.ntmps10
  go_wp2_with fail
  refine bodyPost_ret (v := txtV x) (by simp [results, Tryz.results10, go_sem, txtV]) rfl ?_
  exact ⟨rfl, Ext.alloc _ _⟩
set_option maxRecDepth 100000 in
theorem lst_any (a : Option Addr) (l c : Nat) (w : World) : Calls Tryz.prog 9 #[.slice a l c] w fun e w' => e = .returned (.agg #[.int .i64 5, .int .i64 0, .string ⟨#[]⟩, .slice a l c]) ∧ Ext w w' := by
  go_enter Tryz.func9, Tryz.ntmps9
  go_wp2_with fail
  refine bodyPost_ret (v := .agg #[.int .i64 5, .int .i64 0, .string ⟨#[]⟩, .slice a l c]) (by simp [results, Tryz.results9, go_sem]) rfl ?_
  exact ⟨rfl, Ext.alloc _ _⟩
theorem parTo_ok {s : ByteArray} {i : Nat} {w : World} {v : Int} (hs : s.size ≤ 1048576) (h : Lib.parseIntB 64 (s.extract i (digEnd s (numAt s i))).data.toList = .ok v) : ParTo s i w := by
  unfold ParTo
  rw [h]
  refine (Tryz.strconv_ParseInt_10_at64_ok _ (by rw [ByteArray.size_extract]; omega) v h w).mono ?_
  rintro e w' ⟨rfl, hw⟩
  refine ⟨?_, rfl⟩
  rcases hw with rfl | ⟨t, rfl⟩
  · exact Ext.refl _
  · exact Lib.bytesWorld_below _ _ _
def sOne : ByteArray := ⟨#[91, 49, 44, 32, 121, 101, 115, 93]⟩
def sTwo : ByteArray := ⟨#[48, 48, 55]⟩
def qNone : Nat → Rs := fun _ => .bad 1 0
def tOne : T := .node 5 0 ⟨#[]⟩ [.node 3 1 ⟨#[]⟩ [], .node 2 1 ⟨#[]⟩ []]
theorem digOne : digEnd sOne 1 = 2 := digEnd_of sOne 1 1 (fun q h1 h2 => by
  have e : q = 1 := (by omega)
  subst e
  decide) (by decide)
theorem numOne : numR sOne 1 = .ok (.node 3 1 ⟨#[]⟩ []) 2 := by
  have e0 : numAt sOne 1 = 1 := by decide
  unfold numR
  rw [e0, if_neg (by decide), if_neg (by decide), digOne]
  rfl
theorem vOne (f n : Nat) : rdV sOne qNone (f + 1) n 1 = .ok (.node 3 1 ⟨#[]⟩ []) 2 := by
  simp only [rdV]
  rw [if_neg (by decide), if_neg (by decide), if_neg (by decide), if_pos (by decide), numOne]
theorem vYes (f n : Nat) : rdV sOne qNone (f + 1) n 4 = .ok (.node 2 1 ⟨#[]⟩ []) 7 := by
  simp only [rdV]
  rw [if_neg (by decide), if_pos (by decide)]
  rfl
theorem readOne : readR sOne qNone = .ok tOne 8 := by
  have h : rdV sOne qNone (2 * sOne.size + 1) 0 0 = .ok tOne 8 := by
    show rdV sOne qNone 17 0 0 = _
    rw [rdV, if_neg (by decide), if_neg (by decide), if_neg (by decide), if_neg (by decide), if_neg (by decide), if_pos (by decide), if_neg (by decide), if_neg (by decide)]
    rw [rdL_ok (vOne 14 1), if_neg (by decide), if_pos (by decide), if_pos (by decide)]
    rw [rdL_ok (vYes 13 1), if_pos (by decide)]
    rfl
  unfold readR wholeR
  rw [if_neg (by decide), h]
  rfl
theorem szOne : ∀ t a, rdV sOne qNone (2 * sOne.size + 1) 0 0 = .ok t a → t.size ≤ 140737488351232 := by
  have h : rdV sOne qNone (2 * sOne.size + 1) 0 0 = .ok tOne 8 := by
    show rdV sOne qNone 17 0 0 = _
    rw [rdV, if_neg (by decide), if_neg (by decide), if_neg (by decide), if_neg (by decide), if_neg (by decide), if_pos (by decide), if_neg (by decide), if_neg (by decide)]
    rw [rdL_ok (vOne 14 1), if_neg (by decide), if_pos (by decide), if_pos (by decide)]
    rw [rdL_ok (vYes 13 1), if_pos (by decide)]
    rfl
  intro t a e
  rw [h] at e
  cases e
  decide
theorem vTwo : rdV sTwo qNone (2 * sTwo.size + 1) 0 0 = .ok (.node 3 0 ⟨#[]⟩ []) 1 := by
  show rdV sTwo qNone 7 0 0 = _
  rw [rdV, if_neg (by decide), if_neg (by decide), if_neg (by decide), if_pos (by decide)]
  unfold numR
  rw [if_pos (by decide)]
  rfl
theorem readTwo : readR sTwo qNone = .bad 5 1 := by
  unfold readR wholeR
  rw [if_neg (by decide), vTwo]
  rfl
theorem szTwo : ∀ t a, rdV sTwo qNone (2 * sTwo.size + 1) 0 0 = .ok t a → t.size ≤ 140737488351232 := by
  intro t a e
  rw [vTwo] at e
  cases e
  decide
theorem nxt_out {s : ByteArray} {i n : Nat} (hs : s.size = n) (h : n ≤ i) : nxt s i = 0 := nxt_end (by omega)
theorem envOne (b : Nat) : REnv b sOne (fun _ => True) qNone where
  keep := fun _ _ _ _ => trivial
  par := fun i w _ hd => by
    have key : ∀ k : Fin 8, digP (nxt sOne (numAt sOne k.1)) → k.1 = 1 := by decide
    rcases Nat.lt_or_ge i 8 with h | h
    · have := key ⟨i, h⟩ hd
      simp only at this
      subst this
      refine parTo_ok (v := 1) (by decide) ?_
      rw [show numAt sOne 1 = 1 by decide, digOne]
      rfl
    · have e : numAt sOne i = i := by unfold numAt; rw [nxt_out (n := 8) rfl h, if_neg (by decide)]
      rw [e, nxt_out (n := 8) rfl h] at hd
      exact absurd hd (by decide)
  quo := fun w i n d _ _ hi h34 => by
    have key : ∀ k : Fin 8, nxt sOne k.1 ≠ 34 := by decide
    exact absurd h34 (key ⟨i, hi⟩)
  ahead := fun _ _ _ h => by cases h
theorem digTwo0 : digEnd sTwo 0 = 3 := digEnd_of sTwo 3 0 (fun q _ h2 => (show ∀ k : Fin 3, k.1 < sTwo.size ∧ digP (nxt sTwo k.1) by decide) ⟨q, by omega⟩) (by decide)
theorem digTwo1 : digEnd sTwo 1 = 3 := digEnd_of sTwo 2 1 (fun q _ h2 => (show ∀ k : Fin 3, k.1 < sTwo.size ∧ digP (nxt sTwo k.1) by decide) ⟨q, by omega⟩) (by decide)
theorem digTwo2 : digEnd sTwo 2 = 3 := digEnd_of sTwo 1 2 (fun q _ h2 => (show ∀ k : Fin 3, k.1 < sTwo.size ∧ digP (nxt sTwo k.1) by decide) ⟨q, by omega⟩) (by decide)
theorem envTwo (b : Nat) : REnv b sTwo (fun _ => True) qNone where
  keep := fun _ _ _ _ => trivial
  par := fun i w _ hd => by
    rcases Nat.lt_or_ge i 3 with h | h
    · obtain rfl | rfl | rfl : i = 0 ∨ i = 1 ∨ i = 2 := by omega
      · refine parTo_ok (v := 7) (by decide) ?_
        rw [show numAt sTwo 0 = 0 by decide, digTwo0]; rfl
      · refine parTo_ok (v := 7) (by decide) ?_
        rw [show numAt sTwo 1 = 1 by decide, digTwo1]; rfl
      · refine parTo_ok (v := 7) (by decide) ?_
        rw [show numAt sTwo 2 = 2 by decide, digTwo2]; rfl
    · have e : numAt sTwo i = i := by unfold numAt; rw [nxt_out (n := 3) rfl h, if_neg (by decide)]
      rw [e, nxt_out (n := 3) rfl h] at hd
      exact absurd hd (by decide)
  quo := fun w i n d _ _ hi h34 => by
    have key : ∀ k : Fin 3, nxt sTwo k.1 ≠ 34 := by decide
    exact absurd h34 (key ⟨i, hi⟩)
  ahead := fun _ _ _ h => by cases h
def tText : T := .node 5 0 ⟨#[]⟩ [.node 1 0 ⟨#[]⟩ [], .node 4 0 ⟨#[97, 34]⟩ []]
theorem text_one : textV tText = .tuple #[.string ⟨#[91, 117, 110, 105, 116, 44, 32, 34, 97, 92, 34, 34, 93]⟩, .int .i64 0] := by
  have hw : tText.wr = [91, 117, 110, 105, 116, 44, 32, 34, 97, 92, 34, 34, 93] := by decide
  rw [textV, if_pos (by decide), hw]
  rfl
end Go.Proofs.YtbpbkihcfdnphaaGreatDoor
