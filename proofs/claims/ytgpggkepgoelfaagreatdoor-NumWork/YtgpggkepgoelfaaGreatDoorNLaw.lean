/-
  Numbers and texts as plain values; the answers that operations give.
-/
import Derived.Test.YtgpggkepgoelfaaGreatDoorCWork
import Derived.Test.YtgpggkepgoelfaaGreatDoorNKinds
import Derived.Test.YtgpggkepgoelfaaGreatDoorPItems
namespace Go.Proofs.YtgpggkepgoelfaaGreatDoor
open Go.RowKit
/-- A number as a plain value. -/
def intT (n : Int) : T := .node 3 n ⟨#[]⟩ []
def unitT : T := .node 1 0 ⟨#[]⟩ []
theorem intT_may (n : Int) : (intT n).may := by
  refine ⟨⟨.inr (.inr (.inl ⟨rfl, rfl, rfl⟩)), trivial⟩, ?_, ?_⟩
  · show (T.node 3 n ⟨#[]⟩ []).size ≤ 65536
    simp only [T.size, T.sizeL]; decide
  · show (T.node 3 n ⟨#[]⟩ []).deep ≤ 64
    simp only [T.deep]; simp
theorem unitT_may : unitT.may := by
  refine ⟨⟨.inl ⟨rfl, rfl, rfl, rfl⟩, trivial⟩, ?_, ?_⟩
  · show (T.node 1 0 ⟨#[]⟩ []).size ≤ 65536
    simp only [T.size, T.sizeL]; decide
  · show (T.node 1 0 ⟨#[]⟩ []).deep ≤ 64
    simp only [T.deep]; simp
theorem VRd.int {K : Nat → Prop} {w : World} {d : Nat} {v : Value} {n : Int} (h : VRd K w d v (intT n)) : v = .iface 87 (.int .i64 n) := by
  cases d with
  | zero => exact h.elim
  | succ d =>
    rcases h with ⟨h, _⟩ | ⟨h, _⟩ | ⟨_, _, _, h⟩ | ⟨h, _⟩ | ⟨h, _⟩
    · exact absurd h (by decide)
    · exact absurd h (by decide)
    · exact h
    · exact absurd h (by decide)
    · exact absurd h (by decide)
theorem NRes.came (n : Int) : NRes (cameV n) := .inl ⟨n, rfl⟩
theorem NRes.told (b : Bool) : NRes (toldV b) := .inr (.inl ⟨b, rfl⟩)
theorem NRes.ref {c : Int} (h : (c == 0) = false) : NRes (refV c) := .inr (.inr (.inl ⟨c, h, rfl⟩))
theorem NRes.wrote {s : ByteArray} (h : s.size ≤ 65535) : NRes (wroteV s) := .inr (.inr (.inr ⟨s, h, rfl⟩))
theorem NRes.three {R : Value} (h : NRes R) : ∃ x y z, R = .tuple #[x, y, z] := by
  rcases h with ⟨_, rfl⟩ | ⟨_, rfl⟩ | ⟨_, _, rfl⟩ | ⟨_, _, rfl⟩ <;> exact ⟨_, _, _, rfl⟩
/-- A text as a plain value. -/
def textT (s : ByteArray) : T := .node 4 0 s []
theorem textT_may {s : ByteArray} (h : s.size ≤ 65535) : (textT s).may := by
  refine ⟨⟨.inr (.inr (.inr (.inl ⟨rfl, rfl, rfl⟩))), trivial⟩, ?_, ?_⟩
  · show (T.node 4 0 s []).size ≤ 65536
    simp only [T.size, T.sizeL]; omega
  · show (T.node 4 0 s []).deep ≤ 64
    simp only [T.deep]; simp
theorem textT_not {s : ByteArray} (h : 65535 < s.size) : ¬ (textT s).may := by
  intro hm
  have : (T.node 4 0 s []).size ≤ 65536 := hm.2.1
  simp only [T.size, T.sizeL] at this
  omega
theorem VRd.text {K : Nat → Prop} {w : World} {d : Nat} {v : Value} {s : ByteArray} (h : VRd K w d v (textT s)) : v = .iface 89 (.string s) := by
  cases d with
  | zero => exact h.elim
  | succ d =>
    rcases h with ⟨h, _⟩ | ⟨h, _⟩ | ⟨h, _⟩ | ⟨_, _, _, _, h⟩ | ⟨h, _⟩
    · exact absurd h (by decide)
    · exact absurd h (by decide)
    · exact absurd h (by decide)
    · exact h
    · exact absurd h (by decide)
end Go.Proofs.YtgpggkepgoelfaaGreatDoor
/-
  num.Work on numbers, operation by operation; of a kind that does nothing; of a value that is no number.
-/
namespace Go.Proofs.YtgpggkepgoelfaaGreatDoor
open Go.RowKit
theorem VCells.two {w : World} {g : Nat} {x y : Int} (h : VCells w g [intT x, intT y]) : Two w g x y := by
  obtain ⟨_, _, v0, h0, r0⟩ := h 0 (Nat.le_of_ble_eq_true rfl)
  obtain ⟨_, _, v1, h1, r1⟩ := h 1 (Nat.le_of_ble_eq_true rfl)
  have e0 : v0 = _ := VRd.int (n := x) r0
  have e1 : v1 = _ := VRd.int (n := y) r1
  exact ⟨by rw [h0, e0], by rw [h1, e1]⟩
theorem VCells.one {w : World} {g : Nat} {x : Int} (h : VCells w g [intT x]) : One w g x := by
  obtain ⟨_, _, v0, h0, r0⟩ := h 0 (Nat.le_of_ble_eq_true rfl)
  have e0 : v0 = _ := VRd.int (n := x) r0
  show w.cell? _ = _
  rw [h0, e0]
theorem numJ : ∀ k ∈ numK, k.joins = false ∧ k.signs.size ≤ 4000 := by
  intro k hk
  obtain ⟨i, hi, rfl⟩ := List.getElem_of_mem hk
  have hl : numK.length = 15 := rfl
  rw [hl] at hi
  match i, hi with
  | 0, _ => exact ⟨rfl, Nat.le_of_ble_eq_true rfl⟩
  | 1, _ => exact ⟨rfl, Nat.le_of_ble_eq_true rfl⟩
  | 2, _ => exact ⟨rfl, Nat.le_of_ble_eq_true rfl⟩
  | 3, _ => exact ⟨rfl, Nat.le_of_ble_eq_true rfl⟩
  | 4, _ => exact ⟨rfl, Nat.le_of_ble_eq_true rfl⟩
  | 5, _ => exact ⟨rfl, Nat.le_of_ble_eq_true rfl⟩
  | 6, _ => exact ⟨rfl, Nat.le_of_ble_eq_true rfl⟩
  | 7, _ => exact ⟨rfl, Nat.le_of_ble_eq_true rfl⟩
  | 8, _ => exact ⟨rfl, Nat.le_of_ble_eq_true rfl⟩
  | 9, _ => exact ⟨rfl, Nat.le_of_ble_eq_true rfl⟩
  | 10, _ => exact ⟨rfl, Nat.le_of_ble_eq_true rfl⟩
  | 11, _ => exact ⟨rfl, Nat.le_of_ble_eq_true rfl⟩
  | 12, _ => exact ⟨rfl, Nat.le_of_ble_eq_true rfl⟩
  | 13, _ => exact ⟨rfl, Nat.le_of_ble_eq_true rfl⟩
  | 14, _ => exact ⟨rfl, Nat.le_of_ble_eq_true rfl⟩

  | n + 15, h => exact absurd h (by omega)
theorem numLen : numK.length = 15 := rfl
theorem find_add : kdFind numK ⟨#[110, 117, 109, 46, 97, 100, 100]⟩ = some numK[0] := by kernel_rfl
theorem ent_add : Enters 50 := fun a w => by simp [callFunc, go_sem, Tryz.func50]; rfl
theorem wk_add (x y : Int) (hx : inR x) (hy : inR y) (a : Option Addr) (c : Nat) (w : World) (hm : MaxAt w) (hp : PRow w a [intT x, intT y]) : Calls Tryz.prog 11 #[.string ⟨#[110, 117, 109, 46, 97, 100, 100]⟩, .slice a 2 c] w fun e w' => e = .returned (addV x y) ∧ Ext w w' := by
  have hN : NRes (addV x y) := by unfold addV; split; exact NRes.came _; exact (NRes.ref (c := 21) (by decide))
  refine workN_of _ a 2 c w _ hN.three fun w1 tb hx1 ht => ?_
  have hwk := work_any numK tb ⟨#[110, 117, 109, 46, 97, 100, 100]⟩ a c [intT x, intT y] (addV x y) w1 (by rw [numLen]; decide) ht (hm.later hx1) (hp.later hx1) (Nat.le_of_ble_eq_true rfl) numJ
    (fun k f h1 h2 _ _ _ => by
      rw [find_add] at h1
      obtain rfl := Option.some.inj h1
      obtain rfl : 50 = f := Option.some.inj h2
      exact ⟨hN, fun w1 g _ hv => ((add_any g x y w1 hx hy hv.two).mono fun e w' h => ⟨h.1, h.2.ext⟩)⟩)
    (fun k f h1 h2 => by
      rw [find_add] at h1
      obtain rfl := Option.some.inj h1
      obtain rfl : 50 = f := Option.some.inj h2
      exact ent_add)
  have hV : workV numK ⟨#[110, 117, 109, 46, 97, 100, 100]⟩ [intT x, intT y] (addV x y) = addV x y := by
    unfold workV
    rw [find_add]
    show (if cntOk numK[0] 2 = false then refV 11 else if ∀ t ∈ [intT x, intT y], t.may then (if rightB numK[0].signs.data.toList (([intT x, intT y]).map T.kind) = true then addV x y else refV 20) else refV 1) = _
    rw [if_neg (show ¬ cntOk numK[0] 2 = false by rw [show cntOk numK[0] 2 = true from by kernel_rfl]; decide), if_pos (by intro t ht; simp only [List.mem_cons, List.not_mem_nil, or_false] at ht; rcases ht with rfl | rfl <;> exact intT_may _), if_pos (show rightB numK[0].signs.data.toList (([intT x, intT y]).map T.kind) = true from by kernel_rfl)]
  rw [hV] at hwk
  exact hwk
theorem find_sub : kdFind numK ⟨#[110, 117, 109, 46, 115, 117, 98]⟩ = some numK[1] := by kernel_rfl
theorem ent_sub : Enters 51 := fun a w => by simp [callFunc, go_sem, Tryz.func51]; rfl
theorem wk_sub (x y : Int) (hx : inR x) (hy : inR y) (a : Option Addr) (c : Nat) (w : World) (hm : MaxAt w) (hp : PRow w a [intT x, intT y]) : Calls Tryz.prog 11 #[.string ⟨#[110, 117, 109, 46, 115, 117, 98]⟩, .slice a 2 c] w fun e w' => e = .returned (subV x y) ∧ Ext w w' := by
  have hN : NRes (subV x y) := by unfold subV; split; exact NRes.came _; exact (NRes.ref (c := 21) (by decide))
  refine workN_of _ a 2 c w _ hN.three fun w1 tb hx1 ht => ?_
  have hwk := work_any numK tb ⟨#[110, 117, 109, 46, 115, 117, 98]⟩ a c [intT x, intT y] (subV x y) w1 (by rw [numLen]; decide) ht (hm.later hx1) (hp.later hx1) (Nat.le_of_ble_eq_true rfl) numJ
    (fun k f h1 h2 _ _ _ => by
      rw [find_sub] at h1
      obtain rfl := Option.some.inj h1
      obtain rfl : 51 = f := Option.some.inj h2
      exact ⟨hN, fun w1 g _ hv => ((sub_any g x y w1 hx hy hv.two).mono fun e w' h => ⟨h.1, h.2.ext⟩)⟩)
    (fun k f h1 h2 => by
      rw [find_sub] at h1
      obtain rfl := Option.some.inj h1
      obtain rfl : 51 = f := Option.some.inj h2
      exact ent_sub)
  have hV : workV numK ⟨#[110, 117, 109, 46, 115, 117, 98]⟩ [intT x, intT y] (subV x y) = subV x y := by
    unfold workV
    rw [find_sub]
    show (if cntOk numK[1] 2 = false then refV 11 else if ∀ t ∈ [intT x, intT y], t.may then (if rightB numK[1].signs.data.toList (([intT x, intT y]).map T.kind) = true then subV x y else refV 20) else refV 1) = _
    rw [if_neg (show ¬ cntOk numK[1] 2 = false by rw [show cntOk numK[1] 2 = true from by kernel_rfl]; decide), if_pos (by intro t ht; simp only [List.mem_cons, List.not_mem_nil, or_false] at ht; rcases ht with rfl | rfl <;> exact intT_may _), if_pos (show rightB numK[1].signs.data.toList (([intT x, intT y]).map T.kind) = true from by kernel_rfl)]
  rw [hV] at hwk
  exact hwk
theorem find_mul : kdFind numK ⟨#[110, 117, 109, 46, 109, 117, 108]⟩ = some numK[2] := by kernel_rfl
theorem ent_mul : Enters 52 := fun a w => by simp [callFunc, go_sem, Tryz.func52]; rfl
theorem wk_mul (x y : Int) (hx : inR x) (hy : inR y) (a : Option Addr) (c : Nat) (w : World) (hm : MaxAt w) (hp : PRow w a [intT x, intT y]) : Calls Tryz.prog 11 #[.string ⟨#[110, 117, 109, 46, 109, 117, 108]⟩, .slice a 2 c] w fun e w' => e = .returned (mulV x y) ∧ Ext w w' := by
  have hN : NRes (mulV x y) := by unfold mulV; split; exact NRes.came _; exact (NRes.ref (c := 21) (by decide))
  refine workN_of _ a 2 c w _ hN.three fun w1 tb hx1 ht => ?_
  have hwk := work_any numK tb ⟨#[110, 117, 109, 46, 109, 117, 108]⟩ a c [intT x, intT y] (mulV x y) w1 (by rw [numLen]; decide) ht (hm.later hx1) (hp.later hx1) (Nat.le_of_ble_eq_true rfl) numJ
    (fun k f h1 h2 _ _ _ => by
      rw [find_mul] at h1
      obtain rfl := Option.some.inj h1
      obtain rfl : 52 = f := Option.some.inj h2
      exact ⟨hN, fun w1 g _ hv => ((mul_any g x y w1 hx hy hv.two).mono fun e w' h => ⟨h.1, h.2.ext⟩)⟩)
    (fun k f h1 h2 => by
      rw [find_mul] at h1
      obtain rfl := Option.some.inj h1
      obtain rfl : 52 = f := Option.some.inj h2
      exact ent_mul)
  have hV : workV numK ⟨#[110, 117, 109, 46, 109, 117, 108]⟩ [intT x, intT y] (mulV x y) = mulV x y := by
    unfold workV
    rw [find_mul]
    show (if cntOk numK[2] 2 = false then refV 11 else if ∀ t ∈ [intT x, intT y], t.may then (if rightB numK[2].signs.data.toList (([intT x, intT y]).map T.kind) = true then mulV x y else refV 20) else refV 1) = _
    rw [if_neg (show ¬ cntOk numK[2] 2 = false by rw [show cntOk numK[2] 2 = true from by kernel_rfl]; decide), if_pos (by intro t ht; simp only [List.mem_cons, List.not_mem_nil, or_false] at ht; rcases ht with rfl | rfl <;> exact intT_may _), if_pos (show rightB numK[2].signs.data.toList (([intT x, intT y]).map T.kind) = true from by kernel_rfl)]
  rw [hV] at hwk
  exact hwk
theorem find_quo : kdFind numK ⟨#[110, 117, 109, 46, 113, 117, 111]⟩ = some numK[3] := by kernel_rfl
theorem ent_quo : Enters 53 := fun a w => by simp [callFunc, go_sem, Tryz.func53]; rfl
theorem wk_quo (x y : Int) (hx : inR x) (hy : inR y) (a : Option Addr) (c : Nat) (w : World) (hm : MaxAt w) (hp : PRow w a [intT x, intT y]) : Calls Tryz.prog 11 #[.string ⟨#[110, 117, 109, 46, 113, 117, 111]⟩, .slice a 2 c] w fun e w' => e = .returned (quoV x y) ∧ Ext w w' := by
  have hN : NRes (quoV x y) := by unfold quoV; split; exact (NRes.ref (c := 22) (by decide)); split; exact NRes.came _; exact (NRes.ref (c := 21) (by decide))
  refine workN_of _ a 2 c w _ hN.three fun w1 tb hx1 ht => ?_
  have hwk := work_any numK tb ⟨#[110, 117, 109, 46, 113, 117, 111]⟩ a c [intT x, intT y] (quoV x y) w1 (by rw [numLen]; decide) ht (hm.later hx1) (hp.later hx1) (Nat.le_of_ble_eq_true rfl) numJ
    (fun k f h1 h2 _ _ _ => by
      rw [find_quo] at h1
      obtain rfl := Option.some.inj h1
      obtain rfl : 53 = f := Option.some.inj h2
      exact ⟨hN, fun w1 g _ hv => ((quo_any g x y w1 hx hy hv.two).mono fun e w' h => ⟨h.1, h.2.ext⟩)⟩)
    (fun k f h1 h2 => by
      rw [find_quo] at h1
      obtain rfl := Option.some.inj h1
      obtain rfl : 53 = f := Option.some.inj h2
      exact ent_quo)
  have hV : workV numK ⟨#[110, 117, 109, 46, 113, 117, 111]⟩ [intT x, intT y] (quoV x y) = quoV x y := by
    unfold workV
    rw [find_quo]
    show (if cntOk numK[3] 2 = false then refV 11 else if ∀ t ∈ [intT x, intT y], t.may then (if rightB numK[3].signs.data.toList (([intT x, intT y]).map T.kind) = true then quoV x y else refV 20) else refV 1) = _
    rw [if_neg (show ¬ cntOk numK[3] 2 = false by rw [show cntOk numK[3] 2 = true from by kernel_rfl]; decide), if_pos (by intro t ht; simp only [List.mem_cons, List.not_mem_nil, or_false] at ht; rcases ht with rfl | rfl <;> exact intT_may _), if_pos (show rightB numK[3].signs.data.toList (([intT x, intT y]).map T.kind) = true from by kernel_rfl)]
  rw [hV] at hwk
  exact hwk
theorem find_mod : kdFind numK ⟨#[110, 117, 109, 46, 109, 111, 100]⟩ = some numK[4] := by kernel_rfl
theorem ent_mod : Enters 54 := fun a w => by simp [callFunc, go_sem, Tryz.func54]; rfl
theorem wk_mod (x y : Int) (hx : inR x) (hy : inR y) (a : Option Addr) (c : Nat) (w : World) (hm : MaxAt w) (hp : PRow w a [intT x, intT y]) : Calls Tryz.prog 11 #[.string ⟨#[110, 117, 109, 46, 109, 111, 100]⟩, .slice a 2 c] w fun e w' => e = .returned (modW x y) ∧ Ext w w' := by
  have hN : NRes (modW x y) := by unfold modW; split; exact (NRes.ref (c := 22) (by decide)); exact NRes.came _
  refine workN_of _ a 2 c w _ hN.three fun w1 tb hx1 ht => ?_
  have hwk := work_any numK tb ⟨#[110, 117, 109, 46, 109, 111, 100]⟩ a c [intT x, intT y] (modW x y) w1 (by rw [numLen]; decide) ht (hm.later hx1) (hp.later hx1) (Nat.le_of_ble_eq_true rfl) numJ
    (fun k f h1 h2 _ _ _ => by
      rw [find_mod] at h1
      obtain rfl := Option.some.inj h1
      obtain rfl : 54 = f := Option.some.inj h2
      exact ⟨hN, fun w1 g _ hv => ((mod_any g x y w1 hx hy hv.two).mono fun e w' h => ⟨h.1, h.2.ext⟩)⟩)
    (fun k f h1 h2 => by
      rw [find_mod] at h1
      obtain rfl := Option.some.inj h1
      obtain rfl : 54 = f := Option.some.inj h2
      exact ent_mod)
  have hV : workV numK ⟨#[110, 117, 109, 46, 109, 111, 100]⟩ [intT x, intT y] (modW x y) = modW x y := by
    unfold workV
    rw [find_mod]
    show (if cntOk numK[4] 2 = false then refV 11 else if ∀ t ∈ [intT x, intT y], t.may then (if rightB numK[4].signs.data.toList (([intT x, intT y]).map T.kind) = true then modW x y else refV 20) else refV 1) = _
    rw [if_neg (show ¬ cntOk numK[4] 2 = false by rw [show cntOk numK[4] 2 = true from by kernel_rfl]; decide), if_pos (by intro t ht; simp only [List.mem_cons, List.not_mem_nil, or_false] at ht; rcases ht with rfl | rfl <;> exact intT_may _), if_pos (show rightB numK[4].signs.data.toList (([intT x, intT y]).map T.kind) = true from by kernel_rfl)]
  rw [hV] at hwk
  exact hwk
theorem find_pow : kdFind numK ⟨#[110, 117, 109, 46, 112, 111, 119]⟩ = some numK[5] := by kernel_rfl
theorem ent_pow : Enters 55 := fun a w => by simp [callFunc, go_sem, Tryz.func55]; rfl
theorem wk_pow (x y : Int) (hx : inR x) (hy : inR y) (a : Option Addr) (c : Nat) (w : World) (hm : MaxAt w) (hp : PRow w a [intT x, intT y]) : Calls Tryz.prog 11 #[.string ⟨#[110, 117, 109, 46, 112, 111, 119]⟩, .slice a 2 c] w fun e w' => e = .returned (powV x y) ∧ Ext w w' := by
  have hN : NRes (powV x y) := by unfold powV; split; exact (NRes.ref (c := 23) (by decide)); split; exact NRes.came _; exact (NRes.ref (c := 21) (by decide))
  refine workN_of _ a 2 c w _ hN.three fun w1 tb hx1 ht => ?_
  have hwk := work_any numK tb ⟨#[110, 117, 109, 46, 112, 111, 119]⟩ a c [intT x, intT y] (powV x y) w1 (by rw [numLen]; decide) ht (hm.later hx1) (hp.later hx1) (Nat.le_of_ble_eq_true rfl) numJ
    (fun k f h1 h2 _ _ _ => by
      rw [find_pow] at h1
      obtain rfl := Option.some.inj h1
      obtain rfl : 55 = f := Option.some.inj h2
      exact ⟨hN, fun w1 g _ hv => ((pow_any g x y w1 hx hy hv.two).mono fun e w' h => ⟨h.1, h.2.ext⟩)⟩)
    (fun k f h1 h2 => by
      rw [find_pow] at h1
      obtain rfl := Option.some.inj h1
      obtain rfl : 55 = f := Option.some.inj h2
      exact ent_pow)
  have hV : workV numK ⟨#[110, 117, 109, 46, 112, 111, 119]⟩ [intT x, intT y] (powV x y) = powV x y := by
    unfold workV
    rw [find_pow]
    show (if cntOk numK[5] 2 = false then refV 11 else if ∀ t ∈ [intT x, intT y], t.may then (if rightB numK[5].signs.data.toList (([intT x, intT y]).map T.kind) = true then powV x y else refV 20) else refV 1) = _
    rw [if_neg (show ¬ cntOk numK[5] 2 = false by rw [show cntOk numK[5] 2 = true from by kernel_rfl]; decide), if_pos (by intro t ht; simp only [List.mem_cons, List.not_mem_nil, or_false] at ht; rcases ht with rfl | rfl <;> exact intT_may _), if_pos (show rightB numK[5].signs.data.toList (([intT x, intT y]).map T.kind) = true from by kernel_rfl)]
  rw [hV] at hwk
  exact hwk
theorem find_neg : kdFind numK ⟨#[110, 117, 109, 46, 110, 101, 103]⟩ = some numK[6] := by kernel_rfl
theorem ent_neg : Enters 56 := fun a w => by simp [callFunc, go_sem, Tryz.func56]; rfl
theorem wk_neg (x : Int) (hx : inR x) (a : Option Addr) (c : Nat) (w : World) (hm : MaxAt w) (hp : PRow w a [intT x]) : Calls Tryz.prog 11 #[.string ⟨#[110, 117, 109, 46, 110, 101, 103]⟩, .slice a 1 c] w fun e w' => e = .returned (negV x) ∧ Ext w w' := by
  have hN : NRes (negV x) := by unfold negV; split; exact NRes.came _; exact (NRes.ref (c := 21) (by decide))
  refine workN_of _ a 1 c w _ hN.three fun w1 tb hx1 ht => ?_
  have hwk := work_any numK tb ⟨#[110, 117, 109, 46, 110, 101, 103]⟩ a c [intT x] (negV x) w1 (by rw [numLen]; decide) ht (hm.later hx1) (hp.later hx1) (Nat.le_of_ble_eq_true rfl) numJ
    (fun k f h1 h2 _ _ _ => by
      rw [find_neg] at h1
      obtain rfl := Option.some.inj h1
      obtain rfl : 56 = f := Option.some.inj h2
      exact ⟨hN, fun w1 g _ hv => ((neg_any g x w1 hx hv.one).mono fun e w' h => ⟨h.1, h.2 ▸ Ext.refl _⟩)⟩)
    (fun k f h1 h2 => by
      rw [find_neg] at h1
      obtain rfl := Option.some.inj h1
      obtain rfl : 56 = f := Option.some.inj h2
      exact ent_neg)
  have hV : workV numK ⟨#[110, 117, 109, 46, 110, 101, 103]⟩ [intT x] (negV x) = negV x := by
    unfold workV
    rw [find_neg]
    show (if cntOk numK[6] 1 = false then refV 11 else if ∀ t ∈ [intT x], t.may then (if rightB numK[6].signs.data.toList (([intT x]).map T.kind) = true then negV x else refV 20) else refV 1) = _
    rw [if_neg (show ¬ cntOk numK[6] 1 = false by rw [show cntOk numK[6] 1 = true from by kernel_rfl]; decide), if_pos (by intro t ht; simp only [List.mem_cons, List.not_mem_nil, or_false] at ht; subst ht; exact intT_may _), if_pos (show rightB numK[6].signs.data.toList (([intT x]).map T.kind) = true from by kernel_rfl)]
  rw [hV] at hwk
  exact hwk
theorem find_abs : kdFind numK ⟨#[110, 117, 109, 46, 97, 98, 115]⟩ = some numK[7] := by kernel_rfl
theorem ent_abs : Enters 57 := fun a w => by simp [callFunc, go_sem, Tryz.func57]; rfl
theorem wk_abs (x : Int) (hx : inR x) (a : Option Addr) (c : Nat) (w : World) (hm : MaxAt w) (hp : PRow w a [intT x]) : Calls Tryz.prog 11 #[.string ⟨#[110, 117, 109, 46, 97, 98, 115]⟩, .slice a 1 c] w fun e w' => e = .returned (absV x) ∧ Ext w w' := by
  have hN : NRes (absV x) := by unfold absV negV; split; split; exact NRes.came _; exact (NRes.ref (c := 21) (by decide)); exact NRes.came _
  refine workN_of _ a 1 c w _ hN.three fun w1 tb hx1 ht => ?_
  have hwk := work_any numK tb ⟨#[110, 117, 109, 46, 97, 98, 115]⟩ a c [intT x] (absV x) w1 (by rw [numLen]; decide) ht (hm.later hx1) (hp.later hx1) (Nat.le_of_ble_eq_true rfl) numJ
    (fun k f h1 h2 _ _ _ => by
      rw [find_abs] at h1
      obtain rfl := Option.some.inj h1
      obtain rfl : 57 = f := Option.some.inj h2
      exact ⟨hN, fun w1 g _ hv => ((abs_any g x w1 hx hv.one).mono fun e w' h => ⟨h.1, h.2 ▸ Ext.refl _⟩)⟩)
    (fun k f h1 h2 => by
      rw [find_abs] at h1
      obtain rfl := Option.some.inj h1
      obtain rfl : 57 = f := Option.some.inj h2
      exact ent_abs)
  have hV : workV numK ⟨#[110, 117, 109, 46, 97, 98, 115]⟩ [intT x] (absV x) = absV x := by
    unfold workV
    rw [find_abs]
    show (if cntOk numK[7] 1 = false then refV 11 else if ∀ t ∈ [intT x], t.may then (if rightB numK[7].signs.data.toList (([intT x]).map T.kind) = true then absV x else refV 20) else refV 1) = _
    rw [if_neg (show ¬ cntOk numK[7] 1 = false by rw [show cntOk numK[7] 1 = true from by kernel_rfl]; decide), if_pos (by intro t ht; simp only [List.mem_cons, List.not_mem_nil, or_false] at ht; subst ht; exact intT_may _), if_pos (show rightB numK[7].signs.data.toList (([intT x]).map T.kind) = true from by kernel_rfl)]
  rw [hV] at hwk
  exact hwk
theorem find_min : kdFind numK ⟨#[110, 117, 109, 46, 109, 105, 110]⟩ = some numK[8] := by kernel_rfl
theorem ent_min : Enters 59 := fun a w => by simp [callFunc, go_sem, Tryz.func59]; rfl
theorem wk_min (x y : Int) (hx : inR x) (hy : inR y) (a : Option Addr) (c : Nat) (w : World) (hm : MaxAt w) (hp : PRow w a [intT x, intT y]) : Calls Tryz.prog 11 #[.string ⟨#[110, 117, 109, 46, 109, 105, 110]⟩, .slice a 2 c] w fun e w' => e = .returned (cameV (min x y)) ∧ Ext w w' := by
  have hN : NRes (cameV (min x y)) := NRes.came _
  refine workN_of _ a 2 c w _ hN.three fun w1 tb hx1 ht => ?_
  have hwk := work_any numK tb ⟨#[110, 117, 109, 46, 109, 105, 110]⟩ a c [intT x, intT y] (cameV (min x y)) w1 (by rw [numLen]; decide) ht (hm.later hx1) (hp.later hx1) (Nat.le_of_ble_eq_true rfl) numJ
    (fun k f h1 h2 _ _ _ => by
      rw [find_min] at h1
      obtain rfl := Option.some.inj h1
      obtain rfl : 59 = f := Option.some.inj h2
      exact ⟨hN, fun w1 g _ hv => ((least_any g x y w1 hx hy hv.two).mono fun e w' h => ⟨h.1, h.2.ext⟩)⟩)
    (fun k f h1 h2 => by
      rw [find_min] at h1
      obtain rfl := Option.some.inj h1
      obtain rfl : 59 = f := Option.some.inj h2
      exact ent_min)
  have hV : workV numK ⟨#[110, 117, 109, 46, 109, 105, 110]⟩ [intT x, intT y] (cameV (min x y)) = cameV (min x y) := by
    unfold workV
    rw [find_min]
    show (if cntOk numK[8] 2 = false then refV 11 else if ∀ t ∈ [intT x, intT y], t.may then (if rightB numK[8].signs.data.toList (([intT x, intT y]).map T.kind) = true then cameV (min x y) else refV 20) else refV 1) = _
    rw [if_neg (show ¬ cntOk numK[8] 2 = false by rw [show cntOk numK[8] 2 = true from by kernel_rfl]; decide), if_pos (by intro t ht; simp only [List.mem_cons, List.not_mem_nil, or_false] at ht; rcases ht with rfl | rfl <;> exact intT_may _), if_pos (show rightB numK[8].signs.data.toList (([intT x, intT y]).map T.kind) = true from by kernel_rfl)]
  rw [hV] at hwk
  exact hwk
theorem find_max : kdFind numK ⟨#[110, 117, 109, 46, 109, 97, 120]⟩ = some numK[9] := by kernel_rfl
theorem ent_max : Enters 60 := fun a w => by simp [callFunc, go_sem, Tryz.func60]; rfl
theorem wk_max (x y : Int) (hx : inR x) (hy : inR y) (a : Option Addr) (c : Nat) (w : World) (hm : MaxAt w) (hp : PRow w a [intT x, intT y]) : Calls Tryz.prog 11 #[.string ⟨#[110, 117, 109, 46, 109, 97, 120]⟩, .slice a 2 c] w fun e w' => e = .returned (cameV (max x y)) ∧ Ext w w' := by
  have hN : NRes (cameV (max x y)) := NRes.came _
  refine workN_of _ a 2 c w _ hN.three fun w1 tb hx1 ht => ?_
  have hwk := work_any numK tb ⟨#[110, 117, 109, 46, 109, 97, 120]⟩ a c [intT x, intT y] (cameV (max x y)) w1 (by rw [numLen]; decide) ht (hm.later hx1) (hp.later hx1) (Nat.le_of_ble_eq_true rfl) numJ
    (fun k f h1 h2 _ _ _ => by
      rw [find_max] at h1
      obtain rfl := Option.some.inj h1
      obtain rfl : 60 = f := Option.some.inj h2
      exact ⟨hN, fun w1 g _ hv => ((greatest_any g x y w1 hx hy hv.two).mono fun e w' h => ⟨h.1, h.2.ext⟩)⟩)
    (fun k f h1 h2 => by
      rw [find_max] at h1
      obtain rfl := Option.some.inj h1
      obtain rfl : 60 = f := Option.some.inj h2
      exact ent_max)
  have hV : workV numK ⟨#[110, 117, 109, 46, 109, 97, 120]⟩ [intT x, intT y] (cameV (max x y)) = cameV (max x y) := by
    unfold workV
    rw [find_max]
    show (if cntOk numK[9] 2 = false then refV 11 else if ∀ t ∈ [intT x, intT y], t.may then (if rightB numK[9].signs.data.toList (([intT x, intT y]).map T.kind) = true then cameV (max x y) else refV 20) else refV 1) = _
    rw [if_neg (show ¬ cntOk numK[9] 2 = false by rw [show cntOk numK[9] 2 = true from by kernel_rfl]; decide), if_pos (by intro t ht; simp only [List.mem_cons, List.not_mem_nil, or_false] at ht; rcases ht with rfl | rfl <;> exact intT_may _), if_pos (show rightB numK[9].signs.data.toList (([intT x, intT y]).map T.kind) = true from by kernel_rfl)]
  rw [hV] at hwk
  exact hwk
theorem find_less : kdFind numK ⟨#[110, 117, 109, 46, 108, 101, 115, 115]⟩ = some numK[10] := by kernel_rfl
theorem ent_less : Enters 61 := fun a w => by simp [callFunc, go_sem, Tryz.func61]; rfl
theorem wk_less (x y : Int) (hx : inR x) (hy : inR y) (a : Option Addr) (c : Nat) (w : World) (hm : MaxAt w) (hp : PRow w a [intT x, intT y]) : Calls Tryz.prog 11 #[.string ⟨#[110, 117, 109, 46, 108, 101, 115, 115]⟩, .slice a 2 c] w fun e w' => e = .returned (toldV (decide (x < y))) ∧ Ext w w' := by
  have hN : NRes (toldV (decide (x < y))) := NRes.told _
  refine workN_of _ a 2 c w _ hN.three fun w1 tb hx1 ht => ?_
  have hwk := work_any numK tb ⟨#[110, 117, 109, 46, 108, 101, 115, 115]⟩ a c [intT x, intT y] (toldV (decide (x < y))) w1 (by rw [numLen]; decide) ht (hm.later hx1) (hp.later hx1) (Nat.le_of_ble_eq_true rfl) numJ
    (fun k f h1 h2 _ _ _ => by
      rw [find_less] at h1
      obtain rfl := Option.some.inj h1
      obtain rfl : 61 = f := Option.some.inj h2
      exact ⟨hN, fun w1 g _ hv => ((less_any g x y w1 hx hy hv.two).mono fun e w' h => ⟨h.1, h.2.ext⟩)⟩)
    (fun k f h1 h2 => by
      rw [find_less] at h1
      obtain rfl := Option.some.inj h1
      obtain rfl : 61 = f := Option.some.inj h2
      exact ent_less)
  have hV : workV numK ⟨#[110, 117, 109, 46, 108, 101, 115, 115]⟩ [intT x, intT y] (toldV (decide (x < y))) = toldV (decide (x < y)) := by
    unfold workV
    rw [find_less]
    show (if cntOk numK[10] 2 = false then refV 11 else if ∀ t ∈ [intT x, intT y], t.may then (if rightB numK[10].signs.data.toList (([intT x, intT y]).map T.kind) = true then toldV (decide (x < y)) else refV 20) else refV 1) = _
    rw [if_neg (show ¬ cntOk numK[10] 2 = false by rw [show cntOk numK[10] 2 = true from by kernel_rfl]; decide), if_pos (by intro t ht; simp only [List.mem_cons, List.not_mem_nil, or_false] at ht; rcases ht with rfl | rfl <;> exact intT_may _), if_pos (show rightB numK[10].signs.data.toList (([intT x, intT y]).map T.kind) = true from by kernel_rfl)]
  rw [hV] at hwk
  exact hwk
theorem find_most : kdFind numK ⟨#[110, 117, 109, 46, 109, 111, 115, 116]⟩ = some numK[11] := by kernel_rfl
theorem ent_most : Enters 62 := fun a w => by simp [callFunc, go_sem, Tryz.func62]; rfl
theorem wk_most (x y : Int) (hx : inR x) (hy : inR y) (a : Option Addr) (c : Nat) (w : World) (hm : MaxAt w) (hp : PRow w a [intT x, intT y]) : Calls Tryz.prog 11 #[.string ⟨#[110, 117, 109, 46, 109, 111, 115, 116]⟩, .slice a 2 c] w fun e w' => e = .returned (toldV (decide (x ≤ y))) ∧ Ext w w' := by
  have hN : NRes (toldV (decide (x ≤ y))) := NRes.told _
  refine workN_of _ a 2 c w _ hN.three fun w1 tb hx1 ht => ?_
  have hwk := work_any numK tb ⟨#[110, 117, 109, 46, 109, 111, 115, 116]⟩ a c [intT x, intT y] (toldV (decide (x ≤ y))) w1 (by rw [numLen]; decide) ht (hm.later hx1) (hp.later hx1) (Nat.le_of_ble_eq_true rfl) numJ
    (fun k f h1 h2 _ _ _ => by
      rw [find_most] at h1
      obtain rfl := Option.some.inj h1
      obtain rfl : 62 = f := Option.some.inj h2
      exact ⟨hN, fun w1 g _ hv => ((most_any g x y w1 hx hy hv.two).mono fun e w' h => ⟨h.1, h.2.ext⟩)⟩)
    (fun k f h1 h2 => by
      rw [find_most] at h1
      obtain rfl := Option.some.inj h1
      obtain rfl : 62 = f := Option.some.inj h2
      exact ent_most)
  have hV : workV numK ⟨#[110, 117, 109, 46, 109, 111, 115, 116]⟩ [intT x, intT y] (toldV (decide (x ≤ y))) = toldV (decide (x ≤ y)) := by
    unfold workV
    rw [find_most]
    show (if cntOk numK[11] 2 = false then refV 11 else if ∀ t ∈ [intT x, intT y], t.may then (if rightB numK[11].signs.data.toList (([intT x, intT y]).map T.kind) = true then toldV (decide (x ≤ y)) else refV 20) else refV 1) = _
    rw [if_neg (show ¬ cntOk numK[11] 2 = false by rw [show cntOk numK[11] 2 = true from by kernel_rfl]; decide), if_pos (by intro t ht; simp only [List.mem_cons, List.not_mem_nil, or_false] at ht; rcases ht with rfl | rfl <;> exact intT_may _), if_pos (show rightB numK[11].signs.data.toList (([intT x, intT y]).map T.kind) = true from by kernel_rfl)]
  rw [hV] at hwk
  exact hwk

end Go.Proofs.YtgpggkepgoelfaaGreatDoor
/-
  espalierlaw8.whole and work by contracts: an operation on numbers, as the statements call it.
-/
namespace Go.Proofs.YtgpggkepgoelfaaGreatDoor
open Go.RowKit
theorem as_in_in (v : Value) (w : World) : (Instr.typeAssert (.iface 87 v) 29 87 true).run Tryz.prog w = .ok (.tuple #[v, .bool true]) w := by kernel_rfl
theorem as_nil_in (w : World) : (Instr.typeAssert .nilIface 29 87 true).run Tryz.prog w = .ok (.tuple #[.int .i64 0, .bool false]) w := by kernel_rfl
theorem whole_any (n : Int) (w : World) : Calls Tryz.prog 26 #[.int .i64 n] w fun e w' => e = .returned (.agg #[.int .i64 3, .int .i64 n, .string ⟨#[]⟩, .slice none 0 0]) ∧ Ext w w' := by
  go_enter Tryz.func26, Tryz.ntmps26
  go_wp2_with fail
  obtain ⟨z0, z1, z2, z3⟩ := four_of (blk0 w (.cells #[.int .i64 3, .int .i64 n, .string ⟨#[]⟩, .slice none 0 0] 34))
  refine bodyPost_ret (v := .agg #[.int .i64 3, .int .i64 n, .string ⟨#[]⟩, .slice none 0 0]) (by simp [results, Tryz.results26, go_sem, z0, z1, z2, z3]) rfl ?_
  exact ⟨rfl, Ext.alloc _ _⟩
theorem PItems.prow {w : World} {base N d m c : Nat} {ao : Option Addr} {acc : List T} (h : PItems w base N d (.slice ao m c) acc) (hlim : acc.length ≤ 2000000) : PRow w ao acc := by
  obtain ⟨a', c', he, _, _, hk⟩ := h.list hlim
  rcases hk with hk | ⟨g, off, ha, _, hc⟩
  · exact .inl hk
  · simp only [Value.agg.injEq, Array.mk.injEq, List.cons.injEq, and_true, Value.slice.injEq] at he
    obtain ⟨_, _, _, rfl, _, _⟩ := he
    exact .inr ⟨g, off, ha, fun j hj => by
      obtain ⟨u0, u1, u2, u3, h4, hr⟩ := hc j hj
      exact ⟨_, d, u0, u1, u2, u3, h4, hr⟩⟩
/-- What work makes of an answer. -/
def lawV : Value → Value
  | .tuple #[.iface _ (.int .i64 n), _, _] => .tuple #[.int .i64 n, .int .i64 0]
  | .tuple #[.nilIface, .int .i64 c, _] => .tuple #[.int .i64 0, .int .i64 c]
  | _ => .nilIface
theorem lawV_came (n : Int) : lawV (cameV n) = .tuple #[.int .i64 n, .int .i64 0] := rfl
theorem lawV_ref (c : Int) : lawV (refV c) = .tuple #[.int .i64 0, .int .i64 c] := rfl
/-- A number, or a fault. -/
def IRes (R : Value) : Prop := (∃ n, R = cameV n) ∨ (∃ c, (c == 0) = false ∧ R = refV c)
theorem intRd (K : Nat → Prop) (w : World) (n : Int) : Rd K w 1 (.agg #[.int .i64 3, .int .i64 n, .string ⟨#[]⟩, .slice none 0 0]) (intT n) := ⟨none, 0, rfl, by decide, by decide, .inl rfl⟩
set_option maxRecDepth 100000 in
set_option maxHeartbeats 2000000 in
theorem lawWork (op : ByteArray) (xs : List Int) (g : Nat) (R : Value) (w : World) (hm : MaxAt w) (hn : xs.length ≤ 10) (hc : ∀ j, (h : j < xs.length) → w.cell? ⟨g, j, none⟩ = some (.int .i64 xs[j])) (hR : IRes R)
    (hwk : ∀ w1 a c, MaxAt w1 → PRow w1 a (xs.map intT) → Calls Tryz.prog 11 #[.string op, .slice a xs.length c] w1 fun e w' => e = .returned R ∧ Ext w1 w') :
    Calls Tryz.prog 25 #[.string op, .slice (some ⟨g, 0, none⟩) xs.length xs.length] w fun e w' => e = .returned (lawV R) ∧ Ext w w' := by
  have HM := hid hm
  have HC := hid hc
  have HW := hid hwk
  have HR := hid hR
  obtain ⟨n, hne⟩ : ∃ n, xs.length = n := ⟨_, rfl⟩
  have HNE := hid hne
  rw [hne] at hn HW ⊢
  have hn' : (n : Int) ≤ 10 := by omega
  have ha1 := fun (v : Value) (w : World) => as_in_in v w
  have ha2 := fun (w : World) => as_nil_in w
  clear hm hc hwk hR hne
  go_enter Tryz.func25, Tryz.ntmps25
  go_wp2_with fail
  go_loopw [6, 7] (fun q6 q7 wr => ∃ (j : Nat) (ao : Option Addr) (c : Nat), j ≤ n ∧ q7 = .int .i64 j ∧ q6 = .slice ao j c ∧ PItems wr w.heap.size wr.heap.size 1 (.slice ao j c) ((xs.take j).map intT) ∧ Ext w wr) (fun _ q7 _ => n - (intOf q7).toNat)
  case atStart => exact ⟨0, none, 0, Nat.zero_le _, rfl, rfl, PItems.nil _ _, Ext.refl _⟩
  case round =>
    obtain ⟨j, ao, c, hj, rfl, rfl, hit, hx⟩ := hrel
    have HIT := hid hit
    have HX := hid hx
    clear hit hx
    by_cases hlt : j < n
    · have hlt' : (j : Int) < n := by omega
      have hjx : j < xs.length := by rw [HNE.out]; exact hlt
      have hcell : wr.cell? ⟨g, j, none⟩ = some (.int .i64 xs[j]) := (Below.cell HX.out (lt_of_cell (HC.out j hjx))).trans (HC.out j hjx)
      have HL := hid (show ((xs.take j).map intT).length = j by rw [List.length_map, List.length_take, Nat.min_eq_left (Nat.le_of_lt hjx)])
      have HS := hid (show (xs.take j).map intT ++ [intT xs[j]] = (xs.take (j + 1)).map intT by rw [List.take_succ_eq_append_getElem hjx, List.map_append]; rfl)
      generalize xs[j] = x at *
      generalize (xs.take j).map intT = acc at *
      clear hjx
      go_wp2_with fail
      refine (whole_any x wr).mono ?_
      rintro e w2 ⟨rfl, hx2⟩
      have HX2 := hid hx2
      clear hx2
      go_wp2_with (at_builtin; go_loud (refine app_pitem rfl _ _ rfl rfl w.heap.size wr.heap.size 1 (.slice ao j c) acc 3 x ⟨#[]⟩ none 0 0 (intT x) rfl rfl (Nat.le_trans HX.out.size HX2.out.size) (HIT.out.keep (HX2.out.kp (fun _ => True)) (fun _ _ => trivial)) (intRd _ _ _) HX.out.size (by rw [HL.out]; omega) ?_); intro a5 c5 w5 hit5 hb5; rw [HL.out] at hit5 ⊢)
      go_roundw
      case rel => exact ⟨j + 1, a5, c5, by omega, by go_num, rfl, by rw [← HS.out]; exact hit5, Below.trans (HX.out.trans HX2.out) hb5⟩
      case measure => simp [intOf]; omega
    · have hje : j = n := by omega
      have hlt2 : decide ((j : Int) < n) = false := decide_eq_false (by omega)
      have hlt3 : ¬ (j : Int) < n := by omega
      have HP := hid (show PRow wr ao (xs.map intT) by
        have := HIT.out.prow (by simp; omega)
        rwa [List.take_of_length_le (by have := HNE.out; omega)] at this)
      subst hje
      go_wp2_with fail
      refine (HW.out wr ao c (HM.out.later HX.out) HP.out).mono ?_
      rintro e w2 ⟨rfl, hx2⟩
      have HX2 := hid (HX.out.trans hx2)
      clear hx2
      rcases HR.out with ⟨m, rfl⟩ | ⟨cc, hcc, rfl⟩
      · have HLV := hid (lawV_came m)
        unfold cameV
        go_wp2_with fail
        go_ret2
        exact ⟨by rw [HLV.out]; rfl, HX2.out⟩
      · have HLV := hid (lawV_ref cc)
        unfold refV
        go_wp2_with fail
        go_ret2
        exact ⟨by rw [HLV.out]; rfl, HX2.out⟩
end Go.Proofs.YtgpggkepgoelfaaGreatDoor
