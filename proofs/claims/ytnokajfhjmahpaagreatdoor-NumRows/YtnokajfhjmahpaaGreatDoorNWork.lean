/-
  num.Work on numbers, operation by operation; of a kind that does nothing; of a value that is no number.
-/
import Derived.Test.YtnokajfhjmahpaaGreatDoorNKinds
namespace Go.Proofs.YtnokajfhjmahpaaGreatDoor
open Go.RowKit
/-- A number as a plain value. -/
def intT (n : Int) : T := .node 3 n ⟨#[]⟩ []
def unitT : T := .node 1 0 ⟨#[]⟩ []
theorem intT_may (n : Int) : (intT n).may := by
  refine ⟨⟨.inr (.inr (.inl ⟨rfl, rfl, rfl⟩)), trivial⟩, ?_, ?_⟩
  · show (T.node 3 n ⟨#[]⟩ []).size ≤ 65536
    simp only [T.size, T.sizeL]; decide
  · show (T.node 3 n ⟨#[]⟩ []).deep ≤ 64
    simp only [T.deep]; simp
theorem unitT_may : unitT.may := by
  refine ⟨⟨.inl ⟨rfl, rfl, rfl, rfl⟩, trivial⟩, ?_, ?_⟩
  · show (T.node 1 0 ⟨#[]⟩ []).size ≤ 65536
    simp only [T.size, T.sizeL]; decide
  · show (T.node 1 0 ⟨#[]⟩ []).deep ≤ 64
    simp only [T.deep]; simp
theorem VRd.int {K : Nat → Prop} {w : World} {d : Nat} {v : Value} {n : Int} (h : VRd K w d v (intT n)) : v = .iface 82 (.int .i64 n) := by
  cases d with
  | zero => exact h.elim
  | succ d =>
    rcases h with ⟨h, _⟩ | ⟨h, _⟩ | ⟨_, _, _, h⟩ | ⟨h, _⟩ | ⟨h, _⟩
    · exact absurd h (by decide)
    · exact absurd h (by decide)
    · exact h
    · exact absurd h (by decide)
    · exact absurd h (by decide)
theorem VCells.two {w : World} {g : Nat} {x y : Int} (h : VCells w g [intT x, intT y]) : Two w g x y := by
  obtain ⟨_, _, v0, h0, r0⟩ := h 0 (Nat.le_of_ble_eq_true rfl)
  obtain ⟨_, _, v1, h1, r1⟩ := h 1 (Nat.le_of_ble_eq_true rfl)
  have e0 : v0 = _ := VRd.int (n := x) r0
  have e1 : v1 = _ := VRd.int (n := y) r1
  exact ⟨by rw [h0, e0], by rw [h1, e1]⟩
theorem VCells.one {w : World} {g : Nat} {x : Int} (h : VCells w g [intT x]) : One w g x := by
  obtain ⟨_, _, v0, h0, r0⟩ := h 0 (Nat.le_of_ble_eq_true rfl)
  have e0 : v0 = _ := VRd.int (n := x) r0
  show w.cell? _ = _
  rw [h0, e0]
theorem numJ : ∀ k ∈ numK, k.joins = false ∧ k.signs.size ≤ 4000 := by
  intro k hk
  obtain ⟨i, hi, rfl⟩ := List.getElem_of_mem hk
  have hl : numK.length = 15 := rfl
  rw [hl] at hi
  match i, hi with
  | 0, _ => exact ⟨rfl, Nat.le_of_ble_eq_true rfl⟩
  | 1, _ => exact ⟨rfl, Nat.le_of_ble_eq_true rfl⟩
  | 2, _ => exact ⟨rfl, Nat.le_of_ble_eq_true rfl⟩
  | 3, _ => exact ⟨rfl, Nat.le_of_ble_eq_true rfl⟩
  | 4, _ => exact ⟨rfl, Nat.le_of_ble_eq_true rfl⟩
  | 5, _ => exact ⟨rfl, Nat.le_of_ble_eq_true rfl⟩
  | 6, _ => exact ⟨rfl, Nat.le_of_ble_eq_true rfl⟩
  | 7, _ => exact ⟨rfl, Nat.le_of_ble_eq_true rfl⟩
  | 8, _ => exact ⟨rfl, Nat.le_of_ble_eq_true rfl⟩
  | 9, _ => exact ⟨rfl, Nat.le_of_ble_eq_true rfl⟩
  | 10, _ => exact ⟨rfl, Nat.le_of_ble_eq_true rfl⟩
  | 11, _ => exact ⟨rfl, Nat.le_of_ble_eq_true rfl⟩
  | 12, _ => exact ⟨rfl, Nat.le_of_ble_eq_true rfl⟩
  | 13, _ => exact ⟨rfl, Nat.le_of_ble_eq_true rfl⟩
  | 14, _ => exact ⟨rfl, Nat.le_of_ble_eq_true rfl⟩

  | n + 15, h => exact absurd h (by omega)
theorem NRes.came (n : Int) : NRes (cameV n) := .inl ⟨n, rfl⟩
theorem NRes.told (b : Bool) : NRes (toldV b) := .inr (.inl ⟨b, rfl⟩)
theorem NRes.ref {c : Int} (h : (c == 0) = false) : NRes (refV c) := .inr (.inr ⟨c, h, rfl⟩)
theorem NRes.three {R : Value} (h : NRes R) : ∃ x y z, R = .tuple #[x, y, z] := by
  rcases h with ⟨_, rfl⟩ | ⟨_, rfl⟩ | ⟨_, _, rfl⟩ <;> exact ⟨_, _, _, rfl⟩
theorem numLen : numK.length = 15 := rfl
theorem find_add : kdFind numK ⟨#[110, 117, 109, 46, 97, 100, 100]⟩ = some numK[0] := by kernel_rfl
theorem ent_add : Enters 40 := fun a w => by simp [callFunc, go_sem, Tryz.func40]; rfl
theorem wk_add (x y : Int) (hx : inR x) (hy : inR y) (a : Option Addr) (c : Nat) (w : World) (hm : MaxAt w) (hp : PRow w a [intT x, intT y]) : Calls Tryz.prog 13 #[.string ⟨#[110, 117, 109, 46, 97, 100, 100]⟩, .slice a 2 c] w fun e w' => e = .returned (addV x y) ∧ Ext w w' := by
  have hN : NRes (addV x y) := by unfold addV; split; exact NRes.came _; exact (NRes.ref (c := 21) (by decide))
  refine workN_of _ a 2 c w _ hN.three fun w1 tb hx1 ht => ?_
  have hwk := work_any numK tb ⟨#[110, 117, 109, 46, 97, 100, 100]⟩ a c [intT x, intT y] (addV x y) w1 (by rw [numLen]; decide) ht (hm.later hx1) (hp.later hx1) (Nat.le_of_ble_eq_true rfl) numJ
    (fun k f h1 h2 _ _ _ => by
      rw [find_add] at h1
      obtain rfl := Option.some.inj h1
      obtain rfl : 40 = f := Option.some.inj h2
      exact ⟨hN, fun w1 g hv => ((add_any g x y w1 hx hy hv.two).mono fun e w' h => ⟨h.1, h.2.ext⟩)⟩)
    (fun k f h1 h2 => by
      rw [find_add] at h1
      obtain rfl := Option.some.inj h1
      obtain rfl : 40 = f := Option.some.inj h2
      exact ent_add)
  have hV : workV numK ⟨#[110, 117, 109, 46, 97, 100, 100]⟩ [intT x, intT y] (addV x y) = addV x y := by
    unfold workV
    rw [find_add]
    show (if cntOk numK[0] 2 = false then refV 11 else if ∀ t ∈ [intT x, intT y], t.may then (if rightB numK[0].signs.data.toList (([intT x, intT y]).map T.kind) = true then addV x y else refV 20) else refV 1) = _
    rw [if_neg (show ¬ cntOk numK[0] 2 = false by rw [show cntOk numK[0] 2 = true from by kernel_rfl]; decide), if_pos (by intro t ht; simp only [List.mem_cons, List.not_mem_nil, or_false] at ht; rcases ht with rfl | rfl <;> exact intT_may _), if_pos (show rightB numK[0].signs.data.toList (([intT x, intT y]).map T.kind) = true from by kernel_rfl)]
  rw [hV] at hwk
  exact hwk
theorem find_sub : kdFind numK ⟨#[110, 117, 109, 46, 115, 117, 98]⟩ = some numK[1] := by kernel_rfl
theorem ent_sub : Enters 41 := fun a w => by simp [callFunc, go_sem, Tryz.func41]; rfl
theorem wk_sub (x y : Int) (hx : inR x) (hy : inR y) (a : Option Addr) (c : Nat) (w : World) (hm : MaxAt w) (hp : PRow w a [intT x, intT y]) : Calls Tryz.prog 13 #[.string ⟨#[110, 117, 109, 46, 115, 117, 98]⟩, .slice a 2 c] w fun e w' => e = .returned (subV x y) ∧ Ext w w' := by
  have hN : NRes (subV x y) := by unfold subV; split; exact NRes.came _; exact (NRes.ref (c := 21) (by decide))
  refine workN_of _ a 2 c w _ hN.three fun w1 tb hx1 ht => ?_
  have hwk := work_any numK tb ⟨#[110, 117, 109, 46, 115, 117, 98]⟩ a c [intT x, intT y] (subV x y) w1 (by rw [numLen]; decide) ht (hm.later hx1) (hp.later hx1) (Nat.le_of_ble_eq_true rfl) numJ
    (fun k f h1 h2 _ _ _ => by
      rw [find_sub] at h1
      obtain rfl := Option.some.inj h1
      obtain rfl : 41 = f := Option.some.inj h2
      exact ⟨hN, fun w1 g hv => ((sub_any g x y w1 hx hy hv.two).mono fun e w' h => ⟨h.1, h.2.ext⟩)⟩)
    (fun k f h1 h2 => by
      rw [find_sub] at h1
      obtain rfl := Option.some.inj h1
      obtain rfl : 41 = f := Option.some.inj h2
      exact ent_sub)
  have hV : workV numK ⟨#[110, 117, 109, 46, 115, 117, 98]⟩ [intT x, intT y] (subV x y) = subV x y := by
    unfold workV
    rw [find_sub]
    show (if cntOk numK[1] 2 = false then refV 11 else if ∀ t ∈ [intT x, intT y], t.may then (if rightB numK[1].signs.data.toList (([intT x, intT y]).map T.kind) = true then subV x y else refV 20) else refV 1) = _
    rw [if_neg (show ¬ cntOk numK[1] 2 = false by rw [show cntOk numK[1] 2 = true from by kernel_rfl]; decide), if_pos (by intro t ht; simp only [List.mem_cons, List.not_mem_nil, or_false] at ht; rcases ht with rfl | rfl <;> exact intT_may _), if_pos (show rightB numK[1].signs.data.toList (([intT x, intT y]).map T.kind) = true from by kernel_rfl)]
  rw [hV] at hwk
  exact hwk
theorem find_mul : kdFind numK ⟨#[110, 117, 109, 46, 109, 117, 108]⟩ = some numK[2] := by kernel_rfl
theorem ent_mul : Enters 42 := fun a w => by simp [callFunc, go_sem, Tryz.func42]; rfl
theorem wk_mul (x y : Int) (hx : inR x) (hy : inR y) (a : Option Addr) (c : Nat) (w : World) (hm : MaxAt w) (hp : PRow w a [intT x, intT y]) : Calls Tryz.prog 13 #[.string ⟨#[110, 117, 109, 46, 109, 117, 108]⟩, .slice a 2 c] w fun e w' => e = .returned (mulV x y) ∧ Ext w w' := by
  have hN : NRes (mulV x y) := by unfold mulV; split; exact NRes.came _; exact (NRes.ref (c := 21) (by decide))
  refine workN_of _ a 2 c w _ hN.three fun w1 tb hx1 ht => ?_
  have hwk := work_any numK tb ⟨#[110, 117, 109, 46, 109, 117, 108]⟩ a c [intT x, intT y] (mulV x y) w1 (by rw [numLen]; decide) ht (hm.later hx1) (hp.later hx1) (Nat.le_of_ble_eq_true rfl) numJ
    (fun k f h1 h2 _ _ _ => by
      rw [find_mul] at h1
      obtain rfl := Option.some.inj h1
      obtain rfl : 42 = f := Option.some.inj h2
      exact ⟨hN, fun w1 g hv => ((mul_any g x y w1 hx hy hv.two).mono fun e w' h => ⟨h.1, h.2.ext⟩)⟩)
    (fun k f h1 h2 => by
      rw [find_mul] at h1
      obtain rfl := Option.some.inj h1
      obtain rfl : 42 = f := Option.some.inj h2
      exact ent_mul)
  have hV : workV numK ⟨#[110, 117, 109, 46, 109, 117, 108]⟩ [intT x, intT y] (mulV x y) = mulV x y := by
    unfold workV
    rw [find_mul]
    show (if cntOk numK[2] 2 = false then refV 11 else if ∀ t ∈ [intT x, intT y], t.may then (if rightB numK[2].signs.data.toList (([intT x, intT y]).map T.kind) = true then mulV x y else refV 20) else refV 1) = _
    rw [if_neg (show ¬ cntOk numK[2] 2 = false by rw [show cntOk numK[2] 2 = true from by kernel_rfl]; decide), if_pos (by intro t ht; simp only [List.mem_cons, List.not_mem_nil, or_false] at ht; rcases ht with rfl | rfl <;> exact intT_may _), if_pos (show rightB numK[2].signs.data.toList (([intT x, intT y]).map T.kind) = true from by kernel_rfl)]
  rw [hV] at hwk
  exact hwk
theorem find_quo : kdFind numK ⟨#[110, 117, 109, 46, 113, 117, 111]⟩ = some numK[3] := by kernel_rfl
theorem ent_quo : Enters 43 := fun a w => by simp [callFunc, go_sem, Tryz.func43]; rfl
theorem wk_quo (x y : Int) (hx : inR x) (hy : inR y) (a : Option Addr) (c : Nat) (w : World) (hm : MaxAt w) (hp : PRow w a [intT x, intT y]) : Calls Tryz.prog 13 #[.string ⟨#[110, 117, 109, 46, 113, 117, 111]⟩, .slice a 2 c] w fun e w' => e = .returned (quoV x y) ∧ Ext w w' := by
  have hN : NRes (quoV x y) := by unfold quoV; split; exact (NRes.ref (c := 22) (by decide)); split; exact NRes.came _; exact (NRes.ref (c := 21) (by decide))
  refine workN_of _ a 2 c w _ hN.three fun w1 tb hx1 ht => ?_
  have hwk := work_any numK tb ⟨#[110, 117, 109, 46, 113, 117, 111]⟩ a c [intT x, intT y] (quoV x y) w1 (by rw [numLen]; decide) ht (hm.later hx1) (hp.later hx1) (Nat.le_of_ble_eq_true rfl) numJ
    (fun k f h1 h2 _ _ _ => by
      rw [find_quo] at h1
      obtain rfl := Option.some.inj h1
      obtain rfl : 43 = f := Option.some.inj h2
      exact ⟨hN, fun w1 g hv => ((quo_any g x y w1 hx hy hv.two).mono fun e w' h => ⟨h.1, h.2.ext⟩)⟩)
    (fun k f h1 h2 => by
      rw [find_quo] at h1
      obtain rfl := Option.some.inj h1
      obtain rfl : 43 = f := Option.some.inj h2
      exact ent_quo)
  have hV : workV numK ⟨#[110, 117, 109, 46, 113, 117, 111]⟩ [intT x, intT y] (quoV x y) = quoV x y := by
    unfold workV
    rw [find_quo]
    show (if cntOk numK[3] 2 = false then refV 11 else if ∀ t ∈ [intT x, intT y], t.may then (if rightB numK[3].signs.data.toList (([intT x, intT y]).map T.kind) = true then quoV x y else refV 20) else refV 1) = _
    rw [if_neg (show ¬ cntOk numK[3] 2 = false by rw [show cntOk numK[3] 2 = true from by kernel_rfl]; decide), if_pos (by intro t ht; simp only [List.mem_cons, List.not_mem_nil, or_false] at ht; rcases ht with rfl | rfl <;> exact intT_may _), if_pos (show rightB numK[3].signs.data.toList (([intT x, intT y]).map T.kind) = true from by kernel_rfl)]
  rw [hV] at hwk
  exact hwk
theorem find_mod : kdFind numK ⟨#[110, 117, 109, 46, 109, 111, 100]⟩ = some numK[4] := by kernel_rfl
theorem ent_mod : Enters 44 := fun a w => by simp [callFunc, go_sem, Tryz.func44]; rfl
theorem wk_mod (x y : Int) (hx : inR x) (hy : inR y) (a : Option Addr) (c : Nat) (w : World) (hm : MaxAt w) (hp : PRow w a [intT x, intT y]) : Calls Tryz.prog 13 #[.string ⟨#[110, 117, 109, 46, 109, 111, 100]⟩, .slice a 2 c] w fun e w' => e = .returned (modW x y) ∧ Ext w w' := by
  have hN : NRes (modW x y) := by unfold modW; split; exact (NRes.ref (c := 22) (by decide)); exact NRes.came _
  refine workN_of _ a 2 c w _ hN.three fun w1 tb hx1 ht => ?_
  have hwk := work_any numK tb ⟨#[110, 117, 109, 46, 109, 111, 100]⟩ a c [intT x, intT y] (modW x y) w1 (by rw [numLen]; decide) ht (hm.later hx1) (hp.later hx1) (Nat.le_of_ble_eq_true rfl) numJ
    (fun k f h1 h2 _ _ _ => by
      rw [find_mod] at h1
      obtain rfl := Option.some.inj h1
      obtain rfl : 44 = f := Option.some.inj h2
      exact ⟨hN, fun w1 g hv => ((mod_any g x y w1 hx hy hv.two).mono fun e w' h => ⟨h.1, h.2.ext⟩)⟩)
    (fun k f h1 h2 => by
      rw [find_mod] at h1
      obtain rfl := Option.some.inj h1
      obtain rfl : 44 = f := Option.some.inj h2
      exact ent_mod)
  have hV : workV numK ⟨#[110, 117, 109, 46, 109, 111, 100]⟩ [intT x, intT y] (modW x y) = modW x y := by
    unfold workV
    rw [find_mod]
    show (if cntOk numK[4] 2 = false then refV 11 else if ∀ t ∈ [intT x, intT y], t.may then (if rightB numK[4].signs.data.toList (([intT x, intT y]).map T.kind) = true then modW x y else refV 20) else refV 1) = _
    rw [if_neg (show ¬ cntOk numK[4] 2 = false by rw [show cntOk numK[4] 2 = true from by kernel_rfl]; decide), if_pos (by intro t ht; simp only [List.mem_cons, List.not_mem_nil, or_false] at ht; rcases ht with rfl | rfl <;> exact intT_may _), if_pos (show rightB numK[4].signs.data.toList (([intT x, intT y]).map T.kind) = true from by kernel_rfl)]
  rw [hV] at hwk
  exact hwk
theorem find_pow : kdFind numK ⟨#[110, 117, 109, 46, 112, 111, 119]⟩ = some numK[5] := by kernel_rfl
theorem ent_pow : Enters 45 := fun a w => by simp [callFunc, go_sem, Tryz.func45]; rfl
theorem wk_pow (x y : Int) (hx : inR x) (hy : inR y) (a : Option Addr) (c : Nat) (w : World) (hm : MaxAt w) (hp : PRow w a [intT x, intT y]) : Calls Tryz.prog 13 #[.string ⟨#[110, 117, 109, 46, 112, 111, 119]⟩, .slice a 2 c] w fun e w' => e = .returned (powV x y) ∧ Ext w w' := by
  have hN : NRes (powV x y) := by unfold powV; split; exact (NRes.ref (c := 23) (by decide)); split; exact NRes.came _; exact (NRes.ref (c := 21) (by decide))
  refine workN_of _ a 2 c w _ hN.three fun w1 tb hx1 ht => ?_
  have hwk := work_any numK tb ⟨#[110, 117, 109, 46, 112, 111, 119]⟩ a c [intT x, intT y] (powV x y) w1 (by rw [numLen]; decide) ht (hm.later hx1) (hp.later hx1) (Nat.le_of_ble_eq_true rfl) numJ
    (fun k f h1 h2 _ _ _ => by
      rw [find_pow] at h1
      obtain rfl := Option.some.inj h1
      obtain rfl : 45 = f := Option.some.inj h2
      exact ⟨hN, fun w1 g hv => ((pow_any g x y w1 hx hy hv.two).mono fun e w' h => ⟨h.1, h.2.ext⟩)⟩)
    (fun k f h1 h2 => by
      rw [find_pow] at h1
      obtain rfl := Option.some.inj h1
      obtain rfl : 45 = f := Option.some.inj h2
      exact ent_pow)
  have hV : workV numK ⟨#[110, 117, 109, 46, 112, 111, 119]⟩ [intT x, intT y] (powV x y) = powV x y := by
    unfold workV
    rw [find_pow]
    show (if cntOk numK[5] 2 = false then refV 11 else if ∀ t ∈ [intT x, intT y], t.may then (if rightB numK[5].signs.data.toList (([intT x, intT y]).map T.kind) = true then powV x y else refV 20) else refV 1) = _
    rw [if_neg (show ¬ cntOk numK[5] 2 = false by rw [show cntOk numK[5] 2 = true from by kernel_rfl]; decide), if_pos (by intro t ht; simp only [List.mem_cons, List.not_mem_nil, or_false] at ht; rcases ht with rfl | rfl <;> exact intT_may _), if_pos (show rightB numK[5].signs.data.toList (([intT x, intT y]).map T.kind) = true from by kernel_rfl)]
  rw [hV] at hwk
  exact hwk
theorem find_neg : kdFind numK ⟨#[110, 117, 109, 46, 110, 101, 103]⟩ = some numK[6] := by kernel_rfl
theorem ent_neg : Enters 46 := fun a w => by simp [callFunc, go_sem, Tryz.func46]; rfl
theorem wk_neg (x : Int) (hx : inR x) (a : Option Addr) (c : Nat) (w : World) (hm : MaxAt w) (hp : PRow w a [intT x]) : Calls Tryz.prog 13 #[.string ⟨#[110, 117, 109, 46, 110, 101, 103]⟩, .slice a 1 c] w fun e w' => e = .returned (negV x) ∧ Ext w w' := by
  have hN : NRes (negV x) := by unfold negV; split; exact NRes.came _; exact (NRes.ref (c := 21) (by decide))
  refine workN_of _ a 1 c w _ hN.three fun w1 tb hx1 ht => ?_
  have hwk := work_any numK tb ⟨#[110, 117, 109, 46, 110, 101, 103]⟩ a c [intT x] (negV x) w1 (by rw [numLen]; decide) ht (hm.later hx1) (hp.later hx1) (Nat.le_of_ble_eq_true rfl) numJ
    (fun k f h1 h2 _ _ _ => by
      rw [find_neg] at h1
      obtain rfl := Option.some.inj h1
      obtain rfl : 46 = f := Option.some.inj h2
      exact ⟨hN, fun w1 g hv => ((neg_any g x w1 hx hv.one).mono fun e w' h => ⟨h.1, h.2 ▸ Ext.refl _⟩)⟩)
    (fun k f h1 h2 => by
      rw [find_neg] at h1
      obtain rfl := Option.some.inj h1
      obtain rfl : 46 = f := Option.some.inj h2
      exact ent_neg)
  have hV : workV numK ⟨#[110, 117, 109, 46, 110, 101, 103]⟩ [intT x] (negV x) = negV x := by
    unfold workV
    rw [find_neg]
    show (if cntOk numK[6] 1 = false then refV 11 else if ∀ t ∈ [intT x], t.may then (if rightB numK[6].signs.data.toList (([intT x]).map T.kind) = true then negV x else refV 20) else refV 1) = _
    rw [if_neg (show ¬ cntOk numK[6] 1 = false by rw [show cntOk numK[6] 1 = true from by kernel_rfl]; decide), if_pos (by intro t ht; simp only [List.mem_cons, List.not_mem_nil, or_false] at ht; subst ht; exact intT_may _), if_pos (show rightB numK[6].signs.data.toList (([intT x]).map T.kind) = true from by kernel_rfl)]
  rw [hV] at hwk
  exact hwk
theorem find_abs : kdFind numK ⟨#[110, 117, 109, 46, 97, 98, 115]⟩ = some numK[7] := by kernel_rfl
theorem ent_abs : Enters 47 := fun a w => by simp [callFunc, go_sem, Tryz.func47]; rfl
theorem wk_abs (x : Int) (hx : inR x) (a : Option Addr) (c : Nat) (w : World) (hm : MaxAt w) (hp : PRow w a [intT x]) : Calls Tryz.prog 13 #[.string ⟨#[110, 117, 109, 46, 97, 98, 115]⟩, .slice a 1 c] w fun e w' => e = .returned (absV x) ∧ Ext w w' := by
  have hN : NRes (absV x) := by unfold absV negV; split; split; exact NRes.came _; exact (NRes.ref (c := 21) (by decide)); exact NRes.came _
  refine workN_of _ a 1 c w _ hN.three fun w1 tb hx1 ht => ?_
  have hwk := work_any numK tb ⟨#[110, 117, 109, 46, 97, 98, 115]⟩ a c [intT x] (absV x) w1 (by rw [numLen]; decide) ht (hm.later hx1) (hp.later hx1) (Nat.le_of_ble_eq_true rfl) numJ
    (fun k f h1 h2 _ _ _ => by
      rw [find_abs] at h1
      obtain rfl := Option.some.inj h1
      obtain rfl : 47 = f := Option.some.inj h2
      exact ⟨hN, fun w1 g hv => ((abs_any g x w1 hx hv.one).mono fun e w' h => ⟨h.1, h.2 ▸ Ext.refl _⟩)⟩)
    (fun k f h1 h2 => by
      rw [find_abs] at h1
      obtain rfl := Option.some.inj h1
      obtain rfl : 47 = f := Option.some.inj h2
      exact ent_abs)
  have hV : workV numK ⟨#[110, 117, 109, 46, 97, 98, 115]⟩ [intT x] (absV x) = absV x := by
    unfold workV
    rw [find_abs]
    show (if cntOk numK[7] 1 = false then refV 11 else if ∀ t ∈ [intT x], t.may then (if rightB numK[7].signs.data.toList (([intT x]).map T.kind) = true then absV x else refV 20) else refV 1) = _
    rw [if_neg (show ¬ cntOk numK[7] 1 = false by rw [show cntOk numK[7] 1 = true from by kernel_rfl]; decide), if_pos (by intro t ht; simp only [List.mem_cons, List.not_mem_nil, or_false] at ht; subst ht; exact intT_may _), if_pos (show rightB numK[7].signs.data.toList (([intT x]).map T.kind) = true from by kernel_rfl)]
  rw [hV] at hwk
  exact hwk
theorem find_min : kdFind numK ⟨#[110, 117, 109, 46, 109, 105, 110]⟩ = some numK[8] := by kernel_rfl
theorem ent_min : Enters 49 := fun a w => by simp [callFunc, go_sem, Tryz.func49]; rfl
theorem wk_min (x y : Int) (hx : inR x) (hy : inR y) (a : Option Addr) (c : Nat) (w : World) (hm : MaxAt w) (hp : PRow w a [intT x, intT y]) : Calls Tryz.prog 13 #[.string ⟨#[110, 117, 109, 46, 109, 105, 110]⟩, .slice a 2 c] w fun e w' => e = .returned (cameV (min x y)) ∧ Ext w w' := by
  have hN : NRes (cameV (min x y)) := NRes.came _
  refine workN_of _ a 2 c w _ hN.three fun w1 tb hx1 ht => ?_
  have hwk := work_any numK tb ⟨#[110, 117, 109, 46, 109, 105, 110]⟩ a c [intT x, intT y] (cameV (min x y)) w1 (by rw [numLen]; decide) ht (hm.later hx1) (hp.later hx1) (Nat.le_of_ble_eq_true rfl) numJ
    (fun k f h1 h2 _ _ _ => by
      rw [find_min] at h1
      obtain rfl := Option.some.inj h1
      obtain rfl : 49 = f := Option.some.inj h2
      exact ⟨hN, fun w1 g hv => ((least_any g x y w1 hx hy hv.two).mono fun e w' h => ⟨h.1, h.2.ext⟩)⟩)
    (fun k f h1 h2 => by
      rw [find_min] at h1
      obtain rfl := Option.some.inj h1
      obtain rfl : 49 = f := Option.some.inj h2
      exact ent_min)
  have hV : workV numK ⟨#[110, 117, 109, 46, 109, 105, 110]⟩ [intT x, intT y] (cameV (min x y)) = cameV (min x y) := by
    unfold workV
    rw [find_min]
    show (if cntOk numK[8] 2 = false then refV 11 else if ∀ t ∈ [intT x, intT y], t.may then (if rightB numK[8].signs.data.toList (([intT x, intT y]).map T.kind) = true then cameV (min x y) else refV 20) else refV 1) = _
    rw [if_neg (show ¬ cntOk numK[8] 2 = false by rw [show cntOk numK[8] 2 = true from by kernel_rfl]; decide), if_pos (by intro t ht; simp only [List.mem_cons, List.not_mem_nil, or_false] at ht; rcases ht with rfl | rfl <;> exact intT_may _), if_pos (show rightB numK[8].signs.data.toList (([intT x, intT y]).map T.kind) = true from by kernel_rfl)]
  rw [hV] at hwk
  exact hwk
theorem find_max : kdFind numK ⟨#[110, 117, 109, 46, 109, 97, 120]⟩ = some numK[9] := by kernel_rfl
theorem ent_max : Enters 50 := fun a w => by simp [callFunc, go_sem, Tryz.func50]; rfl
theorem wk_max (x y : Int) (hx : inR x) (hy : inR y) (a : Option Addr) (c : Nat) (w : World) (hm : MaxAt w) (hp : PRow w a [intT x, intT y]) : Calls Tryz.prog 13 #[.string ⟨#[110, 117, 109, 46, 109, 97, 120]⟩, .slice a 2 c] w fun e w' => e = .returned (cameV (max x y)) ∧ Ext w w' := by
  have hN : NRes (cameV (max x y)) := NRes.came _
  refine workN_of _ a 2 c w _ hN.three fun w1 tb hx1 ht => ?_
  have hwk := work_any numK tb ⟨#[110, 117, 109, 46, 109, 97, 120]⟩ a c [intT x, intT y] (cameV (max x y)) w1 (by rw [numLen]; decide) ht (hm.later hx1) (hp.later hx1) (Nat.le_of_ble_eq_true rfl) numJ
    (fun k f h1 h2 _ _ _ => by
      rw [find_max] at h1
      obtain rfl := Option.some.inj h1
      obtain rfl : 50 = f := Option.some.inj h2
      exact ⟨hN, fun w1 g hv => ((greatest_any g x y w1 hx hy hv.two).mono fun e w' h => ⟨h.1, h.2.ext⟩)⟩)
    (fun k f h1 h2 => by
      rw [find_max] at h1
      obtain rfl := Option.some.inj h1
      obtain rfl : 50 = f := Option.some.inj h2
      exact ent_max)
  have hV : workV numK ⟨#[110, 117, 109, 46, 109, 97, 120]⟩ [intT x, intT y] (cameV (max x y)) = cameV (max x y) := by
    unfold workV
    rw [find_max]
    show (if cntOk numK[9] 2 = false then refV 11 else if ∀ t ∈ [intT x, intT y], t.may then (if rightB numK[9].signs.data.toList (([intT x, intT y]).map T.kind) = true then cameV (max x y) else refV 20) else refV 1) = _
    rw [if_neg (show ¬ cntOk numK[9] 2 = false by rw [show cntOk numK[9] 2 = true from by kernel_rfl]; decide), if_pos (by intro t ht; simp only [List.mem_cons, List.not_mem_nil, or_false] at ht; rcases ht with rfl | rfl <;> exact intT_may _), if_pos (show rightB numK[9].signs.data.toList (([intT x, intT y]).map T.kind) = true from by kernel_rfl)]
  rw [hV] at hwk
  exact hwk
theorem find_less : kdFind numK ⟨#[110, 117, 109, 46, 108, 101, 115, 115]⟩ = some numK[10] := by kernel_rfl
theorem ent_less : Enters 51 := fun a w => by simp [callFunc, go_sem, Tryz.func51]; rfl
theorem wk_less (x y : Int) (hx : inR x) (hy : inR y) (a : Option Addr) (c : Nat) (w : World) (hm : MaxAt w) (hp : PRow w a [intT x, intT y]) : Calls Tryz.prog 13 #[.string ⟨#[110, 117, 109, 46, 108, 101, 115, 115]⟩, .slice a 2 c] w fun e w' => e = .returned (toldV (decide (x < y))) ∧ Ext w w' := by
  have hN : NRes (toldV (decide (x < y))) := NRes.told _
  refine workN_of _ a 2 c w _ hN.three fun w1 tb hx1 ht => ?_
  have hwk := work_any numK tb ⟨#[110, 117, 109, 46, 108, 101, 115, 115]⟩ a c [intT x, intT y] (toldV (decide (x < y))) w1 (by rw [numLen]; decide) ht (hm.later hx1) (hp.later hx1) (Nat.le_of_ble_eq_true rfl) numJ
    (fun k f h1 h2 _ _ _ => by
      rw [find_less] at h1
      obtain rfl := Option.some.inj h1
      obtain rfl : 51 = f := Option.some.inj h2
      exact ⟨hN, fun w1 g hv => ((less_any g x y w1 hx hy hv.two).mono fun e w' h => ⟨h.1, h.2.ext⟩)⟩)
    (fun k f h1 h2 => by
      rw [find_less] at h1
      obtain rfl := Option.some.inj h1
      obtain rfl : 51 = f := Option.some.inj h2
      exact ent_less)
  have hV : workV numK ⟨#[110, 117, 109, 46, 108, 101, 115, 115]⟩ [intT x, intT y] (toldV (decide (x < y))) = toldV (decide (x < y)) := by
    unfold workV
    rw [find_less]
    show (if cntOk numK[10] 2 = false then refV 11 else if ∀ t ∈ [intT x, intT y], t.may then (if rightB numK[10].signs.data.toList (([intT x, intT y]).map T.kind) = true then toldV (decide (x < y)) else refV 20) else refV 1) = _
    rw [if_neg (show ¬ cntOk numK[10] 2 = false by rw [show cntOk numK[10] 2 = true from by kernel_rfl]; decide), if_pos (by intro t ht; simp only [List.mem_cons, List.not_mem_nil, or_false] at ht; rcases ht with rfl | rfl <;> exact intT_may _), if_pos (show rightB numK[10].signs.data.toList (([intT x, intT y]).map T.kind) = true from by kernel_rfl)]
  rw [hV] at hwk
  exact hwk
theorem find_most : kdFind numK ⟨#[110, 117, 109, 46, 109, 111, 115, 116]⟩ = some numK[11] := by kernel_rfl
theorem ent_most : Enters 52 := fun a w => by simp [callFunc, go_sem, Tryz.func52]; rfl
theorem wk_most (x y : Int) (hx : inR x) (hy : inR y) (a : Option Addr) (c : Nat) (w : World) (hm : MaxAt w) (hp : PRow w a [intT x, intT y]) : Calls Tryz.prog 13 #[.string ⟨#[110, 117, 109, 46, 109, 111, 115, 116]⟩, .slice a 2 c] w fun e w' => e = .returned (toldV (decide (x ≤ y))) ∧ Ext w w' := by
  have hN : NRes (toldV (decide (x ≤ y))) := NRes.told _
  refine workN_of _ a 2 c w _ hN.three fun w1 tb hx1 ht => ?_
  have hwk := work_any numK tb ⟨#[110, 117, 109, 46, 109, 111, 115, 116]⟩ a c [intT x, intT y] (toldV (decide (x ≤ y))) w1 (by rw [numLen]; decide) ht (hm.later hx1) (hp.later hx1) (Nat.le_of_ble_eq_true rfl) numJ
    (fun k f h1 h2 _ _ _ => by
      rw [find_most] at h1
      obtain rfl := Option.some.inj h1
      obtain rfl : 52 = f := Option.some.inj h2
      exact ⟨hN, fun w1 g hv => ((most_any g x y w1 hx hy hv.two).mono fun e w' h => ⟨h.1, h.2.ext⟩)⟩)
    (fun k f h1 h2 => by
      rw [find_most] at h1
      obtain rfl := Option.some.inj h1
      obtain rfl : 52 = f := Option.some.inj h2
      exact ent_most)
  have hV : workV numK ⟨#[110, 117, 109, 46, 109, 111, 115, 116]⟩ [intT x, intT y] (toldV (decide (x ≤ y))) = toldV (decide (x ≤ y)) := by
    unfold workV
    rw [find_most]
    show (if cntOk numK[11] 2 = false then refV 11 else if ∀ t ∈ [intT x, intT y], t.may then (if rightB numK[11].signs.data.toList (([intT x, intT y]).map T.kind) = true then toldV (decide (x ≤ y)) else refV 20) else refV 1) = _
    rw [if_neg (show ¬ cntOk numK[11] 2 = false by rw [show cntOk numK[11] 2 = true from by kernel_rfl]; decide), if_pos (by intro t ht; simp only [List.mem_cons, List.not_mem_nil, or_false] at ht; rcases ht with rfl | rfl <;> exact intT_may _), if_pos (show rightB numK[11].signs.data.toList (([intT x, intT y]).map T.kind) = true from by kernel_rfl)]
  rw [hV] at hwk
  exact hwk

end Go.Proofs.YtnokajfhjmahpaaGreatDoor
