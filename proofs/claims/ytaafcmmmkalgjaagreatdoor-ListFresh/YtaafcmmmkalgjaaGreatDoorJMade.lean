/-
  node.Rows: the rows of the kit base; kit.Base: its kit; by contracts.
-/
import Derived.Test.YtaafcmmmkalgjaaGreatDoorJBase
import Derived.Test.YtaafcmmmkalgjaaGreatDoorKKit
import Derived.Test.YtaafcmmmkalgjaaGreatDoorYRef
import Derived.Test.YtaafcmmmkalgjaaGreatDoorJFitR
namespace Go.Proofs.YtaafcmmmkalgjaaGreatDoor.Nd
open Go.RowKit
/-- What a kind can do, word by word. -/
def absL : Nat → List ByteArray
  | 0 => [⟨#[76, 105, 116, 101, 114, 97, 108]⟩, ⟨#[80, 117, 114, 101]⟩, ⟨#[84, 111, 116, 97, 108]⟩, ⟨#[83, 111, 114, 116, 101, 100]⟩]
  | 1 => [⟨#[76, 105, 116, 101, 114, 97, 108]⟩, ⟨#[80, 117, 114, 101]⟩, ⟨#[84, 111, 116, 97, 108]⟩, ⟨#[83, 111, 114, 116, 101, 100]⟩]
  | 2 => [⟨#[76, 105, 116, 101, 114, 97, 108]⟩, ⟨#[80, 117, 114, 101]⟩, ⟨#[84, 111, 116, 97, 108]⟩, ⟨#[83, 111, 114, 116, 101, 100]⟩]
  | 3 => [⟨#[76, 105, 116, 101, 114, 97, 108]⟩, ⟨#[80, 117, 114, 101]⟩, ⟨#[84, 111, 116, 97, 108]⟩, ⟨#[83, 111, 114, 116, 101, 100]⟩]
  | 4 => [⟨#[76, 105, 116, 101, 114, 97, 108]⟩, ⟨#[80, 117, 114, 101]⟩, ⟨#[84, 111, 116, 97, 108]⟩, ⟨#[83, 111, 114, 116, 101, 100]⟩]
  | 5 => [⟨#[85, 115, 101, 114]⟩, ⟨#[80, 117, 114, 101]⟩]
  | 6 => [⟨#[80, 117, 114, 101]⟩, ⟨#[84, 111, 116, 97, 108]⟩, ⟨#[70, 114, 97, 109, 101, 100]⟩]
  | _ => []
theorem absL_fields : ∀ j, j < 7 → (Lib.fields (hasK j).data.toList).map (fun l => (⟨l.toArray⟩ : ByteArray)) = absL j ∧ (hasK j).size ≤ 4000 ∧ (hasK j).data.toList.all (fun b => decide (b.toNat < 128)) = true
  | 0, _ => ⟨by kernel_rfl, by decide, by decide⟩
  | 1, _ => ⟨by kernel_rfl, by decide, by decide⟩
  | 2, _ => ⟨by kernel_rfl, by decide, by decide⟩
  | 3, _ => ⟨by kernel_rfl, by decide, by decide⟩
  | 4, _ => ⟨by kernel_rfl, by decide, by decide⟩
  | 5, _ => ⟨by kernel_rfl, by decide, by decide⟩
  | 6, _ => ⟨by kernel_rfl, by decide, by decide⟩
  | n + 7, h => absurd h (by omega)

/-- A row of the kit base. -/
def rowJ (j : Nat) : Rw := ⟨nmK j, minK j, maxK j, numK j, textK j, absL j⟩
def rowsK : List Rw := [rowJ 0, rowJ 1, rowJ 2, rowJ 3, rowJ 4, rowJ 5, rowJ 6]
theorem rowsK_at : ∀ j, (h : j < 7) → rowsK[j]? = some (rowJ j)
  | 0, _ => rfl
  | 1, _ => rfl
  | 2, _ => rfl
  | 3, _ => rfl
  | 4, _ => rfl
  | 5, _ => rfl
  | 6, _ => rfl
  | n + 7, h => absurd h (by omega)
theorem RItems.base {w : World} {B B' : Nat} {lv : Value} {acc : List Rw} (h : RItems w B lv acc) (hb : B' ≤ B) : RItems w B' lv acc := by
  obtain ⟨us, ho, hi⟩ := h
  refine ⟨us, ⟨ho.1, ?_⟩, hi⟩
  rcases ho.2 with h | ⟨g, cap, cur, hv, hg, hr⟩
  · exact .inl h
  · exact .inr ⟨g, cap, cur, hv, Nat.le_trans hb hg, hr⟩
theorem rowsK_take : ∀ j, j < 7 → rowsK.take j ++ [rowJ j] = rowsK.take (j + 1)
  | 0, _ => rfl
  | 1, _ => rfl
  | 2, _ => rfl
  | 3, _ => rfl
  | 4, _ => rfl
  | 5, _ => rfl
  | 6, _ => rfl
  | n + 7, h => absurd h (by omega)
def baseB : ByteArray := ⟨#[98, 97, 115, 101]⟩
theorem rowJ_good : ∀ j, j < 7 → GoodR [98, 97, 115, 101] (rowJ j)
  | 0, _ => ⟨⟨[117, 110, 105, 116], rfl, by kernel_rfl⟩, by decide, by kernel_rfl, by decide, by decide, by decide, by decide, by decide, by kernel_rfl, by decide⟩
  | 1, _ => ⟨⟨[121, 101, 115], rfl, by kernel_rfl⟩, by decide, by kernel_rfl, by decide, by decide, by decide, by decide, by decide, by kernel_rfl, by decide⟩
  | 2, _ => ⟨⟨[110, 111], rfl, by kernel_rfl⟩, by decide, by kernel_rfl, by decide, by decide, by decide, by decide, by decide, by kernel_rfl, by decide⟩
  | 3, _ => ⟨⟨[105, 110, 116], rfl, by kernel_rfl⟩, by decide, by kernel_rfl, by decide, by decide, by decide, by decide, by decide, by kernel_rfl, by decide⟩
  | 4, _ => ⟨⟨[116, 101, 120, 116], rfl, by kernel_rfl⟩, by decide, by kernel_rfl, by decide, by decide, by decide, by decide, by decide, by kernel_rfl, by decide⟩
  | 5, _ => ⟨⟨[118, 97, 114], rfl, by kernel_rfl⟩, by decide, by kernel_rfl, by decide, by decide, by decide, by decide, by decide, by kernel_rfl, by decide⟩
  | 6, _ => ⟨⟨[102, 114, 97, 109, 101], rfl, by kernel_rfl⟩, by decide, by kernel_rfl, by decide, by decide, by decide, by decide, by decide, by kernel_rfl, by decide⟩

  | n + 7, h => absurd h (by omega)
theorem rowsK_good : ∀ r ∈ rowsK, GoodR [98, 97, 115, 101] r := by
  intro r hr
  obtain ⟨j, hj, rfl⟩ := List.getElem_of_mem hr
  have hj7 : j < 7 := hj
  have e := rowsK_at j hj7
  rw [List.getElem?_eq_getElem hj] at e
  rw [Option.some.inj e]
  exact rowJ_good j hj7
theorem rowsK_nodup : (rowsK.map Rw.kind).Nodup := by decide
end Go.Proofs.YtaafcmmmkalgjaaGreatDoor.Nd
/-
  (*Kit).made of a maker that answers: it is called with a list of its own, and what it gives is told; kit.Base's maker; by contracts.
-/
namespace Go.Proofs.YtaafcmmmkalgjaaGreatDoor.Nd
open Go.RowKit
/-- A list of handles as it is handed in: none, or in memory. -/
def HandsP (w : World) (ao : Option Addr) (n c : Nat) (t : Nat → TypeId) (v : Nat → Value) : Prop := (ao = none ∧ n = 0 ∧ c = 0) ∨ ∃ a off, ao = some ⟨a, off, none⟩ ∧ Hands w a off n t v
theorem HandsP.later {w w' : World} {ao : Option Addr} {n c : Nat} {t : Nat → TypeId} {v : Nat → Value} (h : HandsP w ao n c t v) (hx : Ext w w') : HandsP w' ao n c t v := h.imp id fun ⟨a, off, e, hh⟩ => ⟨a, off, e, hh.later hx⟩
theorem HandsP.o {w : World} {ao : Option Addr} {n c : Nat} {t : Nat → TypeId} {v : Nat → Value} (h : HandsP w ao n c t v) : HandsO w ao n t v := h.imp (fun h => h.2.1) id
theorem cloneHands (ao : Option Addr) (n c : Nat) (t : Nat → TypeId) (v : Nat → Value) (w : World) (hn : n ≤ 100000) (h : HandsP w ao n c t v) : Calls Tryz.prog 95 #[.slice ao n c] w fun e w' => ∃ a' c', e = .returned (.slice a' n c') ∧ HandsO w' a' n t v ∧ Ext w w' := by
  rcases h with ⟨rfl, rfl, rfl⟩ | ⟨a, off, rfl, hh⟩
  · refine (cloneH_nil w).mono ?_
    rintro e w' ⟨rfl, rfl⟩
    exact ⟨none, 0, rfl, .inl rfl, Ext.refl _⟩
  · have hx : ∀ j, j < n → ∃ q, w.cell? ⟨a, off + j, none⟩ = some (.pointer (some ⟨q, 0, none⟩)) ∧ w.cell? ⟨q, 0, none⟩ = some (.iface (t j) (v j)) := fun j hj => by
      obtain ⟨q, h1, h2, _, _⟩ := hh j hj
      exact ⟨q, h1, h2⟩
    have hg : ∀ (j : Nat) (u : Value), ((List.range n).map fun i => (w.cell? ⟨a, off + i, none⟩).getD .nilIface)[j]? = some u → j < n ∧ w.cell? ⟨a, off + j, none⟩ = some u := fun j u hu => by
      rw [List.getElem?_map] at hu
      obtain ⟨i, hi, rfl⟩ := Option.map_eq_some_iff.1 hu
      have hji := List.getElem?_eq_some_iff.1 hi
      obtain ⟨hl, e⟩ := hji
      rw [List.length_range] at hl
      rw [List.getElem_range] at e
      subst e
      obtain ⟨q, h1, _⟩ := hx j hl
      exact ⟨hl, by rw [h1]; rfl⟩
    have hc := cloneH_some a off c ((List.range n).map fun i => (w.cell? ⟨a, off + i, none⟩).getD .nilIface) w (by simp; omega) (fun u hu => by
      obtain ⟨i, hi, rfl⟩ := List.mem_map.1 hu
      obtain ⟨q, h1, _⟩ := hx i (List.mem_range.1 hi)
      rw [h1]; rfl) (fun j u hu => (hg j u hu).2)
    rw [List.length_map, List.length_range] at hc
    refine hc.mono ?_
    rintro e w' ⟨q, rfl, ho, hxx⟩
    obtain ⟨a', c', rfl⟩ := ownsRow_slice ho
    refine ⟨a', c', rfl, ?_, hxx⟩
    rcases Nat.eq_zero_or_pos n with h0 | h0
    · exact .inl h0
    rcases ho.2 with ⟨_, h1⟩ | ⟨gg, cap, cur, hv, hbg, hbk, h3, h4, h5, h6⟩
    · omega
    injection hv with e1 _ _
    subst e1
    refine .inr ⟨gg, 0, rfl, fun j hj => ?_⟩
    obtain ⟨q, p0, p1⟩ := hx j hj
    have hcur : cur[j]? = some (.pointer (some ⟨q, 0, none⟩)) := by
      have e : ((List.range n).map fun i => (w.cell? ⟨a, off + i, none⟩).getD .nilIface)[j]? = some (.pointer (some ⟨q, 0, none⟩)) := by
        rw [List.getElem?_map, List.getElem?_range hj]
        simp [p0]
      rw [← h6, List.getElem?_take_of_lt (by omega)] at e
      simpa using e
    have p1' := (hxx.kp (fun _ => True)).cell p1 trivial
    exact ⟨q, by rw [Nat.zero_add]; exact cell_of hbk hcur, p1', lt_of_block hbk, lt_of_cell p1'⟩
set_option maxRecDepth 100000 in
theorem caught_idle (w : World) : CallsD Tryz.prog 94 #[] .returning w fun e u' w' => e = .returned (.tuple #[]) ∧ u' = .returning ∧ w' = w := by
  refine callsD_of_wpS Tryz.func94 rfl fun c₀ cs hu => ?_
  apply wpS_region
  simp [wpOpsS, go_sem, recoverD, hu, Tryz.ntmps94, bodyPostS, results, Tryz.results94]
  cases c₀
  simp_all
set_option maxRecDepth 100000 in
set_option maxHeartbeats 4000000 in
theorem made0 (f : Nat) (hE : EntersF f) (kb : Nat) (k x : ByteArray) (n : Int) (ka : Option Addr) (kl kc : Nat) (ao : Option Addr) (nk c : Nat) (Q : Option Addr → World → Prop) (P : World → Option Addr → Nat → Prop) (w : World) (hk3 : w.cell? ⟨kb, 3, none⟩ = some (.func (.func f) #[] #[]))
    (HCL0 : ∀ w1, Ext w w1 → Calls Tryz.prog 95 #[.slice ao nk c] w1 fun e w' => ∃ a' c', e = .returned (.slice a' nk c') ∧ P w' a' c' ∧ Ext w1 w')
    (hPl : ∀ w1 w2 a' c', P w1 a' c' → Ext w1 w2 → P w2 a' c')
    (HF : ∀ w1, Ext w w1 → ∀ a' c', P w1 a' c' → Calls Tryz.prog f #[.agg #[.string k, .int .i64 n, .string x, .slice none 0 0], .slice a' nk c'] w1 fun e w' => ∃ h, e = .returned (.pointer h) ∧ Q h w' ∧ Ext w1 w') :
    Calls Tryz.prog 68 #[.pointer (some ⟨kb, 0, none⟩), .agg #[.string k, .int .i64 n, .string x, .slice ka kl kc], .slice ao nk c] w fun e w' => ∃ h, e = .returned (.pointer h) ∧ Q h w' ∧ Ext w w' := by
  have HCL := hid HCL0
  have HK1 := hid HF
  have HK3 := hid hk3
  have HPL := hid hPl
  have hE' : ∀ (a : Array Value) (w : World), (callFunc f a).run Tryz.prog w = .ok (.enter f a) w := hE
  clear HCL0 HF hk3 hE hPl
  have hmf : ∀ (fn : Fn) (first cap : Array Value) (w : World), (Instr.makeFunc fn first cap).run Tryz.prog w = .ok (.func fn first cap) w := fun _ _ _ _ => rfl
  obtain ⟨M, hM⟩ : ∃ M, w.alloc (.cells #[.string k, .int .i64 n, .string x, .slice ka kl kc] 54) = M := ⟨_, rfl⟩
  have XM := hid (show Ext w M from hM ▸ Ext.alloc _ _)
  have HM0 := hid (show M.heap[w.heap.size]? = some (.cells #[.string k, .int .i64 n, .string x, .slice ka kl kc] 54) from hM ▸ blk0 _ _)
  go_enter_defers Tryz.func68, Tryz.ntmps68
  go_wp2_with fail
  clear hM
  have HSK := hid (show ∀ W', Ext M W' → (W'.cell? ⟨kb, 3, none⟩ = some (.func (.func f) #[] #[]) ∧ W'.cell? ⟨w.heap.size, 0, none⟩ = some (.string k) ∧ W'.cell? ⟨w.heap.size, 1, none⟩ = some (.int .i64 n) ∧ W'.cell? ⟨w.heap.size, 2, none⟩ = some (.string x)) from fun W' X => by
    obtain ⟨s0, s1, s2, s3⟩ := four_of (X.block HM0.out)
    exact ⟨((XM.out.trans X).kp (fun _ => True)).cell HK3.out trivial, s0, s1, s2⟩)
  go_region_held3 (fun W' => W'.cell? ⟨kb, 3, none⟩ = some (.func (.func f) #[] #[]) ∧ W'.cell? ⟨w.heap.size, 0, none⟩ = some (.string k) ∧ W'.cell? ⟨w.heap.size, 1, none⟩ = some (.int .i64 n) ∧ W'.cell? ⟨w.heap.size, 2, none⟩ = some (.string x))
    (first | with_reducible exact HSK.out _ (Ext.refl _) | with_reducible exact HSK.out _ (Ext.refl _).drew | with_reducible exact HSK.out _ Z2 | with_reducible exact HSK.out _ Z1 | go_keep)
    (first
      | (go_at_call 95; refine (HCL.out _ (XM.out.trans (by repeat (first | with_reducible exact Ext.refl _ | with_reducible refine Ext.drew ?_)))).mono ?_; rintro r u1 ⟨a1, c1, rfl, hh1, hy⟩; have Z1 : Ext M u1 := Ext.trans (by repeat (first | with_reducible exact Ext.refl _ | with_reducible refine Ext.drew ?_)) hy; have HH1 := hid hh1)
      | ((with_reducible refine (HK1.out _ (XM.out.trans (by repeat (first | with_reducible exact Z1 | with_reducible refine Ext.drew ?_))) _ _ (HPL.out _ _ _ _ HH1.out (by repeat (first | with_reducible exact Ext.refl _ | with_reducible refine Ext.drew ?_)))).mono ?_); rintro r u2 ⟨h2, rfl, hmade, hy⟩; have Z2 : Ext M u2 := Ext.trans (by repeat (first | with_reducible exact Z1 | with_reducible refine Ext.drew ?_)) hy; have HMD := hid hmade))
  all_goals
    go_wp2_with fail
    refine leaves_cons (f := 94) (args := #[]) (by simp) (by simp [go_sem]) ?_
    refine (caught_idle _).mono ?_
    rintro e u' w'' ⟨rfl, rfl, rfl⟩
    simp [Leaves, settle, results, Tryz.results68, go_sem]
    exact ⟨HMD.out, XM.out.trans Z2⟩
set_option maxRecDepth 100000 in
set_option maxHeartbeats 4000000 in
theorem made1 (f : Nat) (hE : EntersF f) (p : Nat) (kb : Nat) (k x : ByteArray) (n : Int) (ka : Option Addr) (kl kc : Nat) (ao : Option Addr) (nk c : Nat) (Q : Option Addr → World → Prop) (P : World → Option Addr → Nat → Prop) (w : World) (hk3 : w.cell? ⟨kb, 3, none⟩ = some (.func (.func f) #[] #[.pointer (some ⟨p, 0, none⟩)]))
    (HCL0 : ∀ w1, Ext w w1 → Calls Tryz.prog 95 #[.slice ao nk c] w1 fun e w' => ∃ a' c', e = .returned (.slice a' nk c') ∧ P w' a' c' ∧ Ext w1 w')
    (hPl : ∀ w1 w2 a' c', P w1 a' c' → Ext w1 w2 → P w2 a' c')
    (HF : ∀ w1, Ext w w1 → ∀ a' c', P w1 a' c' → Calls Tryz.prog f #[.agg #[.string k, .int .i64 n, .string x, .slice none 0 0], .slice a' nk c', .pointer (some ⟨p, 0, none⟩)] w1 fun e w' => ∃ h, e = .returned (.pointer h) ∧ Q h w' ∧ Ext w1 w') :
    Calls Tryz.prog 68 #[.pointer (some ⟨kb, 0, none⟩), .agg #[.string k, .int .i64 n, .string x, .slice ka kl kc], .slice ao nk c] w fun e w' => ∃ h, e = .returned (.pointer h) ∧ Q h w' ∧ Ext w w' := by
  have HCL := hid HCL0
  have HK1 := hid HF
  have HK3 := hid hk3
  have HPL := hid hPl
  have hE' : ∀ (a : Array Value) (w : World), (callFunc f a).run Tryz.prog w = .ok (.enter f a) w := hE
  clear HCL0 HF hk3 hE hPl
  have hmf : ∀ (fn : Fn) (first cap : Array Value) (w : World), (Instr.makeFunc fn first cap).run Tryz.prog w = .ok (.func fn first cap) w := fun _ _ _ _ => rfl
  obtain ⟨M, hM⟩ : ∃ M, w.alloc (.cells #[.string k, .int .i64 n, .string x, .slice ka kl kc] 54) = M := ⟨_, rfl⟩
  have XM := hid (show Ext w M from hM ▸ Ext.alloc _ _)
  have HM0 := hid (show M.heap[w.heap.size]? = some (.cells #[.string k, .int .i64 n, .string x, .slice ka kl kc] 54) from hM ▸ blk0 _ _)
  go_enter_defers Tryz.func68, Tryz.ntmps68
  go_wp2_with fail
  clear hM
  have HSK := hid (show ∀ W', Ext M W' → (W'.cell? ⟨kb, 3, none⟩ = some (.func (.func f) #[] #[.pointer (some ⟨p, 0, none⟩)]) ∧ W'.cell? ⟨w.heap.size, 0, none⟩ = some (.string k) ∧ W'.cell? ⟨w.heap.size, 1, none⟩ = some (.int .i64 n) ∧ W'.cell? ⟨w.heap.size, 2, none⟩ = some (.string x)) from fun W' X => by
    obtain ⟨s0, s1, s2, s3⟩ := four_of (X.block HM0.out)
    exact ⟨((XM.out.trans X).kp (fun _ => True)).cell HK3.out trivial, s0, s1, s2⟩)
  go_region_held3 (fun W' => W'.cell? ⟨kb, 3, none⟩ = some (.func (.func f) #[] #[.pointer (some ⟨p, 0, none⟩)]) ∧ W'.cell? ⟨w.heap.size, 0, none⟩ = some (.string k) ∧ W'.cell? ⟨w.heap.size, 1, none⟩ = some (.int .i64 n) ∧ W'.cell? ⟨w.heap.size, 2, none⟩ = some (.string x))
    (first | with_reducible exact HSK.out _ (Ext.refl _) | with_reducible exact HSK.out _ (Ext.refl _).drew | with_reducible exact HSK.out _ Z2 | with_reducible exact HSK.out _ Z1 | go_keep)
    (first
      | (go_at_call 95; refine (HCL.out _ (XM.out.trans (by repeat (first | with_reducible exact Ext.refl _ | with_reducible refine Ext.drew ?_)))).mono ?_; rintro r u1 ⟨a1, c1, rfl, hh1, hy⟩; have Z1 : Ext M u1 := Ext.trans (by repeat (first | with_reducible exact Ext.refl _ | with_reducible refine Ext.drew ?_)) hy; have HH1 := hid hh1)
      | ((with_reducible refine (HK1.out _ (XM.out.trans (by repeat (first | with_reducible exact Z1 | with_reducible refine Ext.drew ?_))) _ _ (HPL.out _ _ _ _ HH1.out (by repeat (first | with_reducible exact Ext.refl _ | with_reducible refine Ext.drew ?_)))).mono ?_); rintro r u2 ⟨h2, rfl, hmade, hy⟩; have Z2 : Ext M u2 := Ext.trans (by repeat (first | with_reducible exact Z1 | with_reducible refine Ext.drew ?_)) hy; have HMD := hid hmade))
  all_goals
    go_wp2_with fail
    refine leaves_cons (f := 94) (args := #[]) (by simp) (by simp [go_sem]) ?_
    refine (caught_idle _).mono ?_
    rintro e u' w'' ⟨rfl, rfl, rfl⟩
    simp [Leaves, settle, results, Tryz.results68, go_sem]
    exact ⟨HMD.out, XM.out.trans Z2⟩
/-- What the kit base's maker gives: a handle, or none. -/
def B1Q (B j : Nat) (k : ByteArray) (n : Int) (x : ByteArray) (nk : Nat) (t : Nat → TypeId) (v : Nat → Value) (h : Option Addr) (w' : World) : Prop := ∃ q b a c, h = some ⟨q, 0, none⟩ ∧ HandAt w' q (.iface (tyK j) (.pointer (some ⟨b, 0, none⟩))) (.iface (tyK j) (.pointer (some ⟨b, 0, none⟩))) ∧ NodeK j k n x (.slice a nk c) B (.iface (tyK j) (.pointer (some ⟨b, 0, none⟩))) w' ∧ w'.ownsRow B 50 1 (.slice a nk c) nk ((List.range nk).map fun i => .iface (t i) (v i)) ∧ B ≤ q
end Go.Proofs.YtaafcmmmkalgjaaGreatDoor.Nd
