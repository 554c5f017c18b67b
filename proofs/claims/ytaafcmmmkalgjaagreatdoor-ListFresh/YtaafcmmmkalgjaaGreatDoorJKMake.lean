/-
  (*Kit).made of a maker that answers: it is called with a list of its own, and what it gives is told; kit.Base's maker; by contracts.
-/
import Derived.Test.YtaafcmmmkalgjaaGreatDoorBMatch
import Derived.Test.YtaafcmmmkalgjaaGreatDoorJCKit1
import Derived.Test.YtaafcmmmkalgjaaGreatDoorBOdd
namespace Go.Proofs.YtaafcmmmkalgjaaGreatDoor.Nd
open Go.RowKit
/-- A list of handles as it is handed in: none, or in memory. -/
def HandsP (w : World) (ao : Option Addr) (n c : Nat) (t : Nat → TypeId) (v : Nat → Value) : Prop := (ao = none ∧ n = 0 ∧ c = 0) ∨ ∃ a off, ao = some ⟨a, off, none⟩ ∧ Hands w a off n t v
theorem HandsP.later {w w' : World} {ao : Option Addr} {n c : Nat} {t : Nat → TypeId} {v : Nat → Value} (h : HandsP w ao n c t v) (hx : Ext w w') : HandsP w' ao n c t v := h.imp id fun ⟨a, off, e, hh⟩ => ⟨a, off, e, hh.later hx⟩
theorem HandsP.o {w : World} {ao : Option Addr} {n c : Nat} {t : Nat → TypeId} {v : Nat → Value} (h : HandsP w ao n c t v) : HandsO w ao n t v := h.imp (fun h => h.2.1) id
theorem cloneHands (ao : Option Addr) (n c : Nat) (t : Nat → TypeId) (v : Nat → Value) (w : World) (hn : n ≤ 100000) (h : HandsP w ao n c t v) : Calls Tryz.prog 95 #[.slice ao n c] w fun e w' => ∃ a' c', e = .returned (.slice a' n c') ∧ HandsO w' a' n t v ∧ Ext w w' := by
  rcases h with ⟨rfl, rfl, rfl⟩ | ⟨a, off, rfl, hh⟩
  · refine (cloneH_nil w).mono ?_
    rintro e w' ⟨rfl, rfl⟩
    exact ⟨none, 0, rfl, .inl rfl, Ext.refl _⟩
  · have hx : ∀ j, j < n → ∃ q, w.cell? ⟨a, off + j, none⟩ = some (.pointer (some ⟨q, 0, none⟩)) ∧ w.cell? ⟨q, 0, none⟩ = some (.iface (t j) (v j)) := fun j hj => by
      obtain ⟨q, h1, h2, _, _⟩ := hh j hj
      exact ⟨q, h1, h2⟩
    have hg : ∀ (j : Nat) (u : Value), ((List.range n).map fun i => (w.cell? ⟨a, off + i, none⟩).getD .nilIface)[j]? = some u → j < n ∧ w.cell? ⟨a, off + j, none⟩ = some u := fun j u hu => by
      rw [List.getElem?_map] at hu
      obtain ⟨i, hi, rfl⟩ := Option.map_eq_some_iff.1 hu
      have hji := List.getElem?_eq_some_iff.1 hi
      obtain ⟨hl, e⟩ := hji
      rw [List.length_range] at hl
      rw [List.getElem_range] at e
      subst e
      obtain ⟨q, h1, _⟩ := hx j hl
      exact ⟨hl, by rw [h1]; rfl⟩
    have hc := cloneH_some a off c ((List.range n).map fun i => (w.cell? ⟨a, off + i, none⟩).getD .nilIface) w (by simp; omega) (fun u hu => by
      obtain ⟨i, hi, rfl⟩ := List.mem_map.1 hu
      obtain ⟨q, h1, _⟩ := hx i (List.mem_range.1 hi)
      rw [h1]; rfl) (fun j u hu => (hg j u hu).2)
    rw [List.length_map, List.length_range] at hc
    refine hc.mono ?_
    rintro e w' ⟨q, rfl, ho, hxx⟩
    obtain ⟨a', c', rfl⟩ := ownsRow_slice ho
    refine ⟨a', c', rfl, ?_, hxx⟩
    rcases Nat.eq_zero_or_pos n with h0 | h0
    · exact .inl h0
    rcases ho.2 with ⟨_, h1⟩ | ⟨gg, cap, cur, hv, hbg, hbk, h3, h4, h5, h6⟩
    · omega
    injection hv with e1 _ _
    subst e1
    refine .inr ⟨gg, 0, rfl, fun j hj => ?_⟩
    obtain ⟨q, p0, p1⟩ := hx j hj
    have hcur : cur[j]? = some (.pointer (some ⟨q, 0, none⟩)) := by
      have e : ((List.range n).map fun i => (w.cell? ⟨a, off + i, none⟩).getD .nilIface)[j]? = some (.pointer (some ⟨q, 0, none⟩)) := by
        rw [List.getElem?_map, List.getElem?_range hj]
        simp [p0]
      rw [← h6, List.getElem?_take_of_lt (by omega)] at e
      simpa using e
    have p1' := (hxx.kp (fun _ => True)).cell p1 trivial
    exact ⟨q, by rw [Nat.zero_add]; exact cell_of hbk hcur, p1', lt_of_block hbk, lt_of_cell p1'⟩
set_option maxRecDepth 100000 in
theorem caught_idle (w : World) : CallsD Tryz.prog 94 #[] .returning w fun e u' w' => e = .returned (.tuple #[]) ∧ u' = .returning ∧ w' = w := by
  refine callsD_of_wpS Tryz.func94 rfl fun c₀ cs hu => ?_
  apply wpS_region
  simp [wpOpsS, go_sem, recoverD, hu, Tryz.ntmps94, bodyPostS, results, Tryz.results94]
  cases c₀
  simp_all
set_option maxRecDepth 100000 in
set_option maxHeartbeats 4000000 in
theorem made0 (f : Nat) (hE : EntersF f) (kb : Nat) (k x : ByteArray) (n : Int) (ka : Option Addr) (kl kc : Nat) (ao : Option Addr) (nk c : Nat) (Q : Option Addr → World → Prop) (P : World → Option Addr → Nat → Prop) (w : World) (hk3 : w.cell? ⟨kb, 3, none⟩ = some (.func (.func f) #[] #[]))
    (HCL0 : ∀ w1, Ext w w1 → Calls Tryz.prog 95 #[.slice ao nk c] w1 fun e w' => ∃ a' c', e = .returned (.slice a' nk c') ∧ P w' a' c' ∧ Ext w1 w')
    (hPl : ∀ w1 w2 a' c', P w1 a' c' → Ext w1 w2 → P w2 a' c')
    (HF : ∀ w1, Ext w w1 → ∀ a' c', P w1 a' c' → Calls Tryz.prog f #[.agg #[.string k, .int .i64 n, .string x, .slice none 0 0], .slice a' nk c'] w1 fun e w' => ∃ h, e = .returned (.pointer h) ∧ Q h w' ∧ Ext w1 w') :
    Calls Tryz.prog 68 #[.pointer (some ⟨kb, 0, none⟩), .agg #[.string k, .int .i64 n, .string x, .slice ka kl kc], .slice ao nk c] w fun e w' => ∃ h, e = .returned (.pointer h) ∧ Q h w' ∧ Ext w w' := by
  have HCL := hid HCL0
  have HK1 := hid HF
  have HK3 := hid hk3
  have HPL := hid hPl
  have hE' : ∀ (a : Array Value) (w : World), (callFunc f a).run Tryz.prog w = .ok (.enter f a) w := hE
  clear HCL0 HF hk3 hE hPl
  have hmf : ∀ (fn : Fn) (first cap : Array Value) (w : World), (Instr.makeFunc fn first cap).run Tryz.prog w = .ok (.func fn first cap) w := fun _ _ _ _ => rfl
  obtain ⟨M, hM⟩ : ∃ M, w.alloc (.cells #[.string k, .int .i64 n, .string x, .slice ka kl kc] 54) = M := ⟨_, rfl⟩
  have XM := hid (show Ext w M from hM ▸ Ext.alloc _ _)
  have HM0 := hid (show M.heap[w.heap.size]? = some (.cells #[.string k, .int .i64 n, .string x, .slice ka kl kc] 54) from hM ▸ blk0 _ _)
  go_enter_defers Tryz.func68, Tryz.ntmps68
  go_wp2_with fail
  clear hM
  have HSK := hid (show ∀ W', Ext M W' → (W'.cell? ⟨kb, 3, none⟩ = some (.func (.func f) #[] #[]) ∧ W'.cell? ⟨w.heap.size, 0, none⟩ = some (.string k) ∧ W'.cell? ⟨w.heap.size, 1, none⟩ = some (.int .i64 n) ∧ W'.cell? ⟨w.heap.size, 2, none⟩ = some (.string x)) from fun W' X => by
    obtain ⟨s0, s1, s2, s3⟩ := four_of (X.block HM0.out)
    exact ⟨((XM.out.trans X).kp (fun _ => True)).cell HK3.out trivial, s0, s1, s2⟩)
  go_region_held3 (fun W' => W'.cell? ⟨kb, 3, none⟩ = some (.func (.func f) #[] #[]) ∧ W'.cell? ⟨w.heap.size, 0, none⟩ = some (.string k) ∧ W'.cell? ⟨w.heap.size, 1, none⟩ = some (.int .i64 n) ∧ W'.cell? ⟨w.heap.size, 2, none⟩ = some (.string x))
    (first | with_reducible exact HSK.out _ (Ext.refl _) | with_reducible exact HSK.out _ (Ext.refl _).drew | with_reducible exact HSK.out _ Z2 | with_reducible exact HSK.out _ Z1 | go_keep)
    (first
      | (go_at_call 95; refine (HCL.out _ (XM.out.trans (by repeat (first | with_reducible exact Ext.refl _ | with_reducible refine Ext.drew ?_)))).mono ?_; rintro r u1 ⟨a1, c1, rfl, hh1, hy⟩; have Z1 : Ext M u1 := Ext.trans (by repeat (first | with_reducible exact Ext.refl _ | with_reducible refine Ext.drew ?_)) hy; have HH1 := hid hh1)
      | ((with_reducible refine (HK1.out _ (XM.out.trans (by repeat (first | with_reducible exact Z1 | with_reducible refine Ext.drew ?_))) _ _ (HPL.out _ _ _ _ HH1.out (by repeat (first | with_reducible exact Ext.refl _ | with_reducible refine Ext.drew ?_)))).mono ?_); rintro r u2 ⟨h2, rfl, hmade, hy⟩; have Z2 : Ext M u2 := Ext.trans (by repeat (first | with_reducible exact Z1 | with_reducible refine Ext.drew ?_)) hy; have HMD := hid hmade))
  all_goals
    go_wp2_with fail
    refine leaves_cons (f := 94) (args := #[]) (by simp) (by simp [go_sem]) ?_
    refine (caught_idle _).mono ?_
    rintro e u' w'' ⟨rfl, rfl, rfl⟩
    simp [Leaves, settle, results, Tryz.results68, go_sem]
    exact ⟨HMD.out, XM.out.trans Z2⟩
set_option maxRecDepth 100000 in
set_option maxHeartbeats 4000000 in
theorem made1 (f : Nat) (hE : EntersF f) (p : Nat) (kb : Nat) (k x : ByteArray) (n : Int) (ka : Option Addr) (kl kc : Nat) (ao : Option Addr) (nk c : Nat) (Q : Option Addr → World → Prop) (P : World → Option Addr → Nat → Prop) (w : World) (hk3 : w.cell? ⟨kb, 3, none⟩ = some (.func (.func f) #[] #[.pointer (some ⟨p, 0, none⟩)]))
    (HCL0 : ∀ w1, Ext w w1 → Calls Tryz.prog 95 #[.slice ao nk c] w1 fun e w' => ∃ a' c', e = .returned (.slice a' nk c') ∧ P w' a' c' ∧ Ext w1 w')
    (hPl : ∀ w1 w2 a' c', P w1 a' c' → Ext w1 w2 → P w2 a' c')
    (HF : ∀ w1, Ext w w1 → ∀ a' c', P w1 a' c' → Calls Tryz.prog f #[.agg #[.string k, .int .i64 n, .string x, .slice none 0 0], .slice a' nk c', .pointer (some ⟨p, 0, none⟩)] w1 fun e w' => ∃ h, e = .returned (.pointer h) ∧ Q h w' ∧ Ext w1 w') :
    Calls Tryz.prog 68 #[.pointer (some ⟨kb, 0, none⟩), .agg #[.string k, .int .i64 n, .string x, .slice ka kl kc], .slice ao nk c] w fun e w' => ∃ h, e = .returned (.pointer h) ∧ Q h w' ∧ Ext w w' := by
  have HCL := hid HCL0
  have HK1 := hid HF
  have HK3 := hid hk3
  have HPL := hid hPl
  have hE' : ∀ (a : Array Value) (w : World), (callFunc f a).run Tryz.prog w = .ok (.enter f a) w := hE
  clear HCL0 HF hk3 hE hPl
  have hmf : ∀ (fn : Fn) (first cap : Array Value) (w : World), (Instr.makeFunc fn first cap).run Tryz.prog w = .ok (.func fn first cap) w := fun _ _ _ _ => rfl
  obtain ⟨M, hM⟩ : ∃ M, w.alloc (.cells #[.string k, .int .i64 n, .string x, .slice ka kl kc] 54) = M := ⟨_, rfl⟩
  have XM := hid (show Ext w M from hM ▸ Ext.alloc _ _)
  have HM0 := hid (show M.heap[w.heap.size]? = some (.cells #[.string k, .int .i64 n, .string x, .slice ka kl kc] 54) from hM ▸ blk0 _ _)
  go_enter_defers Tryz.func68, Tryz.ntmps68
  go_wp2_with fail
  clear hM
  have HSK := hid (show ∀ W', Ext M W' → (W'.cell? ⟨kb, 3, none⟩ = some (.func (.func f) #[] #[.pointer (some ⟨p, 0, none⟩)]) ∧ W'.cell? ⟨w.heap.size, 0, none⟩ = some (.string k) ∧ W'.cell? ⟨w.heap.size, 1, none⟩ = some (.int .i64 n) ∧ W'.cell? ⟨w.heap.size, 2, none⟩ = some (.string x)) from fun W' X => by
    obtain ⟨s0, s1, s2, s3⟩ := four_of (X.block HM0.out)
    exact ⟨((XM.out.trans X).kp (fun _ => True)).cell HK3.out trivial, s0, s1, s2⟩)
  go_region_held3 (fun W' => W'.cell? ⟨kb, 3, none⟩ = some (.func (.func f) #[] #[.pointer (some ⟨p, 0, none⟩)]) ∧ W'.cell? ⟨w.heap.size, 0, none⟩ = some (.string k) ∧ W'.cell? ⟨w.heap.size, 1, none⟩ = some (.int .i64 n) ∧ W'.cell? ⟨w.heap.size, 2, none⟩ = some (.string x))
    (first | with_reducible exact HSK.out _ (Ext.refl _) | with_reducible exact HSK.out _ (Ext.refl _).drew | with_reducible exact HSK.out _ Z2 | with_reducible exact HSK.out _ Z1 | go_keep)
    (first
      | (go_at_call 95; refine (HCL.out _ (XM.out.trans (by repeat (first | with_reducible exact Ext.refl _ | with_reducible refine Ext.drew ?_)))).mono ?_; rintro r u1 ⟨a1, c1, rfl, hh1, hy⟩; have Z1 : Ext M u1 := Ext.trans (by repeat (first | with_reducible exact Ext.refl _ | with_reducible refine Ext.drew ?_)) hy; have HH1 := hid hh1)
      | ((with_reducible refine (HK1.out _ (XM.out.trans (by repeat (first | with_reducible exact Z1 | with_reducible refine Ext.drew ?_))) _ _ (HPL.out _ _ _ _ HH1.out (by repeat (first | with_reducible exact Ext.refl _ | with_reducible refine Ext.drew ?_)))).mono ?_); rintro r u2 ⟨h2, rfl, hmade, hy⟩; have Z2 : Ext M u2 := Ext.trans (by repeat (first | with_reducible exact Z1 | with_reducible refine Ext.drew ?_)) hy; have HMD := hid hmade))
  all_goals
    go_wp2_with fail
    refine leaves_cons (f := 94) (args := #[]) (by simp) (by simp [go_sem]) ?_
    refine (caught_idle _).mono ?_
    rintro e u' w'' ⟨rfl, rfl, rfl⟩
    simp [Leaves, settle, results, Tryz.results68, go_sem]
    exact ⟨HMD.out, XM.out.trans Z2⟩
/-- What the kit base's maker gives: a handle, or none. -/
def B1Q (B j : Nat) (k : ByteArray) (n : Int) (x : ByteArray) (nk : Nat) (t : Nat → TypeId) (v : Nat → Value) (h : Option Addr) (w' : World) : Prop := ∃ q b a c, h = some ⟨q, 0, none⟩ ∧ HandAt w' q (.iface (tyK j) (.pointer (some ⟨b, 0, none⟩))) (.iface (tyK j) (.pointer (some ⟨b, 0, none⟩))) ∧ NodeK j k n x (.slice a nk c) B (.iface (tyK j) (.pointer (some ⟨b, 0, none⟩))) w' ∧ w'.ownsRow B 50 1 (.slice a nk c) nk ((List.range nk).map fun i => .iface (t i) (v i)) ∧ B ≤ q
end Go.Proofs.YtaafcmmmkalgjaaGreatDoor.Nd
/-
  (*Kit).Make of any kit: why there is no node; the node that was made; by contracts.
-/
namespace Go.Proofs.YtaafcmmmkalgjaaGreatDoor.Nd
open Go.RowKit
theorem node_eq (t : TypeId) (v : Value) (w : World) : (binOp .eql 50 (.iface t v) .nilIface).run Tryz.prog w = .ok (.bool false) w := by kernel_rfl
set_option maxRecDepth 100000 in
set_option maxHeartbeats 4000000 in
theorem kmake_kind {base kb mb : Nat} {nme : ByteArray} {lv : Value} {acc : List Rw} (mf : Nat) (mc : Array Value) (k x : ByteArray) (n : Int) (ao ka : Option Addr) (kl kc nk c : Nat) (w : World) (hkm : KitM w base kb mb nme (.func (.func mf) #[] mc) lv acc) (hks : k.size ≤ 140737488351232) (hix : kIx acc k = none) :
    Calls Tryz.prog 32 #[.pointer (some ⟨kb, 0, none⟩), .agg #[.string k, .int .i64 n, .string x, .slice ka kl kc], .slice ao nk c] w (MakeNo w 3) := by
  have HLOOK := hid (show ∀ w1, Ext w w1 → (Instr.lookup 130 (.map (some mb)) (.string k) true).run Tryz.prog w1 = .ok (.tuple #[.int .i64 0, .bool false]) w1 from fun w1 hx => by
    have := (hkm.map.later hx).look k hks
    rw [hix] at this
    exact this)
  obtain ⟨k0, k1', k2, k3⟩ := hkm.four
  have hMKNE : ∀ (w : World), (binOp .eql 131 (.func (.func mf) #[] mc) .nilFunc).run Tryz.prog w = .ok (.bool false) w := fun _ => by kernel_rfl
  obtain ⟨M, hM⟩ : ∃ M, w.alloc (.cells #[.string k, .int .i64 n, .string x, .slice ka kl kc] 54) = M := ⟨_, rfl⟩
  have XM := hid (show Ext w M from hM ▸ Ext.alloc _ _)
  have HM0 := hid (show M.heap[w.heap.size]? = some (.cells #[.string k, .int .i64 n, .string x, .slice ka kl kc] 54) from hM ▸ blk0 _ _)
  have hkbl := lt_of_cell k0
  have HS3 := hid (show ∀ W', Ext M W' → (W'.cell? ⟨kb, 2, none⟩ = some (.map (some mb)) ∧ W'.cell? ⟨w.heap.size, 0, none⟩ = some (.string k) ∧ (Instr.lookup 130 (.map (some mb)) (.string k) true).run Tryz.prog W' = .ok (.tuple #[.int .i64 0, .bool false]) W') from fun W' X => by
    obtain ⟨s0, s1, s2, s3⟩ := four_of (X.block HM0.out)
    exact ⟨((XM.out.trans X).kp (fun _ => True)).cell k2 trivial, s0, HLOOK.out _ (XM.out.trans X)⟩)
  have k3M : M.cell? ⟨kb, 3, none⟩ = some (.func (.func mf) #[] mc) := (XM.out.kp (fun _ => True)).cell k3 trivial
  clear hkm hks hix k0 k1' k2 k3
  go_enter Tryz.func32, Tryz.ntmps32
  go_upto_region 3 with fail
  first | rw [hM] | skip
  clear hM k3M
  go_cut [8, 9] from 25 to 34 (fun s8 s9 wx => s8 = .int .i64 0 ∧ s9 = .bool false ∧ Ext M wx)
  case first =>
    go_region_held3 (fun W' => W'.cell? ⟨kb, 2, none⟩ = some (.map (some mb)) ∧ W'.cell? ⟨w.heap.size, 0, none⟩ = some (.string k) ∧ (Instr.lookup 130 (.map (some mb)) (.string k) true).run Tryz.prog W' = .ok (.tuple #[.int .i64 0, .bool false]) W') (first | with_reducible exact HS3.out _ (Ext.refl _) | with_reducible exact HS3.out _ (Ext.refl _).drew | with_reducible exact HS3.out _ Z1 | go_keep) (first | fail)
    all_goals
      go_wp2_with fail
      go_meet
      case rel => exact ⟨rfl, rfl, (by repeat (first | with_reducible exact Ext.refl _ | with_reducible refine Ext.drew ?_))⟩
  case rest =>
    obtain ⟨rfl, rfl, hx1⟩ := hcut
    have X1 := hid hx1
    clear hx1
    go_wp2_with fail
    refine (fnew_j 3 (by decide) _).mono ?_
    rintro e w4 ⟨rfl, hw4⟩
    have HC4 := hid (show w4.cell? ⟨_, 0, none⟩ = some (.int .i64 3) from hw4 ▸ cell_of (blk0 _ _) rfl)
    have X4 := hid (show Ext w w4 from hw4 ▸ (XM.out.trans X1.out).trans (Ext.alloc _ _))
    clear hw4
    go_wp2_with fail
    go_ret2
    exact ⟨_, rfl, by simpa using HC4.out, X4.out⟩
set_option maxRecDepth 100000 in
set_option maxHeartbeats 4000000 in
theorem kmake_kids {base kb mb : Nat} {nme : ByteArray} {lv : Value} {acc : List Rw} (mf : Nat) (mc : Array Value) (k x : ByteArray) (n : Int) (ao ka : Option Addr) (kl kc nk c ix : Nat) (w : World) (hkm : KitM w base kb mb nme (.func (.func mf) #[] mc) lv acc) (hks : k.size ≤ 140737488351232) (hix : kIx acc k = some ix) (hno : ∀ w1, Ext w w1 → Calls Tryz.prog 59 #[.slice ao nk c] w1 fun e w' => e = .returned (.tuple #[.slice none 0 0, .bool false]) ∧ Ext w1 w') :
    Calls Tryz.prog 32 #[.pointer (some ⟨kb, 0, none⟩), .agg #[.string k, .int .i64 n, .string x, .slice ka kl kc], .slice ao nk c] w (MakeNo w 1) := by
  have HLOOK := hid (show ∀ w1, Ext w w1 → (Instr.lookup 130 (.map (some mb)) (.string k) true).run Tryz.prog w1 = .ok (.tuple #[.int .i64 (ix : Int), .bool true]) w1 from fun w1 hx => by
    have := (hkm.map.later hx).look k hks
    rw [hix] at this
    exact this)
  obtain ⟨k0, k1', k2, k3⟩ := hkm.four
  have hMKNE : ∀ (w : World), (binOp .eql 131 (.func (.func mf) #[] mc) .nilFunc).run Tryz.prog w = .ok (.bool false) w := fun _ => by kernel_rfl
  obtain ⟨M, hM⟩ : ∃ M, w.alloc (.cells #[.string k, .int .i64 n, .string x, .slice ka kl kc] 54) = M := ⟨_, rfl⟩
  have XM := hid (show Ext w M from hM ▸ Ext.alloc _ _)
  have HM0 := hid (show M.heap[w.heap.size]? = some (.cells #[.string k, .int .i64 n, .string x, .slice ka kl kc] 54) from hM ▸ blk0 _ _)
  have hkbl := lt_of_cell k0
  have HS3 := hid (show ∀ W', Ext M W' → (W'.cell? ⟨kb, 2, none⟩ = some (.map (some mb)) ∧ W'.cell? ⟨w.heap.size, 0, none⟩ = some (.string k) ∧ (Instr.lookup 130 (.map (some mb)) (.string k) true).run Tryz.prog W' = .ok (.tuple #[.int .i64 (ix : Int), .bool true]) W') from fun W' X => by
    obtain ⟨s0, s1, s2, s3⟩ := four_of (X.block HM0.out)
    exact ⟨((XM.out.trans X).kp (fun _ => True)).cell k2 trivial, s0, HLOOK.out _ (XM.out.trans X)⟩)
  have k3M : M.cell? ⟨kb, 3, none⟩ = some (.func (.func mf) #[] mc) := (XM.out.kp (fun _ => True)).cell k3 trivial
  have HNO := hid hno
  clear hkm hks hix k0 k1' k2 k3 hno
  go_enter Tryz.func32, Tryz.ntmps32
  go_upto_region 3 with fail
  first | rw [hM] | skip
  clear hM k3M
  go_cut [8, 9] from 25 to 34 (fun s8 s9 wx => s8 = .int .i64 (ix : Int) ∧ s9 = .bool true ∧ Ext M wx)
  case first =>
    go_region_held3 (fun W' => W'.cell? ⟨kb, 2, none⟩ = some (.map (some mb)) ∧ W'.cell? ⟨w.heap.size, 0, none⟩ = some (.string k) ∧ (Instr.lookup 130 (.map (some mb)) (.string k) true).run Tryz.prog W' = .ok (.tuple #[.int .i64 (ix : Int), .bool true]) W') (first | with_reducible exact HS3.out _ (Ext.refl _) | with_reducible exact HS3.out _ (Ext.refl _).drew | with_reducible exact HS3.out _ Z1 | go_keep) (first | fail)
    all_goals
      go_wp2_with fail
      go_meet
      case rel => exact ⟨rfl, rfl, (by repeat (first | with_reducible exact Ext.refl _ | with_reducible refine Ext.drew ?_))⟩
  case rest =>
    obtain ⟨rfl, rfl, hx1⟩ := hcut
    have X1 := hid hx1
    clear hx1
    go_wp2_with fail
    refine (HNO.out _ (XM.out.trans X1.out)).mono ?_
    rintro e w2 ⟨rfl, hx2⟩
    have X2 := hid (X1.out.trans hx2)
    clear hx2
    go_wp2_with fail
    refine (fnew_j 1 (by decide) _).mono ?_
    rintro e w4 ⟨rfl, hw4⟩
    have HC4 := hid (show w4.cell? ⟨_, 0, none⟩ = some (.int .i64 1) from hw4 ▸ cell_of (blk0 _ _) rfl)
    have X4 := hid (show Ext w w4 from hw4 ▸ (XM.out.trans X2.out).trans (Ext.alloc _ _))
    clear hw4
    go_wp2_with fail
    go_ret2
    exact ⟨_, rfl, by simpa using HC4.out, X4.out⟩
set_option maxRecDepth 100000 in
set_option maxHeartbeats 8000000 in
theorem kmake_bad {base kb mb : Nat} {nme : ByteArray} {lv : Value} {acc : List Rw} (mf : Nat) (mc : Array Value) (k x : ByteArray) (n : Int) (ao ka : Option Addr) (kl kc nk c : Nat) (bs : Nat → Nat) (w : World) (hkm : KitM w base kb mb nme (.func (.func mf) #[] mc) lv acc) (hks : k.size ≤ 140737488351232) (hxs : x.size ≤ 140737488351232) (ix : Nat) (hix : kIx acc k = some ix) (hil : ix < acc.length) (hn : nk ≤ 100000) (hh : HandsO w ao nk (fun _ => 226) (fun i => .pointer (some ⟨bs i, 0, none⟩))) (ev : Int) (hev : (ev == 0) = false) (hfq : fitsR acc[ix] k n x nk = ev) :
    Calls Tryz.prog 32 #[.pointer (some ⟨kb, 0, none⟩), .agg #[.string k, .int .i64 n, .string x, .slice ka kl kc], .slice ao nk c] w (MakeNo w ev) := by
  obtain ⟨rg, rcap, ra, rc, hlv, ⟨p0, p1, p2, p3, p4, p5⟩, htb⟩ := hkm.rows.read ix hil
  subst hlv
  have hnk : (nk : Int) ≤ 100000 := by omega
  have hil' : (ix : Int) < acc.length := by omega
  have HLOOK := hid (show ∀ w1, Ext w w1 → (Instr.lookup 130 (.map (some mb)) (.string k) true).run Tryz.prog w1 = .ok (.tuple #[.int .i64 (ix : Int), .bool true]) w1 from fun w1 hx => by
    have := (hkm.map.later hx).look k hks
    rw [hix] at this
    exact this)
  obtain ⟨k0, k1', k2, k3⟩ := hkm.four
  have hMKNE : ∀ (w : World), (binOp .eql 131 (.func (.func mf) #[] mc) .nilFunc).run Tryz.prog w = .ok (.bool false) w := fun _ => by kernel_rfl
  obtain ⟨M, hM⟩ : ∃ M, w.alloc (.cells #[.string k, .int .i64 n, .string x, .slice ka kl kc] 54) = M := ⟨_, rfl⟩
  have XM := hid (show Ext w M from hM ▸ Ext.alloc _ _)
  have HM0 := hid (show M.heap[w.heap.size]? = some (.cells #[.string k, .int .i64 n, .string x, .slice ka kl kc] 54) from hM ▸ blk0 _ _)
  have hkbl := lt_of_cell k0
  have HNO := hid (fun w1 (hx : Ext w w1) => knodesOf_any ao nk c (fun _ => 226) (fun i => .pointer (some ⟨bs i, 0, none⟩)) w1 hn (hh.later hx))
  have HFIT := hid (fun w1 => rfits_any acc[ix] ra rc k x n ka kl kc nk w1 (by omega) (by omega))
  rw [hfq] at HFIT
  have hev2 : (ev != 0) = true := by unfold bne; rw [hev]; rfl
  have HEV := hid hev
  have HS3 := hid (show ∀ W', Ext M W' → (W'.cell? ⟨kb, 2, none⟩ = some (.map (some mb)) ∧ W'.cell? ⟨w.heap.size, 0, none⟩ = some (.string k) ∧ (Instr.lookup 130 (.map (some mb)) (.string k) true).run Tryz.prog W' = .ok (.tuple #[.int .i64 (ix : Int), .bool true]) W') from fun W' X => by
    obtain ⟨s0, s1, s2, s3⟩ := four_of (X.block HM0.out)
    exact ⟨((XM.out.trans X).kp (fun _ => True)).cell k2 trivial, s0, HLOOK.out _ (XM.out.trans X)⟩)
  have k3M : M.cell? ⟨kb, 3, none⟩ = some (.func (.func mf) #[] mc) := (XM.out.kp (fun _ => True)).cell k3 trivial
  clear hkm hn hh hix hfq htb hev hks hxs
  unfold Rw.val at HFIT
  generalize acc[ix].kind = rk at *
  generalize acc[ix].min = rmin at *
  generalize acc[ix].max = rmax at *
  generalize acc[ix].num = rnum at *
  generalize acc[ix].text = rtx at *
  generalize acc[ix].abs.length = rl at *
  generalize acc.length = rn at *
  have HS9 := hid (show ∀ W', Ext M W' → (W'.cell? ⟨kb, 1, none⟩ = some (.slice (some ⟨rg, 0, none⟩) rn rcap) ∧ W'.cell? ⟨rg, ix * 6, none⟩ = some (.string rk) ∧ W'.cell? ⟨rg, ix * 6 + 1, none⟩ = some (.int .i64 rmin) ∧ W'.cell? ⟨rg, ix * 6 + 2, none⟩ = some (.int .i64 rmax) ∧ W'.cell? ⟨rg, ix * 6 + 3, none⟩ = some (.bool rnum) ∧ W'.cell? ⟨rg, ix * 6 + 4, none⟩ = some (.int .i64 rtx) ∧ W'.cell? ⟨rg, ix * 6 + 5, none⟩ = some (.slice ra rl rc) ∧ W'.cell? ⟨w.heap.size, 0, none⟩ = some (.string k) ∧ W'.cell? ⟨w.heap.size, 1, none⟩ = some (.int .i64 n) ∧ W'.cell? ⟨w.heap.size, 2, none⟩ = some (.string x) ∧ W'.cell? ⟨w.heap.size, 3, none⟩ = some (.slice ka kl kc)) from fun W' X => by
    obtain ⟨s0, s1, s2, s3⟩ := four_of (X.block HM0.out)
    have Y : ∀ {q : Addr} {v : Value}, w.cell? q = some v → W'.cell? q = some v := fun e => ((XM.out.trans X).kp (fun _ => True)).cell e trivial
    exact ⟨Y k1', Y p0, Y p1, Y p2, Y p3, Y p4, Y p5, s0, s1, s2, s3⟩)
  clear k0 k1' k2 k3 p0 p1 p2 p3 p4 p5
  go_enter Tryz.func32, Tryz.ntmps32
  go_upto_region 3 with fail
  first | rw [hM] | skip
  clear hM k3M
  go_cut [8, 9] from 25 to 34 (fun s8 s9 wx => s8 = .int .i64 (ix : Int) ∧ s9 = .bool true ∧ Ext M wx)
  case first =>
    go_region_held3 (fun W' => W'.cell? ⟨kb, 2, none⟩ = some (.map (some mb)) ∧ W'.cell? ⟨w.heap.size, 0, none⟩ = some (.string k) ∧ (Instr.lookup 130 (.map (some mb)) (.string k) true).run Tryz.prog W' = .ok (.tuple #[.int .i64 (ix : Int), .bool true]) W') (first | with_reducible exact HS3.out _ (Ext.refl _) | with_reducible exact HS3.out _ (Ext.refl _).drew | with_reducible exact HS3.out _ Z1 | go_keep) (first | fail)
    all_goals
      go_wp2_with fail
      go_meet
      case rel => exact ⟨rfl, rfl, (by repeat (first | with_reducible exact Ext.refl _ | with_reducible refine Ext.drew ?_))⟩
  case rest =>
    obtain ⟨rfl, rfl, hx1⟩ := hcut
    have X1 := hid hx1
    clear hx1
    go_wp2_with fail
    refine (HNO.out _ (XM.out.trans X1.out)).mono ?_
    rintro e w2 ⟨q, rfl, hq, hx2⟩
    obtain ⟨qa, cq, rfl⟩ := ownsRow_slice hq
    have HQ := hid hq
    have X2 := hid (X1.out.trans hx2)
    clear hq hx2
    go_upto_region 9 with fail
    have HS9b := hid (show ∀ W', Ext w2 W' → (W'.cell? ⟨kb, 1, none⟩ = some (.slice (some ⟨rg, 0, none⟩) rn rcap) ∧ W'.cell? ⟨rg, ix * 6, none⟩ = some (.string rk) ∧ W'.cell? ⟨rg, ix * 6 + 1, none⟩ = some (.int .i64 rmin) ∧ W'.cell? ⟨rg, ix * 6 + 2, none⟩ = some (.int .i64 rmax) ∧ W'.cell? ⟨rg, ix * 6 + 3, none⟩ = some (.bool rnum) ∧ W'.cell? ⟨rg, ix * 6 + 4, none⟩ = some (.int .i64 rtx) ∧ W'.cell? ⟨rg, ix * 6 + 5, none⟩ = some (.slice ra rl rc) ∧ W'.cell? ⟨w.heap.size, 0, none⟩ = some (.string k) ∧ W'.cell? ⟨w.heap.size, 1, none⟩ = some (.int .i64 n) ∧ W'.cell? ⟨w.heap.size, 2, none⟩ = some (.string x) ∧ W'.cell? ⟨w.heap.size, 3, none⟩ = some (.slice ka kl kc)) from fun W' X => HS9.out W' (X2.out.trans X))
    go_cut [11] from 46 to 56 (fun s11 wx => s11 = .int .i64 ev ∧ Ext w2 wx)
    case first =>
      go_region_held3 (fun W' => W'.cell? ⟨kb, 1, none⟩ = some (.slice (some ⟨rg, 0, none⟩) rn rcap) ∧ W'.cell? ⟨rg, ix * 6, none⟩ = some (.string rk) ∧ W'.cell? ⟨rg, ix * 6 + 1, none⟩ = some (.int .i64 rmin) ∧ W'.cell? ⟨rg, ix * 6 + 2, none⟩ = some (.int .i64 rmax) ∧ W'.cell? ⟨rg, ix * 6 + 3, none⟩ = some (.bool rnum) ∧ W'.cell? ⟨rg, ix * 6 + 4, none⟩ = some (.int .i64 rtx) ∧ W'.cell? ⟨rg, ix * 6 + 5, none⟩ = some (.slice ra rl rc) ∧ W'.cell? ⟨w.heap.size, 0, none⟩ = some (.string k) ∧ W'.cell? ⟨w.heap.size, 1, none⟩ = some (.int .i64 n) ∧ W'.cell? ⟨w.heap.size, 2, none⟩ = some (.string x) ∧ W'.cell? ⟨w.heap.size, 3, none⟩ = some (.slice ka kl kc)) (first | with_reducible exact HS9b.out _ (Ext.refl _) | with_reducible exact HS9b.out _ (Ext.refl _).drew | with_reducible exact HS9b.out _ Z1 | go_keep)
        (first
          | (go_at_call 67; refine (HFIT.out _).mono ?_; rintro r u1 ⟨rfl, hy⟩; have Z1 : Ext w2 u1 := Ext.trans (by repeat (first | with_reducible exact Ext.refl _ | with_reducible refine Ext.drew ?_)) hy))
      all_goals
        go_wp2_with fail
        go_meet
        case rel => exact ⟨rfl, Z1⟩
    case rest =>
      obtain ⟨rfl, hx3⟩ := hcut
      have X3 := hid (X2.out.trans hx3)
      have X23 := hid hx3
      clear hx3 HS9b
      go_wp2_with fail
      refine (fnew_j ev HEV.out _).mono ?_
      rintro e w4 ⟨rfl, hw4⟩
      have HC4 := hid (show w4.cell? ⟨_, 0, none⟩ = some (.int .i64 ev) from hw4 ▸ cell_of (blk0 _ _) rfl)
      have X4 := hid (show Ext w w4 from hw4 ▸ (XM.out.trans X3.out).trans (Ext.alloc _ _))
      clear hw4
      go_wp2_with fail
      go_ret2
      exact ⟨_, rfl, by simpa using HC4.out, X4.out⟩

end Go.Proofs.YtaafcmmmkalgjaaGreatDoor.Nd
