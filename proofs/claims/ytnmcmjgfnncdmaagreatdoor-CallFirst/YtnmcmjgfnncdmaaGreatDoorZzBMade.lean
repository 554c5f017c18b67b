/-
  (*Kit).made of a kit by a table: the maker is called with a list of its own, and its handle is told; by contracts.
-/
import Derived.Test.YtnmcmjgfnncdmaaGreatDoorZzBKit1
import Derived.Test.YtnmcmjgfnncdmaaGreatDoorZzKKitT
namespace Go.Proofs.YtnmcmjgfnncdmaaGreatDoor.Nd
open Go.RowKit
/-- A list of handles as it is handed in: none, or in memory. -/
def HandsP (w : World) (ao : Option Addr) (n c : Nat) (t : Nat → TypeId) (v : Nat → Value) : Prop := (ao = none ∧ n = 0 ∧ c = 0) ∨ ∃ a off, ao = some ⟨a, off, none⟩ ∧ Hands w a off n t v
theorem HandsP.later {w w' : World} {ao : Option Addr} {n c : Nat} {t : Nat → TypeId} {v : Nat → Value} (h : HandsP w ao n c t v) (hx : Ext w w') : HandsP w' ao n c t v := h.imp id fun ⟨a, off, e, hh⟩ => ⟨a, off, e, hh.later hx⟩
theorem HandsP.o {w : World} {ao : Option Addr} {n c : Nat} {t : Nat → TypeId} {v : Nat → Value} (h : HandsP w ao n c t v) : HandsO w ao n t v := h.imp (fun h => h.2.1) id
theorem cloneHands (ao : Option Addr) (n c : Nat) (t : Nat → TypeId) (v : Nat → Value) (w : World) (hn : n ≤ 100000) (h : HandsP w ao n c t v) : Calls Tryz.prog 133 #[.slice ao n c] w fun e w' => ∃ a' c', e = .returned (.slice a' n c') ∧ HandsO w' a' n t v ∧ Ext w w' := by
  rcases h with ⟨rfl, rfl, rfl⟩ | ⟨a, off, rfl, hh⟩
  · refine (cloneH_nil w).mono ?_
    rintro e w' ⟨rfl, rfl⟩
    exact ⟨none, 0, rfl, .inl rfl, Ext.refl _⟩
  · have hx : ∀ j, j < n → ∃ q, w.cell? ⟨a, off + j, none⟩ = some (.pointer (some ⟨q, 0, none⟩)) ∧ w.cell? ⟨q, 0, none⟩ = some (.iface (t j) (v j)) := fun j hj => by
      obtain ⟨q, h1, h2, _, _⟩ := hh j hj
      exact ⟨q, h1, h2⟩
    have hg : ∀ (j : Nat) (u : Value), ((List.range n).map fun i => (w.cell? ⟨a, off + i, none⟩).getD .nilIface)[j]? = some u → j < n ∧ w.cell? ⟨a, off + j, none⟩ = some u := fun j u hu => by
      rw [List.getElem?_map] at hu
      obtain ⟨i, hi, rfl⟩ := Option.map_eq_some_iff.1 hu
      have hji := List.getElem?_eq_some_iff.1 hi
      obtain ⟨hl, e⟩ := hji
      rw [List.length_range] at hl
      rw [List.getElem_range] at e
      subst e
      obtain ⟨q, h1, _⟩ := hx j hl
      exact ⟨hl, by rw [h1]; rfl⟩
    have hc := cloneH_some a off c ((List.range n).map fun i => (w.cell? ⟨a, off + i, none⟩).getD .nilIface) w (by simp; omega) (fun u hu => by
      obtain ⟨i, hi, rfl⟩ := List.mem_map.1 hu
      obtain ⟨q, h1, _⟩ := hx i (List.mem_range.1 hi)
      rw [h1]; rfl) (fun j u hu => (hg j u hu).2)
    rw [List.length_map, List.length_range] at hc
    refine hc.mono ?_
    rintro e w' ⟨q, rfl, ho, hxx⟩
    obtain ⟨a', c', rfl⟩ := ownsRow_slice ho
    refine ⟨a', c', rfl, ?_, hxx⟩
    rcases Nat.eq_zero_or_pos n with h0 | h0
    · exact .inl h0
    rcases ho.2 with ⟨_, h1⟩ | ⟨gg, cap, cur, hv, hbg, hbk, h3, h4, h5, h6⟩
    · omega
    injection hv with e1 _ _
    subst e1
    refine .inr ⟨gg, 0, rfl, fun j hj => ?_⟩
    obtain ⟨q, p0, p1⟩ := hx j hj
    have hcur : cur[j]? = some (.pointer (some ⟨q, 0, none⟩)) := by
      have e : ((List.range n).map fun i => (w.cell? ⟨a, off + i, none⟩).getD .nilIface)[j]? = some (.pointer (some ⟨q, 0, none⟩)) := by
        rw [List.getElem?_map, List.getElem?_range hj]
        simp [p0]
      rw [← h6, List.getElem?_take_of_lt (by omega)] at e
      simpa using e
    have p1' := (hxx.kp (fun _ => True)).cell p1 trivial
    exact ⟨q, by rw [Nat.zero_add]; exact cell_of hbk hcur, p1', lt_of_block hbk, lt_of_cell p1'⟩
theorem MadeN.base {w w1 w' : World} {τ : TypeId} {k x : ByteArray} {n : Int} {nk h : Nat} {t : Nat → TypeId} {v : Nat → Value} (hm : MadeN w1 τ k n x nk t v h w') (hs : w.heap.size ≤ w1.heap.size) : MadeN w τ k n x nk t v h w' := by
  obtain ⟨b, a, c, h1, h2, h3, h4, h5⟩ := hm
  exact ⟨b, a, c, h1, h2, row_base h3 hs, Nat.le_trans hs h4, Nat.le_trans hs h5⟩
set_option maxRecDepth 100000 in
theorem caught_idle (w : World) : CallsD Tryz.prog 132 #[] .returning w fun e u' w' => e = .returned (.tuple #[]) ∧ u' = .returning ∧ w' = w := by
  refine callsD_of_wpS Tryz.func132 rfl fun c₀ cs hu => ?_
  apply wpS_region
  simp [wpOpsS, go_sem, recoverD, hu, Tryz.ntmps132, bodyPostS, results, Tryz.results132]
  cases c₀
  simp_all
theorem enterK1 (a : Array Value) (w : World) : (callFunc 124 a).run Tryz.prog w = .ok (.enter 124 a) w := by simp [callFunc, go_sem, Tryz.func124]; rfl
set_option maxRecDepth 100000 in
set_option maxHeartbeats 4000000 in
theorem made_By {base kb mb : Nat} {nme : ByteArray} {lv kv : Value} {acc : List Rw} (ks : List Kd) (g cp bx : Nat) (k x : ByteArray) (n : Int) (ao : Option Addr) (nk c : Nat) (t : Nat → TypeId) (v : Nat → Value) (kd : Kd) (w : World) (hkm : KitM w base kb mb nme (.func (.func 124) #[] #[.pointer (some ⟨bx, 0, none⟩)]) lv acc) (hl : ks.length ≤ 1000) (hb : w.heap[bx]? = some (.cells #[.slice (some ⟨g, 0, none⟩) ks.length cp] 104)) (hk : KRow w g ks) (hf : Go.Proofs.YtnmcmjgfnncdmaaGreatDoor.kdFind ks k = some kd) (hm : kd.make = 128) (hd : kd.does = none) (hn : nk ≤ 100000) (hh : HandsP w ao nk c t v) (hkv : ∃ a l c, kv = .slice a l c) :
    Calls Tryz.prog 67 #[.pointer (some ⟨kb, 0, none⟩), .agg #[.string k, .int .i64 n, .string x, kv], .slice ao nk c] w (Kit1R w 289 k n x nk t v) := by
  obtain ⟨ka, kl, kc, rfl⟩ := hkv
  have HCL := hid (fun w1 (hx : Ext w w1) => cloneHands ao nk c t v w1 hn (hh.later hx))
  have HK1 := hid (show ∀ w1, Ext w w1 → ∀ a' c', HandsO w1 a' nk t v → Calls Tryz.prog 124 #[.agg #[.string k, .int .i64 n, .string x, .slice none 0 0], .slice a' nk c', .pointer (some ⟨bx, 0, none⟩)] w1 fun e w' => ∃ h, e = .returned (.pointer (some ⟨h, 0, none⟩)) ∧ MadeN w1 289 k n x nk t v h w' ∧ Ext w1 w' from fun w1 hx a' c' hh' => kit1_By ks g cp bx k x n a' nk c' t v kd w1 hl (hx.block hb) (hk.later hx) hf hm hd hn hh')
  obtain ⟨k0, k1, k2, k3⟩ := hkm.four
  have HK3 := hid k3
  clear hkm hl hb hk hf hm hd hn hh k0 k1 k2 k3
  have hmf : ∀ (fn : Fn) (first cap : Array Value) (w : World), (Instr.makeFunc fn first cap).run Tryz.prog w = .ok (.func fn first cap) w := fun _ _ _ _ => rfl
  have henter := enterK1
  obtain ⟨M, hM⟩ : ∃ M, w.alloc (.cells #[.string k, .int .i64 n, .string x, .slice ka kl kc] 69) = M := ⟨_, rfl⟩
  have XM := hid (show Ext w M from hM ▸ Ext.alloc _ _)
  have HM0 := hid (show M.heap[w.heap.size]? = some (.cells #[.string k, .int .i64 n, .string x, .slice ka kl kc] 69) from hM ▸ blk0 _ _)
  go_enter_defers Tryz.func67, Tryz.ntmps67
  go_wp2_with fail
  clear hM
  have HSK := hid (show ∀ W', Ext M W' → (W'.cell? ⟨kb, 3, none⟩ = some (.func (.func 124) #[] #[.pointer (some ⟨bx, 0, none⟩)]) ∧ W'.cell? ⟨w.heap.size, 0, none⟩ = some (.string k) ∧ W'.cell? ⟨w.heap.size, 1, none⟩ = some (.int .i64 n) ∧ W'.cell? ⟨w.heap.size, 2, none⟩ = some (.string x)) from fun W' X => by
    obtain ⟨s0, s1, s2, s3⟩ := four_of (X.block HM0.out)
    exact ⟨((XM.out.trans X).kp (fun _ => True)).cell HK3.out trivial, s0, s1, s2⟩)
  go_region_held3 (fun W' => W'.cell? ⟨kb, 3, none⟩ = some (.func (.func 124) #[] #[.pointer (some ⟨bx, 0, none⟩)]) ∧ W'.cell? ⟨w.heap.size, 0, none⟩ = some (.string k) ∧ W'.cell? ⟨w.heap.size, 1, none⟩ = some (.int .i64 n) ∧ W'.cell? ⟨w.heap.size, 2, none⟩ = some (.string x))
    (first | with_reducible exact HSK.out _ (Ext.refl _) | with_reducible exact HSK.out _ (Ext.refl _).drew | with_reducible exact HSK.out _ Z2 | with_reducible exact HSK.out _ Z1 | go_keep)
    (first
      | (go_at_call 133; with_reducible refine (HCL.out _ (XM.out.trans (by repeat (first | with_reducible exact Ext.refl _ | with_reducible refine Ext.drew ?_)))).mono ?_; rintro r u1 ⟨a1, c1, rfl, hh1, hy⟩; have Z1 : Ext M u1 := Ext.trans (by repeat (first | with_reducible exact Ext.refl _ | with_reducible refine Ext.drew ?_)) hy; have HH1 := hid hh1)
      | (go_at_call 124; with_reducible refine (HK1.out _ (XM.out.trans (by repeat (first | with_reducible exact Z1 | with_reducible refine Ext.drew ?_))) _ _ (HH1.out.later (by repeat (first | with_reducible exact Ext.refl _ | with_reducible refine Ext.drew ?_)))).mono ?_; rintro r u2 ⟨h2, rfl, hmade, hy⟩; have Z2 : Ext M u2 := Ext.trans (by repeat (first | with_reducible exact Z1 | with_reducible refine Ext.drew ?_)) hy; have HMD := hid hmade))
  all_goals
    go_wp2_with fail
    refine leaves_cons (f := 132) (args := #[]) (by simp) (by simp [go_sem]) ?_
    refine (caught_idle _).mono ?_
    rintro e u' w'' ⟨rfl, rfl, rfl⟩
    simp [Leaves, settle, results, Tryz.results67, go_sem]
    exact ⟨h2, rfl, HMD.out.base (XM.out.trans Z1).size, XM.out.trans Z2⟩
set_option maxRecDepth 100000 in
set_option maxHeartbeats 4000000 in
theorem made_To {base kb mb : Nat} {nme : ByteArray} {lv kv : Value} {acc : List Rw} (ks : List Kd) (g cp bx : Nat) (k x : ByteArray) (n : Int) (ao : Option Addr) (nk c : Nat) (t : Nat → TypeId) (v : Nat → Value) (kd : Kd) (w : World) (hkm : KitM w base kb mb nme (.func (.func 124) #[] #[.pointer (some ⟨bx, 0, none⟩)]) lv acc) (hl : ks.length ≤ 1000) (hb : w.heap[bx]? = some (.cells #[.slice (some ⟨g, 0, none⟩) ks.length cp] 104)) (hk : KRow w g ks) (hf : Go.Proofs.YtnmcmjgfnncdmaaGreatDoor.kdFind ks k = some kd) (hm : kd.make = 127) (hd : kd.does = none) (hn : nk ≤ 100000) (hh : HandsP w ao nk c t v) (hkv : ∃ a l c, kv = .slice a l c) :
    Calls Tryz.prog 67 #[.pointer (some ⟨kb, 0, none⟩), .agg #[.string k, .int .i64 n, .string x, kv], .slice ao nk c] w (Kit1R w 286 k n x nk t v) := by
  obtain ⟨ka, kl, kc, rfl⟩ := hkv
  have HCL := hid (fun w1 (hx : Ext w w1) => cloneHands ao nk c t v w1 hn (hh.later hx))
  have HK1 := hid (show ∀ w1, Ext w w1 → ∀ a' c', HandsO w1 a' nk t v → Calls Tryz.prog 124 #[.agg #[.string k, .int .i64 n, .string x, .slice none 0 0], .slice a' nk c', .pointer (some ⟨bx, 0, none⟩)] w1 fun e w' => ∃ h, e = .returned (.pointer (some ⟨h, 0, none⟩)) ∧ MadeN w1 286 k n x nk t v h w' ∧ Ext w1 w' from fun w1 hx a' c' hh' => kit1_To ks g cp bx k x n a' nk c' t v kd w1 hl (hx.block hb) (hk.later hx) hf hm hd hn hh')
  obtain ⟨k0, k1, k2, k3⟩ := hkm.four
  have HK3 := hid k3
  clear hkm hl hb hk hf hm hd hn hh k0 k1 k2 k3
  have hmf : ∀ (fn : Fn) (first cap : Array Value) (w : World), (Instr.makeFunc fn first cap).run Tryz.prog w = .ok (.func fn first cap) w := fun _ _ _ _ => rfl
  have henter := enterK1
  obtain ⟨M, hM⟩ : ∃ M, w.alloc (.cells #[.string k, .int .i64 n, .string x, .slice ka kl kc] 69) = M := ⟨_, rfl⟩
  have XM := hid (show Ext w M from hM ▸ Ext.alloc _ _)
  have HM0 := hid (show M.heap[w.heap.size]? = some (.cells #[.string k, .int .i64 n, .string x, .slice ka kl kc] 69) from hM ▸ blk0 _ _)
  go_enter_defers Tryz.func67, Tryz.ntmps67
  go_wp2_with fail
  clear hM
  have HSK := hid (show ∀ W', Ext M W' → (W'.cell? ⟨kb, 3, none⟩ = some (.func (.func 124) #[] #[.pointer (some ⟨bx, 0, none⟩)]) ∧ W'.cell? ⟨w.heap.size, 0, none⟩ = some (.string k) ∧ W'.cell? ⟨w.heap.size, 1, none⟩ = some (.int .i64 n) ∧ W'.cell? ⟨w.heap.size, 2, none⟩ = some (.string x)) from fun W' X => by
    obtain ⟨s0, s1, s2, s3⟩ := four_of (X.block HM0.out)
    exact ⟨((XM.out.trans X).kp (fun _ => True)).cell HK3.out trivial, s0, s1, s2⟩)
  go_region_held3 (fun W' => W'.cell? ⟨kb, 3, none⟩ = some (.func (.func 124) #[] #[.pointer (some ⟨bx, 0, none⟩)]) ∧ W'.cell? ⟨w.heap.size, 0, none⟩ = some (.string k) ∧ W'.cell? ⟨w.heap.size, 1, none⟩ = some (.int .i64 n) ∧ W'.cell? ⟨w.heap.size, 2, none⟩ = some (.string x))
    (first | with_reducible exact HSK.out _ (Ext.refl _) | with_reducible exact HSK.out _ (Ext.refl _).drew | with_reducible exact HSK.out _ Z2 | with_reducible exact HSK.out _ Z1 | go_keep)
    (first
      | (go_at_call 133; with_reducible refine (HCL.out _ (XM.out.trans (by repeat (first | with_reducible exact Ext.refl _ | with_reducible refine Ext.drew ?_)))).mono ?_; rintro r u1 ⟨a1, c1, rfl, hh1, hy⟩; have Z1 : Ext M u1 := Ext.trans (by repeat (first | with_reducible exact Ext.refl _ | with_reducible refine Ext.drew ?_)) hy; have HH1 := hid hh1)
      | (go_at_call 124; with_reducible refine (HK1.out _ (XM.out.trans (by repeat (first | with_reducible exact Z1 | with_reducible refine Ext.drew ?_))) _ _ (HH1.out.later (by repeat (first | with_reducible exact Ext.refl _ | with_reducible refine Ext.drew ?_)))).mono ?_; rintro r u2 ⟨h2, rfl, hmade, hy⟩; have Z2 : Ext M u2 := Ext.trans (by repeat (first | with_reducible exact Z1 | with_reducible refine Ext.drew ?_)) hy; have HMD := hid hmade))
  all_goals
    go_wp2_with fail
    refine leaves_cons (f := 132) (args := #[]) (by simp) (by simp [go_sem]) ?_
    refine (caught_idle _).mono ?_
    rintro e u' w'' ⟨rfl, rfl, rfl⟩
    simp [Leaves, settle, results, Tryz.results67, go_sem]
    exact ⟨h2, rfl, HMD.out.base (XM.out.trans Z1).size, XM.out.trans Z2⟩
set_option maxRecDepth 100000 in
set_option maxHeartbeats 4000000 in
theorem made_Lz {base kb mb : Nat} {nme : ByteArray} {lv kv : Value} {acc : List Rw} (ks : List Kd) (g cp bx : Nat) (k x : ByteArray) (n : Int) (ao : Option Addr) (nk c : Nat) (t : Nat → TypeId) (v : Nat → Value) (kd : Kd) (w : World) (hkm : KitM w base kb mb nme (.func (.func 124) #[] #[.pointer (some ⟨bx, 0, none⟩)]) lv acc) (hl : ks.length ≤ 1000) (hb : w.heap[bx]? = some (.cells #[.slice (some ⟨g, 0, none⟩) ks.length cp] 104)) (hk : KRow w g ks) (hf : Go.Proofs.YtnmcmjgfnncdmaaGreatDoor.kdFind ks k = some kd) (hm : kd.make = 145) (hd : kd.does = none) (hn : nk ≤ 100000) (hh : HandsP w ao nk c t v) (hkv : ∃ a l c, kv = .slice a l c) :
    Calls Tryz.prog 67 #[.pointer (some ⟨kb, 0, none⟩), .agg #[.string k, .int .i64 n, .string x, kv], .slice ao nk c] w (Kit1R w 351 k n x nk t v) := by
  obtain ⟨ka, kl, kc, rfl⟩ := hkv
  have HCL := hid (fun w1 (hx : Ext w w1) => cloneHands ao nk c t v w1 hn (hh.later hx))
  have HK1 := hid (show ∀ w1, Ext w w1 → ∀ a' c', HandsO w1 a' nk t v → Calls Tryz.prog 124 #[.agg #[.string k, .int .i64 n, .string x, .slice none 0 0], .slice a' nk c', .pointer (some ⟨bx, 0, none⟩)] w1 fun e w' => ∃ h, e = .returned (.pointer (some ⟨h, 0, none⟩)) ∧ MadeN w1 351 k n x nk t v h w' ∧ Ext w1 w' from fun w1 hx a' c' hh' => kit1_Lz ks g cp bx k x n a' nk c' t v kd w1 hl (hx.block hb) (hk.later hx) hf hm hd hn hh')
  obtain ⟨k0, k1, k2, k3⟩ := hkm.four
  have HK3 := hid k3
  clear hkm hl hb hk hf hm hd hn hh k0 k1 k2 k3
  have hmf : ∀ (fn : Fn) (first cap : Array Value) (w : World), (Instr.makeFunc fn first cap).run Tryz.prog w = .ok (.func fn first cap) w := fun _ _ _ _ => rfl
  have henter := enterK1
  obtain ⟨M, hM⟩ : ∃ M, w.alloc (.cells #[.string k, .int .i64 n, .string x, .slice ka kl kc] 69) = M := ⟨_, rfl⟩
  have XM := hid (show Ext w M from hM ▸ Ext.alloc _ _)
  have HM0 := hid (show M.heap[w.heap.size]? = some (.cells #[.string k, .int .i64 n, .string x, .slice ka kl kc] 69) from hM ▸ blk0 _ _)
  go_enter_defers Tryz.func67, Tryz.ntmps67
  go_wp2_with fail
  clear hM
  have HSK := hid (show ∀ W', Ext M W' → (W'.cell? ⟨kb, 3, none⟩ = some (.func (.func 124) #[] #[.pointer (some ⟨bx, 0, none⟩)]) ∧ W'.cell? ⟨w.heap.size, 0, none⟩ = some (.string k) ∧ W'.cell? ⟨w.heap.size, 1, none⟩ = some (.int .i64 n) ∧ W'.cell? ⟨w.heap.size, 2, none⟩ = some (.string x)) from fun W' X => by
    obtain ⟨s0, s1, s2, s3⟩ := four_of (X.block HM0.out)
    exact ⟨((XM.out.trans X).kp (fun _ => True)).cell HK3.out trivial, s0, s1, s2⟩)
  go_region_held3 (fun W' => W'.cell? ⟨kb, 3, none⟩ = some (.func (.func 124) #[] #[.pointer (some ⟨bx, 0, none⟩)]) ∧ W'.cell? ⟨w.heap.size, 0, none⟩ = some (.string k) ∧ W'.cell? ⟨w.heap.size, 1, none⟩ = some (.int .i64 n) ∧ W'.cell? ⟨w.heap.size, 2, none⟩ = some (.string x))
    (first | with_reducible exact HSK.out _ (Ext.refl _) | with_reducible exact HSK.out _ (Ext.refl _).drew | with_reducible exact HSK.out _ Z2 | with_reducible exact HSK.out _ Z1 | go_keep)
    (first
      | (go_at_call 133; with_reducible refine (HCL.out _ (XM.out.trans (by repeat (first | with_reducible exact Ext.refl _ | with_reducible refine Ext.drew ?_)))).mono ?_; rintro r u1 ⟨a1, c1, rfl, hh1, hy⟩; have Z1 : Ext M u1 := Ext.trans (by repeat (first | with_reducible exact Ext.refl _ | with_reducible refine Ext.drew ?_)) hy; have HH1 := hid hh1)
      | (go_at_call 124; with_reducible refine (HK1.out _ (XM.out.trans (by repeat (first | with_reducible exact Z1 | with_reducible refine Ext.drew ?_))) _ _ (HH1.out.later (by repeat (first | with_reducible exact Ext.refl _ | with_reducible refine Ext.drew ?_)))).mono ?_; rintro r u2 ⟨h2, rfl, hmade, hy⟩; have Z2 : Ext M u2 := Ext.trans (by repeat (first | with_reducible exact Z1 | with_reducible refine Ext.drew ?_)) hy; have HMD := hid hmade))
  all_goals
    go_wp2_with fail
    refine leaves_cons (f := 132) (args := #[]) (by simp) (by simp [go_sem]) ?_
    refine (caught_idle _).mono ?_
    rintro e u' w'' ⟨rfl, rfl, rfl⟩
    simp [Leaves, settle, results, Tryz.results67, go_sem]
    exact ⟨h2, rfl, HMD.out.base (XM.out.trans Z1).size, XM.out.trans Z2⟩
set_option maxRecDepth 100000 in
set_option maxHeartbeats 4000000 in
theorem made_Ec {base kb mb : Nat} {nme : ByteArray} {lv kv : Value} {acc : List Rw} (ks : List Kd) (g cp bx : Nat) (k x : ByteArray) (n : Int) (ao : Option Addr) (nk c : Nat) (t : Nat → TypeId) (v : Nat → Value) (kd : Kd) (w : World) (hkm : KitM w base kb mb nme (.func (.func 124) #[] #[.pointer (some ⟨bx, 0, none⟩)]) lv acc) (hl : ks.length ≤ 1000) (hb : w.heap[bx]? = some (.cells #[.slice (some ⟨g, 0, none⟩) ks.length cp] 104)) (hk : KRow w g ks) (hf : Go.Proofs.YtnmcmjgfnncdmaaGreatDoor.kdFind ks k = some kd) (hm : kd.make = 119) (hd : kd.does = none) (hn : nk ≤ 100000) (hh : HandsP w ao nk c t v) (hkv : ∃ a l c, kv = .slice a l c) :
    Calls Tryz.prog 67 #[.pointer (some ⟨kb, 0, none⟩), .agg #[.string k, .int .i64 n, .string x, kv], .slice ao nk c] w (Kit1R w 275 k n x nk t v) := by
  obtain ⟨ka, kl, kc, rfl⟩ := hkv
  have HCL := hid (fun w1 (hx : Ext w w1) => cloneHands ao nk c t v w1 hn (hh.later hx))
  have HK1 := hid (show ∀ w1, Ext w w1 → ∀ a' c', HandsO w1 a' nk t v → Calls Tryz.prog 124 #[.agg #[.string k, .int .i64 n, .string x, .slice none 0 0], .slice a' nk c', .pointer (some ⟨bx, 0, none⟩)] w1 fun e w' => ∃ h, e = .returned (.pointer (some ⟨h, 0, none⟩)) ∧ MadeN w1 275 k n x nk t v h w' ∧ Ext w1 w' from fun w1 hx a' c' hh' => kit1_Ec ks g cp bx k x n a' nk c' t v kd w1 hl (hx.block hb) (hk.later hx) hf hm hd hn hh')
  obtain ⟨k0, k1, k2, k3⟩ := hkm.four
  have HK3 := hid k3
  clear hkm hl hb hk hf hm hd hn hh k0 k1 k2 k3
  have hmf : ∀ (fn : Fn) (first cap : Array Value) (w : World), (Instr.makeFunc fn first cap).run Tryz.prog w = .ok (.func fn first cap) w := fun _ _ _ _ => rfl
  have henter := enterK1
  obtain ⟨M, hM⟩ : ∃ M, w.alloc (.cells #[.string k, .int .i64 n, .string x, .slice ka kl kc] 69) = M := ⟨_, rfl⟩
  have XM := hid (show Ext w M from hM ▸ Ext.alloc _ _)
  have HM0 := hid (show M.heap[w.heap.size]? = some (.cells #[.string k, .int .i64 n, .string x, .slice ka kl kc] 69) from hM ▸ blk0 _ _)
  go_enter_defers Tryz.func67, Tryz.ntmps67
  go_wp2_with fail
  clear hM
  have HSK := hid (show ∀ W', Ext M W' → (W'.cell? ⟨kb, 3, none⟩ = some (.func (.func 124) #[] #[.pointer (some ⟨bx, 0, none⟩)]) ∧ W'.cell? ⟨w.heap.size, 0, none⟩ = some (.string k) ∧ W'.cell? ⟨w.heap.size, 1, none⟩ = some (.int .i64 n) ∧ W'.cell? ⟨w.heap.size, 2, none⟩ = some (.string x)) from fun W' X => by
    obtain ⟨s0, s1, s2, s3⟩ := four_of (X.block HM0.out)
    exact ⟨((XM.out.trans X).kp (fun _ => True)).cell HK3.out trivial, s0, s1, s2⟩)
  go_region_held3 (fun W' => W'.cell? ⟨kb, 3, none⟩ = some (.func (.func 124) #[] #[.pointer (some ⟨bx, 0, none⟩)]) ∧ W'.cell? ⟨w.heap.size, 0, none⟩ = some (.string k) ∧ W'.cell? ⟨w.heap.size, 1, none⟩ = some (.int .i64 n) ∧ W'.cell? ⟨w.heap.size, 2, none⟩ = some (.string x))
    (first | with_reducible exact HSK.out _ (Ext.refl _) | with_reducible exact HSK.out _ (Ext.refl _).drew | with_reducible exact HSK.out _ Z2 | with_reducible exact HSK.out _ Z1 | go_keep)
    (first
      | (go_at_call 133; with_reducible refine (HCL.out _ (XM.out.trans (by repeat (first | with_reducible exact Ext.refl _ | with_reducible refine Ext.drew ?_)))).mono ?_; rintro r u1 ⟨a1, c1, rfl, hh1, hy⟩; have Z1 : Ext M u1 := Ext.trans (by repeat (first | with_reducible exact Ext.refl _ | with_reducible refine Ext.drew ?_)) hy; have HH1 := hid hh1)
      | (go_at_call 124; with_reducible refine (HK1.out _ (XM.out.trans (by repeat (first | with_reducible exact Z1 | with_reducible refine Ext.drew ?_))) _ _ (HH1.out.later (by repeat (first | with_reducible exact Ext.refl _ | with_reducible refine Ext.drew ?_)))).mono ?_; rintro r u2 ⟨h2, rfl, hmade, hy⟩; have Z2 : Ext M u2 := Ext.trans (by repeat (first | with_reducible exact Z1 | with_reducible refine Ext.drew ?_)) hy; have HMD := hid hmade))
  all_goals
    go_wp2_with fail
    refine leaves_cons (f := 132) (args := #[]) (by simp) (by simp [go_sem]) ?_
    refine (caught_idle _).mono ?_
    rintro e u' w'' ⟨rfl, rfl, rfl⟩
    simp [Leaves, settle, results, Tryz.results67, go_sem]
    exact ⟨h2, rfl, HMD.out.base (XM.out.trans Z1).size, XM.out.trans Z2⟩

end Go.Proofs.YtnmcmjgfnncdmaaGreatDoor.Nd
