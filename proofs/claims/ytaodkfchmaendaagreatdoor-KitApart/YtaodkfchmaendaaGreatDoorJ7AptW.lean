/-
  What a kit of the statements' makers makes of base.yes: by the maker that makes what it is asked for, a node; by the one that makes base.no, ErrFit.
-/
import Derived.Test.YtaodkfchmaendaaGreatDoorJOwnW
import Derived.Test.YtaodkfchmaendaaGreatDoorJBMake
import Derived.Test.YtaodkfchmaendaaGreatDoorJ7NonA
import Derived.BigQuiet
import Derived.Deep.Cut
import Derived.Deep.CutRange
namespace Go.Proofs.YtaodkfchmaendaaGreatDoor.Nd
open Go.RowKit
theorem enterBB : EntersF 20 := fun a w => by simp [callFunc, go_sem, Tryz.func20]; rfl
theorem enterFF : EntersF 33 := fun a w => by simp [callFunc, go_sem, Tryz.func33]; rfl
set_option maxRecDepth 100000 in
theorem bb_any (j : Nat) (hj7 : j < 7) (k x : ByteArray) (n : Int) (ao : Option Addr) (nk c : Nat) (t : Nat → TypeId) (v : Nat → Value) (w : World) (hf : kdFind k = some j) (hn : nk ≤ 100000) (hx : x.size ≤ 140737488355328) (hh : HandsO w ao nk t v) (h0 : fitsK (minK j) (maxK j) (numK j) (textK j) n x nk = 0) : Calls Tryz.prog 20 #[.agg #[.string k, .int .i64 n, .string x, .slice none 0 0], .slice ao nk c] w fun e w' => ∃ h, e = .returned (.pointer h) ∧ B1Q w.heap.size j k n x nk t v h w' ∧ Ext w w' := by
  have HM := hid (fun w1 (hx1 : Ext w w1) => (make_some j hj7 k x n none 0 0 ao nk c t v w1 hf hn hx (hh.later hx1)).mono (R' := MakeYes w j k n x nk t v) (fun e w' h => by
    rcases h with ⟨_, q, b, a, c, h1, h2, h3, h4, h5, h6⟩ | ⟨h1, _⟩
    · exact ⟨q, b, a, c, h1, h2, h3.base hx1.size, row_base h4 hx1.size, Nat.le_trans hx1.size h5, hx1.trans h6⟩
    · rw [h0] at h1; cases h1))
  clear hf hh h0
  go_enter Tryz.func20, Tryz.ntmps20
  go_wp2_with fail
  refine (HM.out _ (Ext.alloc _ _)).mono ?_
  rintro e w1 ⟨q, b, a, c1, rfl, h2, h3, h4, h5, hy⟩
  have H2 := hid h2
  have H3 := hid h3
  have H4 := hid h4
  have HX := hid hy
  have H5 := hid h5
  clear h2 h3 h4 hy h5
  go_wp2_with fail
  go_ret
  exact ⟨_, rfl, ⟨q, b, a, c1, rfl, H2.out, H3.out, H4.out, H5.out⟩, HX.out⟩
def bNo : ByteArray := ⟨#[98, 97, 115, 101, 46, 110, 111]⟩
theorem bNo_find : kdFind bNo = some 2 := by decide
theorem fit_no0 : fitsK (minK 2) (maxK 2) (numK 2) (textK 2) 0 ⟨#[]⟩ 0 = 0 := by simp [fitsK, takesK, minK, maxK, numK, textK]; try decide
/-- A handle on a node of base.no. -/
def NoIn (w : World) (q b : Nat) : Prop := w.cell? ⟨q, 0, none⟩ = some (.iface 175 (.pointer (some ⟨b, 0, none⟩))) ∧ w.cell? ⟨b, 0, none⟩ = some (.string bNo)
set_option maxRecDepth 100000 in
theorem ff_any (k x : ByteArray) (n : Int) (ka ao : Option Addr) (kl kc nk c : Nat) (w : World) : Calls Tryz.prog 33 #[.agg #[.string k, .int .i64 n, .string x, .slice ka kl kc], .slice ao nk c] w fun e w' => ∃ h, e = .returned (.pointer h) ∧ (∃ q b, h = some ⟨q, 0, none⟩ ∧ NoIn w' q b) ∧ Ext w w' := by
  have HM := hid (fun w1 => make_some 2 (by decide) bNo ⟨#[]⟩ 0 none 0 0 none 0 0 (fun _ => 175) (fun _ => .nilIface) w1 bNo_find (by decide) (by decide) (.inl rfl))
  have e := fit_no0
  unfold bNo at HM
  go_enter Tryz.func33, Tryz.ntmps33
  go_wp2_with fail
  refine (HM.out _).mono ?_
  rintro e w1 (⟨_, h, b, a, c, rfl, hh, ⟨b', e1, _, ⟨cs, ty, hb, c0, _⟩, _⟩, _, _, hx1⟩ | ⟨hne, _⟩)
  · have HQ := hid (show NoIn w1 h b by
      injection e1 with _ e1
      injection e1 with e1
      injection e1 with e1
      injection e1 with e1
      subst e1
      exact ⟨cell_of hh rfl, cell_of hb c0⟩)
    have X1 := hid ((Ext.alloc w (.cells #[.string k, .int .i64 n, .string x, .slice ka kl kc] 24)).trans hx1)
    clear hh e1 hb c0 hx1
    go_wp2_with fail
    go_ret
    exact ⟨_, rfl, ⟨h, b, rfl, HQ.out⟩, X1.out⟩
  · exact absurd hne (by rw [show fitsK (minK 2) (maxK 2) (numK 2) (textK 2) 0 ⟨#[]⟩ ((0 : Nat) : Int) = 0 from fit_no0]; decide)
attribute [local go_sem] mLitKind
set_option maxRecDepth 100000 in
set_option maxHeartbeats 4000000 in
theorem matches_kind (b nk cq : Nat) (qa ka : Option Addr) (kl kc : Nat) (k1 k x : ByteArray) (n : Int) (w : World) (hb : w.cell? ⟨b, 0, none⟩ = some (.string k1)) (hk : (k1.toList == k.toList) = false) : Calls Tryz.prog 41 #[.iface 175 (.pointer (some ⟨b, 0, none⟩)), .agg #[.string k, .int .i64 n, .string x, .slice ka kl kc], .slice qa nk cq] w fun e w' => e = .returned (.bool false) ∧ Ext w w' := by
  have HB := hid hb
  clear hb
  obtain ⟨M, hM⟩ : ∃ M, w.alloc (.cells #[.string k, .int .i64 n, .string x, .slice ka kl kc] 24) = M := ⟨_, rfl⟩
  have XM := hid (show Ext w M from hM ▸ Ext.alloc _ _)
  have HM0 := hid (show M.heap[w.heap.size]? = some (.cells #[.string k, .int .i64 n, .string x, .slice ka kl kc] 24) from hM ▸ blk0 _ _)
  have hq0 : M.cell? ⟨b, 0, none⟩ = some (.string k1) := (XM.out.kp (fun _ => True)).cell HB.out trivial
  have hqn : ∀ n : Nat, (M.drewN n).cell? ⟨b, 0, none⟩ = some (.string k1) := fun n => hq0
  obtain ⟨s0, s1, s2, s3⟩ := four_of HM0.out
  have hne : (k1.toList != k.toList) = true := by unfold bne; rw [hk]; rfl
  go_enter Tryz.func41, Tryz.ntmps41
  go_upto_region 1 with fail
  first | rw [hM] | skip
  clear hM
  go_quiet ((go_at_call 183; first | with_reducible exact Calls.quiet_of_same (bKind b k1 _ (hqn _)) | with_reducible exact Calls.quiet_of_same (bKind b k1 _ hq0)))
  go_wp2_with fail
  go_ret
  exact ⟨rfl, XM.out.trans ((Ext.refl _).drewN _)⟩
end Go.Proofs.YtaodkfchmaendaaGreatDoor.Nd
/-
  (*Kit).Make of base.yes, by either maker; by contracts.
-/
namespace Go.Proofs.YtaodkfchmaendaaGreatDoor.Nd
open Go.RowKit
theorem makeA {base kb mb : Nat} {nme : ByteArray} {lv : Value} {acc : List Rw} (ix : Nat) (w : World) (hkm : KitM w base kb mb nme (.func (.func 20) #[] #[]) lv acc) (hix : kIx acc bYes = some ix) (hil : ix < acc.length) (hrow : acc[ix] = rowJ 1) :
    Calls Tryz.prog 13 #[.pointer (some ⟨kb, 0, none⟩), .agg #[.string bYes, .int .i64 0, .string ⟨#[]⟩, .slice none 0 0], .slice none 0 0] w fun e w' => ∃ q, e = .returned (.tuple #[.pointer (some ⟨q, 0, none⟩), .nilIface]) ∧ Ext w w' := by
  refine (kmake_yes 20 #[] bYes ⟨#[]⟩ 0 none none 0 0 0 0 (fun _ => 0) w hkm (by decide) (by decide) ix hix hil (by decide) (.inl rfl) ?_ (tyK 1) (hasT 1) (ofT 1 (by decide)) ?_ ?_ (HeldK w.heap.size 1 bYes 0 ⟨#[]⟩ 0 (fun _ => 0)) (fun q v w1 w2 h hx => h.later hx) (fun w1 hx => ?_) (fun q v w1 qa cq B hq hrow => ?_)).mono ?_
  · rw [hrow, fitsR_K 1 (by decide) bYes 0 ⟨#[]⟩ _ rfl]; exact fit_yes0
  · rw [hrow]; exact oddT 1 (by decide)
  · rw [hrow]; exact absT 1 (by decide)
  · obtain ⟨k0, k1', k2, k3⟩ := (hkm.later hx).four
    refine (made0 20 enterBB kb bYes ⟨#[]⟩ 0 none 0 0 none 0 0 (fun h w' => ∃ q v, h = some ⟨q, 0, none⟩ ∧ w'.cell? ⟨q, 0, none⟩ = some (.iface (tyK 1) v) ∧ HeldK w.heap.size 1 bYes 0 ⟨#[]⟩ 0 (fun _ => 0) q v w') (fun w a' c' => HandsO w a' 0 (fun _ => 175) (fun _ => .pointer (some ⟨0, 0, none⟩))) w1 k3 (fun w2 hx2 => cloneHands none 0 0 _ _ w2 (by decide) (.inl ⟨rfl, rfl, rfl⟩)) (fun w2 w3 a' c' h hx2 => h.later hx2) (fun w2 hx2 a' c' h => ?_))
    refine (bb_any 1 (by decide) bYes ⟨#[]⟩ 0 a' 0 c' _ _ w2 bYes_find (by decide) (by decide) h fit_yes0).mono ?_
    rintro e w' ⟨_, rfl, ⟨q, b, a, c1, rfl, h2, h3, h4, h5⟩, hy⟩
    have hs : w.heap.size ≤ w2.heap.size := (hx.trans hx2).size
    exact ⟨_, rfl, ⟨q, .pointer (some ⟨b, 0, none⟩), rfl, cell_of h2 rfl, b, a, c1, rfl, h2, h3.base hs, row_base h4 hs, Nat.le_trans hs h5⟩, hy⟩
  · obtain ⟨b, a, c1, rfl, h2, ⟨b', e1, e2, e3, e4⟩, h4, h5⟩ := hq
    injection e1 with _ e1
    injection e1 with e1
    injection e1 with e1
    injection e1 with e1
    subst e1
    exact matchesT 1 (by decide) b 0 c1 cq a qa none 0 0 bYes ⟨#[]⟩ 0 (fun _ => 0) w1 e3 (by decide) h4 hrow
  · rintro e w' ⟨q, v, rfl, _, hx⟩
    exact ⟨q, rfl, hx⟩
theorem makeB {base kb mb : Nat} {nme : ByteArray} {lv : Value} {acc : List Rw} (ix : Nat) (w : World) (hkm : KitM w base kb mb nme (.func (.func 33) #[] #[]) lv acc) (hix : kIx acc bYes = some ix) (hil : ix < acc.length) (hrow : acc[ix] = rowJ 1) :
    Calls Tryz.prog 13 #[.pointer (some ⟨kb, 0, none⟩), .agg #[.string bYes, .int .i64 0, .string ⟨#[]⟩, .slice none 0 0], .slice none 0 0] w (MakeNo w 12) := by
  refine kmake_fit 33 #[] bYes ⟨#[]⟩ 0 none none 0 0 0 0 (fun _ => 0) w hkm (by decide) (by decide) ix hix hil (by decide) (.inl rfl) ?_ 175 (fun _ v w' => ∃ b, v = .pointer (some ⟨b, 0, none⟩) ∧ w'.cell? ⟨b, 0, none⟩ = some (.string bNo)) (fun q v w1 w2 h hx => ?_) (fun w1 hx => ?_) (fun q v w1 qa cq B hq hrow => ?_)
  · rw [hrow, fitsR_K 1 (by decide) bYes 0 ⟨#[]⟩ _ rfl]; exact fit_yes0
  · obtain ⟨b, h1, h2⟩ := h
    exact ⟨b, h1, (hx.kp (fun _ => True)).cell h2 trivial⟩
  · obtain ⟨k0, k1', k2, k3⟩ := (hkm.later hx).four
    refine (made0 33 enterFF kb bYes ⟨#[]⟩ 0 none 0 0 none 0 0 (fun h w' => ∃ q v, h = some ⟨q, 0, none⟩ ∧ w'.cell? ⟨q, 0, none⟩ = some (.iface 175 v) ∧ ∃ b, v = .pointer (some ⟨b, 0, none⟩) ∧ w'.cell? ⟨b, 0, none⟩ = some (.string bNo)) (fun w a' c' => HandsO w a' 0 (fun _ => 175) (fun _ => .pointer (some ⟨0, 0, none⟩))) w1 k3 (fun w2 hx2 => cloneHands none 0 0 _ _ w2 (by decide) (.inl ⟨rfl, rfl, rfl⟩)) (fun w2 w3 a' c' h hx2 => h.later hx2) (fun w2 hx2 a' c' h => ?_))
    refine (ff_any bYes ⟨#[]⟩ 0 none a' 0 0 0 c' w2).mono ?_
    rintro e w' ⟨_, rfl, ⟨q, b, rfl, h2, h3⟩, hy⟩
    exact ⟨_, rfl, ⟨q, .pointer (some ⟨b, 0, none⟩), rfl, h2, b, rfl, h3⟩, hy⟩
  · obtain ⟨b, rfl, hb⟩ := hq
    exact matches_kind b 0 cq qa none 0 0 bNo bYes ⟨#[]⟩ 0 w1 hb (by rw [str_eqb]; decide)
/-- The rows of the two kits. -/
def bX : ByteArray := ⟨#[98, 97, 115, 101, 46, 120]⟩
def bY : ByteArray := ⟨#[98, 97, 115, 101, 46, 121]⟩
theorem ownR_kind {kd : ByteArray} {rws : List Rw} {j : Nat} {r : Rw} (h : r ∈ ownJ kd rws j) : ∃ i, i < j ∧ r.kind = kd ++ dig1 i ∧ ∃ s ∈ rws, r.abs = s.abs := by
  unfold ownJ at h
  obtain ⟨i, hi, rfl⟩ := List.getElem_of_mem h
  rw [List.getElem_mapIdx]
  rw [List.length_mapIdx, List.length_take] at hi
  exact ⟨i, by omega, rfl, _, List.mem_of_mem_take (List.getElem_mem (by rw [List.length_take]; exact hi)), rfl⟩
theorem kinds_nodup (kd : ByteArray) (rws : List Rw) (j : Nat) (hj : j ≤ 9) (hd : ∀ i i', i < 9 → i' < 9 → kd ++ dig1 i = kd ++ dig1 i' → i = i') : ((ownJ kd rws j).map Rw.kind).Nodup := by
  rw [List.nodup_iff_pairwise_ne, List.pairwise_iff_getElem]
  intro i i' hi hi' hlt e
  unfold ownJ at e hi hi'
  simp only [List.getElem_map, List.getElem_mapIdx, List.length_map, List.length_mapIdx, List.length_take] at e hi hi'
  have := hd i i' (by omega) (by omega) e
  omega
theorem x_inj : ∀ i i', i < 9 → i' < 9 → bX ++ dig1 i = bX ++ dig1 i' → i = i' := by
  have h : ∀ i, i < 9 → ∀ i', i' < 9 → bX ++ dig1 i = bX ++ dig1 i' → i = i' := by decide
  exact fun i i' hi hi' => h i hi i' hi'
theorem y_inj : ∀ i i', i < 9 → i' < 9 → bY ++ dig1 i = bY ++ dig1 i' → i = i' := by
  have h : ∀ i, i < 9 → ∀ i', i' < 9 → bY ++ dig1 i = bY ++ dig1 i' → i = i' := by decide
  exact fun i i' hi hi' => h i hi i' hi'
theorem x_yes : ∀ i, i < 9 → bX ++ dig1 i ≠ bYes := by decide
theorem y_yes : ∀ i, i < 9 → bY ++ dig1 i ≠ bYes := by decide
def preB : List UInt8 := [98, 97, 115, 101]
theorem x_kind : ∀ i, i < 9 → ∃ post, (bX ++ dig1 i).data.toList = preB ++ 46 :: post ∧ speltB wordI 16 post = true := by
  have h : ∀ i, i < 9 → (bX ++ dig1 i).data.toList = preB ++ 46 :: [120, UInt8.ofNat (48 + i)] ∧ speltB wordI 16 [120, UInt8.ofNat (48 + i)] = true := by decide
  intro i hi
  exact ⟨_, h i hi⟩
theorem y_kind : ∀ i, i < 9 → ∃ post, (bY ++ dig1 i).data.toList = preB ++ 46 :: post ∧ speltB wordI 16 post = true := by
  have h : ∀ i, i < 9 → (bY ++ dig1 i).data.toList = preB ++ 46 :: [121, UInt8.ofNat (48 + i)] ∧ speltB wordI 16 [121, UInt8.ofNat (48 + i)] = true := by decide
  intro i hi
  exact ⟨_, h i hi⟩
theorem x_size : ∀ i, i < 9 → (bX ++ dig1 i).size ≤ 4000 := by decide
theorem y_size : ∀ i, i < 9 → (bY ++ dig1 i).size ≤ 4000 := by decide
theorem preB_word : speltB wordI 16 preB = true := by decide
theorem preB_dot : (46 : UInt8) ∉ preB := by decide
end Go.Proofs.YtaodkfchmaendaaGreatDoor.Nd
/-
  KitApart: the rows of the two kits; a list of bools that comes in.
-/
namespace Go.Proofs.YtaodkfchmaendaaGreatDoor.Nd
open Go.RowKit
def accX (rws : List Rw) : List Rw := [rowJ 1] ++ ownJ bX rws (min rws.length 9)
def accY (rws : List Rw) : List Rw := ownJ bY rws (min rws.length 9) ++ [rowJ 1]
theorem accX_len (rws : List Rw) : (accX rws).length = min rws.length 9 + 1 := by
  unfold accX
  rw [List.length_append, ownJ_len bX rws _ (by omega)]
  simp; omega
theorem accY_len (rws : List Rw) : (accY rws).length = min rws.length 9 + 1 := by
  unfold accY
  rw [List.length_append, ownJ_len bY rws _ (by omega)]
  simp
theorem yes_kind : KindR preB (rowJ 1) := ⟨⟨[121, 101, 115], by decide, by decide⟩, preB_dot, preB_word, by decide⟩
theorem accX_kind (rws : List Rw) (hab : ∀ r ∈ rws, r.abs.length ≤ 140737488351232) : ∀ r ∈ accX rws, KindR preB r ∧ r.abs.length ≤ 140737488351232 := by
  intro r hr
  rcases List.mem_append.1 hr with h | h
  · rw [List.mem_singleton.1 h]
    exact ⟨yes_kind, by decide⟩
  · obtain ⟨i, hi, hk, s, hs, ha⟩ := ownR_kind h
    exact ⟨⟨by rw [hk]; exact x_kind i (by omega), preB_dot, preB_word, by rw [hk]; exact x_size i (by omega)⟩, by rw [ha]; exact hab s hs⟩
theorem accY_kind (rws : List Rw) (hab : ∀ r ∈ rws, r.abs.length ≤ 140737488351232) : ∀ r ∈ accY rws, KindR preB r ∧ r.abs.length ≤ 140737488351232 := by
  intro r hr
  rcases List.mem_append.1 hr with h | h
  · obtain ⟨i, hi, hk, s, hs, ha⟩ := ownR_kind h
    exact ⟨⟨by rw [hk]; exact y_kind i (by omega), preB_dot, preB_word, by rw [hk]; exact y_size i (by omega)⟩, by rw [ha]; exact hab s hs⟩
  · rw [List.mem_singleton.1 h]
    exact ⟨yes_kind, by decide⟩
theorem accX_nodup (rws : List Rw) : ((accX rws).map Rw.kind).Nodup := by
  unfold accX
  rw [List.map_append]
  refine List.pairwise_append.2 ⟨by simp, kinds_nodup bX rws _ (by omega) x_inj, fun a ha b hb => ?_⟩
  simp at ha
  subst ha
  obtain ⟨r, hr, rfl⟩ := List.mem_map.1 hb
  obtain ⟨i, hi, hk, _⟩ := ownR_kind hr
  rw [hk]
  exact fun e => x_yes i (by omega) e.symm
theorem accY_nodup (rws : List Rw) : ((accY rws).map Rw.kind).Nodup := by
  unfold accY
  rw [List.map_append]
  refine List.pairwise_append.2 ⟨kinds_nodup bY rws _ (by omega) y_inj, by simp, fun a ha b hb => ?_⟩
  simp at hb
  subst hb
  obtain ⟨r, hr, rfl⟩ := List.mem_map.1 ha
  obtain ⟨i, hi, hk, _⟩ := ownR_kind hr
  rw [hk]
  exact y_yes i (by omega)
theorem accX_ix (rws : List Rw) : kIx (accX rws) bYes = some 0 := by
  unfold accX kIx
  rw [List.singleton_append, List.findIdx?_cons, if_pos (by decide)]
theorem accX_at (rws : List Rw) (h : 0 < (accX rws).length) : (accX rws)[0] = rowJ 1 := rfl
theorem accY_ix (rws : List Rw) : kIx (accY rws) bYes = some (min rws.length 9) := by
  have h0 : kIx (ownJ bY rws (min rws.length 9)) (rowJ 1).kind = none := by
    unfold kIx
    rw [List.findIdx?_eq_none_iff]
    intro r hr
    obtain ⟨i, hi, hk, _⟩ := ownR_kind hr
    rw [decide_eq_false_iff_not, hk]
    exact y_yes i (by omega)
  unfold accY
  rw [kIx_snoc h0]
  show (if bYes = (rowJ 1).kind then some (ownJ bY rws (min rws.length 9)).length else _) = _
  rw [if_pos (show bYes = (rowJ 1).kind by decide), ownJ_len bY rws _ (by omega)]
theorem accY_at (rws : List Rw) (h : min rws.length 9 < (accY rws).length) : (accY rws)[min rws.length 9] = rowJ 1 := by
  have hl := ownJ_len bY rws (min rws.length 9) (by omega)
  have e : (accY rws)[min rws.length 9]? = some (rowJ 1) := by
    unfold accY
    rw [List.getElem?_append_right (by omega)]
    simp [hl]
  rw [List.getElem?_eq_getElem h] at e
  exact Option.some.inj e
/-- Bools in a list. -/
def BoolsIn (W : World) (a : Option Addr) (n : Nat) : Prop := ∀ i, i < n → ∃ g off b, a = some ⟨g, off, none⟩ ∧ W.cell? ⟨g, off + i, none⟩ = some (.bool b)
end Go.Proofs.YtaodkfchmaendaaGreatDoor.Nd
/-
  KitApart tells true.
-/
namespace Go.Proofs.YtaodkfchmaendaaGreatDoor.Nd
open Go.RowKit
/-- What New answered: an error, or a kit. -/
def NewOr (fm : Nat) (acc : List Rw) (w' : World) (p e : Value) : Prop := (∃ b, p = .pointer none ∧ e = .iface 137 (.pointer (some ⟨b, 0, none⟩))) ∨ ∃ B kb mb lv, p = .pointer (some ⟨kb, 0, none⟩) ∧ e = .nilIface ∧ (∀ r ∈ acc, GoodR preB r) ∧ KitM w' B kb mb baseB (.func (.func fm) #[] #[]) lv acc
theorem NewOr.later {fm : Nat} {acc : List Rw} {w w' : World} {p e : Value} (h : NewOr fm acc w p e) (hx : Ext w w') : NewOr fm acc w' p e := h.imp id fun ⟨B, kb, mb, lv, h1, h2, h3, h4⟩ => ⟨B, kb, mb, lv, h1, h2, h3, h4.later hx⟩
set_option maxRecDepth 100000 in
set_option maxHeartbeats 8000000 in
theorem kitApart_true (a1 a2 a3 : Option Addr) (c1 c2 n3 c3 : Nat) (r1 r2 : List Rw) (w : World) (h1 : RowsLie w a1 r1) (h2 : RowsLie w a2 r2) (h3 : BoolsIn w a3 n3) (l1 : r1.length ≤ 140737488351232) (l2 : r2.length ≤ 140737488351232) (l3 : n3 ≤ 140737488351232) (s1 : ∀ r ∈ r1, r.abs.length ≤ 140737488351232) (s2 : ∀ r ∈ r2, r.abs.length ≤ 140737488351232) (hl : Laid w) :
    Calls Tryz.prog 7 #[.slice a1 r1.length c1, .slice a2 r2.length c2, .slice a3 n3 c3] w fun e w' => e = .returned (.bool true) ∧ Ext w w' := by
  have HB := hid (begun7_any w hl)
  have HOX := hid (fun X w1 (hXw : Ext X w1) (hx : Ext w X) => own_any bX (by decide) a1 c1 r1 X w1 hXw (h1.later hx) l1)
  have HOY := hid (fun X w1 (hXw : Ext X w1) (hx : Ext w X) => own_any bY (by decide) a2 c2 r2 X w1 hXw (h2.later hx) l2)
  have HNX := hid (fun ao lc w1 h => new_rows (pre := preB) baseB rfl preB_word 20 #[] ao lc (accX r1) w1 h (by rw [accX_len]; omega) (by rw [accX_len]; omega) (accX_kind r1 s1) (accX_nodup r1))
  have HNY := hid (fun ao lc w1 h => new_rows (pre := preB) baseB rfl preB_word 33 #[] ao lc (accY r2) w1 h (by rw [accY_len]; omega) (by rw [accY_len]; omega) (accY_kind r2 s2) (accY_nodup r2))
  have HBO := hid h3
  have hl3 : (n3 : Int) ≤ 140737488351232 := by omega
  unfold bX at HOX
  unfold bY at HOY
  unfold baseB at HNX HNY
  clear h1 h2 h3 s1 s2 hl
  go_enter Tryz.func7, Tryz.ntmps7
  go_wp2_with fail
  refine HB.out.mono ?_
  rintro e V0 ⟨rfl, hx0⟩
  have X0 := hid hx0
  clear hx0
  go_upto_region 4 with fail
  obtain ⟨X, hX⟩ : ∃ X, V0.alloc (.cells #[.string ⟨#[76, 105, 116, 101, 114, 97, 108]⟩, .string ⟨#[80, 117, 114, 101]⟩, .string ⟨#[84, 111, 116, 97, 108]⟩, .string ⟨#[83, 111, 114, 116, 101, 100]⟩] 9) = X := ⟨_, rfl⟩
  have hsx : X.heap.size = V0.heap.size + 1 := by rw [← hX]; simp
  have hblk : X.heap[V0.heap.size]? = some (.cells #[.string ⟨#[76, 105, 116, 101, 114, 97, 108]⟩, .string ⟨#[80, 117, 114, 101]⟩, .string ⟨#[84, 111, 116, 97, 108]⟩, .string ⟨#[83, 111, 114, 116, 101, 100]⟩] 9) := hX ▸ blk0 _ _
  have hTA : TRow X (some ⟨V0.heap.size, 0, none⟩) (rowJ 1).abs := .inr ⟨V0.heap.size, 0, rfl, fun j hj => by
    have hj4 : j < 4 := hj
    match j, hj4 with
    | 0, _ => exact cell_of hblk rfl
    | 1, _ => exact cell_of hblk rfl
    | 2, _ => exact cell_of hblk rfl
    | 3, _ => exact cell_of hblk rfl⟩
  have XX := hid (show Ext w X from X0.out.trans (hX ▸ Ext.alloc _ _))
  rw [hX, ← hsx]
  clear hX hsx hblk
  generalize V0.heap.size = s0 at *
  obtain ⟨L, hL⟩ : ∃ L, X.alloc (.cells #[.string ⟨#[98, 97, 115, 101, 46, 121, 101, 115]⟩, .int .i64 0, .int .i64 0, .bool false, .int .i64 0, .slice (some ⟨s0, 0, none⟩) 4 4] 37) = L := ⟨_, rfl⟩
  have HOL := hid (show OItems X X L (.slice (some ⟨X.heap.size, 0, none⟩) 1 1) [rowJ 1] from
    ⟨(rowJ 1).cells (some ⟨s0, 0, none⟩) 4, ⟨rfl, .inr ⟨X.heap.size, 1, #[.string ⟨#[98, 97, 115, 101, 46, 121, 101, 115]⟩, .int .i64 0, .int .i64 0, .bool false, .int .i64 0, .slice (some ⟨s0, 0, none⟩) 4 4], rfl, Nat.le_refl _, hL ▸ blk0 _ _, Nat.le_refl _, by decide, rfl, rfl⟩⟩, fun i hi => (by
      obtain rfl : i = 0 := by simp at hi; omega
      exact ⟨some ⟨s0, 0, none⟩, 4, ⟨rfl, rfl, rfl, rfl, rfl, rfl⟩, hTA⟩)⟩)
  have XL := hid (show Ext X L from hL ▸ Ext.alloc _ _)
  rw [hL]
  clear hL hTA
  generalize X.heap.size = g0 at *
  go_cut [8, 9] from 17 (fun s8 s9 wx => NewOr 20 (accX r1) wx s8 s9 ∧ Ext L wx)
  case first =>
    go_wp2_with fail
    refine (HOX.out X L XL.out XX.out).mono ?_
    rintro e w1 ⟨v1, rfl, ho1, hx1⟩
    obtain ⟨b1, d1, rfl⟩ := ho1.shape
    have HS1 := hid ho1.src
    have X1 := hid hx1
    have HOL1 := hid (HOL.out.later hx1)
    have XX1 := hid (XL.out.trans hx1)
    clear ho1 hx1
    go_wp2_with (at_builtin; refine app_full (Y := X) (X := X) _ rfl _ _ rfl rfl g0 1 _ [rowJ 1] _ rfl rfl rfl HOL1.out HS1.out XX1.out (by rw [ownJ_len _ r1 _ (by omega)]; simp; omega) ?_; intro v2 w2 hO2 hX2; obtain ⟨b2, d2, hv2⟩ := (show OItems X X w2 v2 (accX r1) from hO2).shape; have HLI := hid ((show OItems X X w2 v2 (accX r1) from hO2).src); have X2 := hid (X1.out.trans hX2); subst hv2; clear hO2 hX2)
    refine (HNX.out b2 d2 _ (HLI.out.lie (XL.out.trans X2.out))).mono ?_
    rintro e w3 (⟨ev, b, rfl, _, hx3⟩ | ⟨hg, kb, mb, lv, rfl, hkm, hx3⟩)
    · have X3 := hid (X2.out.trans hx3)
      clear hx3
      go_wp2_with fail
      go_meet
      case rel => exact ⟨.inl ⟨b, rfl, rfl⟩, X3.out⟩
    · have X3 := hid (X2.out.trans hx3)
      have HG := hid hg
      have HKM := hid hkm
      clear hx3 hg hkm
      go_wp2_with fail
      go_meet
      case rel => exact ⟨.inr ⟨_, kb, mb, lv, rfl, rfl, HG.out, HKM.out⟩, X3.out⟩
  case rest =>
    obtain ⟨hA, hxA⟩ := hcut
    obtain ⟨VA, hVA⟩ : ∃ VA, VA = wc := ⟨wc, rfl⟩
    subst hVA
    have HA := hid hA
    have XA := hid (XL.out.trans hxA)
    have HOLA := hid (HOL.out.later hxA)
    clear hA hxA
    go_upto_region 5 with fail
    go_cut [10, 11] from 17 (fun s10 s11 wx => NewOr 33 (accY r2) wx s10 s11 ∧ Ext VA wx)
    case first =>
      go_wp2_with fail
      refine (HOY.out X VA XA.out XX.out).mono ?_
      rintro e w1 ⟨v1, rfl, ho1, hx1⟩
      obtain ⟨b1, d1, rfl⟩ := ho1.shape
      have HO1 := hid ho1
      have X1 := hid hx1
      have HSL := hid ((HOLA.out.later hx1).src)
      clear ho1 hx1
      go_wp2_with (at_builtin; refine app_rows (Y := VA) (X := X) _ rfl _ _ rfl rfl _ _ _ [rowJ 1] rfl rfl HO1.out HSL.out X1.out (by rw [ownJ_len _ r2 _ (by omega)]; simp; omega) ?_; intro v2 w2 hO2 _ hX2; obtain ⟨b2, d2, hv2⟩ := (show OItems VA X w2 v2 (accY r2) from hO2).shape; have HLI := hid ((show OItems VA X w2 v2 (accY r2) from hO2).src); have X2 := hid hX2; subst hv2; clear hO2 hX2)
      refine (HNY.out b2 d2 _ (HLI.out.lie (XA.out.trans X2.out))).mono ?_
      rintro e w3 (⟨ev, b, rfl, _, hx3⟩ | ⟨hg, kb, mb, lv, rfl, hkm, hx3⟩)
      · have X3 := hid (X2.out.trans hx3)
        clear hx3
        go_wp2_with fail
        go_meet
        case rel => exact ⟨.inl ⟨b, rfl, rfl⟩, X3.out⟩
      · have X3 := hid (X2.out.trans hx3)
        have HG := hid hg
        have HKM := hid hkm
        clear hx3 hg hkm
        go_wp2_with fail
        go_meet
        case rel => exact ⟨.inr ⟨_, kb, mb, lv, rfl, rfl, HG.out, HKM.out⟩, X3.out⟩
    case rest =>
      obtain ⟨hB, hxB⟩ := hcut
      obtain ⟨VB, hVB⟩ : ∃ VB, VB = wc := ⟨wc, rfl⟩
      subst hVB
      have XB := hid (XX.out.trans (XA.out.trans hxB))
      have YB := hid (XA.out.trans hxB)
      have HA := hid (HA.out.later hxB)
      have HB := hid hB
      clear hB hxB HOL HOLA HNX HNY
      rcases HA.out with ⟨p, rfl, rfl⟩ | ⟨B1, kb1, mb1, lv1, rfl, rfl, hg1, hk1⟩
      · have n1 := fun w => eqErr 137 (.pointer (some ⟨p, 0, none⟩)) w
        rcases HB.out with ⟨p2, rfl, rfl⟩ | ⟨B2, kb2, mb2, lv2, rfl, rfl, hg2, hk2⟩
        · have n2 := fun w => eqErr 137 (.pointer (some ⟨p2, 0, none⟩)) w
          go_wp2_with fail
          go_ret
          exact ⟨rfl, XB.out⟩
        · clear hg2 hk2
          go_wp2_with fail
          go_ret
          exact ⟨rfl, XB.out⟩
      · rcases HB.out with ⟨p2, rfl, rfl⟩ | ⟨B2, kb2, mb2, lv2, rfl, rfl, hg2, hk2⟩
        · have n2 := fun w => eqErr 137 (.pointer (some ⟨p2, 0, none⟩)) w
          clear hg1 hk1
          go_wp2_with fail
          go_ret
          exact ⟨rfl, XB.out⟩
        · have HG1 := hid hg1
          have HG2 := hid hg2
          have HK1 := hid hk1
          have HK2 := hid hk2
          clear hg1 hg2 hk1 hk2 HA HB
          obtain ⟨m1, hm1⟩ : ∃ m1, min r1.length 9 = m1 := ⟨_, rfl⟩
          obtain ⟨m2, hm2⟩ : ∃ m2, min r2.length 9 = m2 := ⟨_, rfl⟩
          have q1 : (m1 : Int) ≤ 9 := by omega
          have q2 : (m2 : Int) ≤ 9 := by omega
          have HMA := hid (fun w1 h => makeA 0 w1 (HK1.out.later h) (accX_ix r1) (by rw [accX_len]; omega) (accX_at r1 _))
          have HMB := hid (fun w1 h => makeB (min r2.length 9) w1 (HK2.out.later h) (accY_ix r2) (by rw [accY_len]; omega) (accY_at r2 _))
          have HRA := hid (fun w1 h => (rows_any w1 (HK1.out.later h) (by rw [accX_len]; omega) (fun r hr => (HG1.out r hr).len)).mono (R' := fun e w' => ∃ ao c, e = .returned (.slice ao (m1 + 1) c) ∧ Ext w1 w') (fun e w' ⟨ao, c, h1, _, h2⟩ => ⟨ao, c, by rw [h1, accX_len, hm1], h2⟩))
          have HRB := hid (fun w1 h => (rows_any w1 (HK2.out.later h) (by rw [accY_len]; omega) (fun r hr => (HG2.out r hr).len)).mono (R' := fun e w' => ∃ ao c, e = .returned (.slice ao (m2 + 1) c) ∧ Ext w1 w') (fun e w' ⟨ao, c, h1, _, h2⟩ => ⟨ao, c, by rw [h1, accY_len, hm2], h2⟩))
          have HO1 := hid (fun w1 h => (HOX.out w w1 h (Ext.refl _)).mono (R' := fun e w' => ∃ ao c, e = .returned (.slice ao m1 c) ∧ Ext w1 w') (fun e w' ⟨v, h1, h2, h3⟩ => by
            obtain ⟨ao, c, hv⟩ := h2.shape
            rw [ownJ_len _ r1 _ (by omega), hm1] at hv
            exact ⟨ao, c, by rw [h1, hv], h3⟩))
          have HO2 := hid (fun w1 h => (HOY.out w w1 h (Ext.refl _)).mono (R' := fun e w' => ∃ ao c, e = .returned (.slice ao m2 c) ∧ Ext w1 w') (fun e w' ⟨v, h1, h2, h3⟩ => by
            obtain ⟨ao, c, hv⟩ := h2.shape
            rw [ownJ_len _ r2 _ (by omega), hm2] at hv
            exact ⟨ao, c, by rw [h1, hv], h3⟩))
          unfold bYes at HMA HMB
          clear hm1 hm2 HOX HOY HG1 HG2 HK1 HK2
          go_wp2_with fail
          go_loopw [12] (fun q12 wr => ∃ j : Nat, j ≤ n3 ∧ q12 = .int .i64 j ∧ Ext VB wr) (fun q12 _ => n3 - (intOf q12).toNat)
          case atStart => exact ⟨0, Nat.zero_le _, rfl, Ext.refl _⟩
          case round =>
            obtain ⟨j, hj, rfl, hx⟩ := hrel
            have HX := hid hx
            clear hx
            by_cases hlt : j < n3
            · have hlt' : (j : Int) < n3 := by omega
              by_cases h50 : j < 50
              · have h50' : (j : Int) < 50 := by omega
                obtain ⟨g, off, b, rfl, hc⟩ := HBO.out j hlt
                have HC := hid (show ∀ W', Ext VB W' → W'.cell? ⟨g, off + j, none⟩ = some (.bool b) from fun W' X => ((XB.out.trans X).kp (fun _ => True)).cell hc trivial)
                have hgl := lt_of_cell hc
                clear hc
                go_wp2_with fail
                refine (HO1.out _ (XB.out.trans HX.out)).mono ?_
                rintro e w1 ⟨b1, d1, rfl, hx1⟩
                have X1 := hid (HX.out.trans hx1)
                clear hx1
                have p0 := HC.out _ X1.out
                cases b
                · go_wp2_with fail
                  refine (HMA.out _ X1.out).mono ?_
                  rintro e w2 ⟨q, rfl, hx2⟩
                  have X2 := hid (X1.out.trans hx2)
                  clear hx2 p0
                  go_wp2_with fail
                  refine (HRA.out _ X2.out).mono ?_
                  rintro e w3 ⟨ao, cc, rfl, hx3⟩
                  have X3 := hid (X2.out.trans hx3)
                  clear hx3
                  have p0 := HC.out _ X3.out
                  go_wp2_with fail
                  go_roundw
                  case rel => exact ⟨j + 1, hlt, by go_num, X3.out⟩
                  case measure => simp [intOf]; omega
                · go_wp2_with fail
                  refine (HO2.out _ (XB.out.trans X1.out)).mono ?_
                  rintro e w2 ⟨b2, d2, rfl, hx2⟩
                  have X2 := hid (X1.out.trans hx2)
                  clear hx2 p0
                  go_wp2_with fail
                  refine (HMB.out _ X2.out).mono ?_
                  rintro e w3 ⟨p, rfl, hp, hx3⟩
                  have X3 := hid (X2.out.trans hx3)
                  have HP := hid hp
                  clear hx3 hp
                  go_wp2_with fail
                  refine (HRB.out _ X3.out).mono ?_
                  rintro e w4 ⟨ao, cc, rfl, hx4⟩
                  have X4 := hid (X3.out.trans hx4)
                  have HP4 := hid ((hx4.kp (fun _ => True)).cell HP.out trivial)
                  clear hx4
                  have p0 := HC.out _ X4.out
                  go_wp2_with fail
                  refine (fcode_any p 12 _ HP4.out).mono ?_
                  rintro e w5 ⟨rfl, hx5⟩
                  have X5 := hid (X4.out.trans hx5)
                  clear hx5 p0
                  have p0 := HC.out _ X5.out
                  go_wp2_with fail
                  go_roundw
                  case rel => exact ⟨j + 1, hlt, by go_num, X5.out⟩
                  case measure => simp [intOf]; omega
              · have h50' : ¬ (j : Int) < 50 := by omega
                go_wp2_with fail
                go_ret
                exact ⟨rfl, XB.out.trans HX.out⟩
            · have hlt3 : ¬ (j : Int) < n3 := by omega
              go_wp2_with fail
              go_ret
              exact ⟨rfl, XB.out.trans HX.out⟩
end Go.Proofs.YtaodkfchmaendaaGreatDoor.Nd
