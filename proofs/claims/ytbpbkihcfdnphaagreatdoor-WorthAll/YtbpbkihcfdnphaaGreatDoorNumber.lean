/-
  The reader's number by a contract.
-/
import Derived.Test.YtbpbkihcfdnphaaGreatDoorWord
import Derived.Lib.ParseIntB
namespace Go.Proofs.YtbpbkihcfdnphaaGreatDoor
open Go.RowKit
/-- What a value's text is read as: a value and where it ends; or what is amiss, and where. -/
inductive Rs where
  | ok (t : T) (i : Nat)
  | bad (e i : Nat)
/-- What the reader's calls answer. -/
def RsP (w : World) (b : Nat) (s : ByteArray) (n d : Nat) (r : Rs) (e : Ending) (w' : World) : Prop := Kp (· ≠ b) w w' ∧
  match r with
  | .ok t i => ∃ u bs, e = .returned (.tuple #[u, .int .i64 0]) ∧ VOwn w' d u t bs ∧ (∀ x ∈ bs, w.heap.size ≤ x) ∧ bs.Nodup ∧ RdAt w' b s i n ∧ i ≤ s.size
  | .bad c i => e = .returned (.tuple #[.nilIface, .int .i64 c]) ∧ RdAt w' b s i n ∧ i ≤ s.size ∧ c ≠ 0
def digP (c : Nat) : Prop := 48 ≤ c ∧ c ≤ 57
instance (c : Nat) : Decidable (digP c) := by unfold digP; exact inferInstance
/-- Where the digits end. -/
def digEnd (s : ByteArray) (i : Nat) : Nat := if i < s.size ∧ digP (nxt s i) then digEnd s (i + 1) else i
termination_by s.size - i
theorem digEnd_of (s : ByteArray) : ∀ (k i : Nat), (∀ q, i ≤ q → q < i + k → q < s.size ∧ digP (nxt s q)) → ¬ (i + k < s.size ∧ digP (nxt s (i + k))) → digEnd s i = i + k
  | 0, i, _, h2 => by rw [Nat.add_zero] at h2; unfold digEnd; rw [if_neg h2]; rfl
  | k + 1, i, h1, h2 => by
    unfold digEnd
    rw [if_pos (h1 i (Nat.le_refl _) (by omega)), digEnd_of s k (i + 1) (fun q a b => h1 q (by omega) (by omega)) (by rw [show i + 1 + k = i + (k + 1) by omega]; exact h2)]
    omega
def numAt (s : ByteArray) (i : Nat) : Nat := if nxt s i = 45 then i + 1 else i
def numR (s : ByteArray) (i : Nat) : Rs :=
  if nxt s (numAt s i) = 48 ∧ ¬ nxt s i = 45 then .ok (.node 3 0 ⟨#[]⟩ []) (numAt s i + 1)
  else if nxt s (numAt s i) = 48 ∨ ¬ digP (nxt s (numAt s i)) then .bad 5 (numAt s i)
  else match Lib.parseIntB 64 (s.extract i (digEnd s (numAt s i))).data.toList with
    | .ok v => .ok (.node 3 v ⟨#[]⟩ []) (digEnd s (numAt s i))
    | _ => .bad 21 i
/-- ParseInt at the text of a number. -/
def ParTo (s : ByteArray) (i : Nat) (w' : World) : Prop := Calls Tryz.prog 75 #[.string (s.extract i (digEnd s (numAt s i))), .int .i64 10, .int .i64 64] w' fun e w'' => Ext w' w'' ∧
  match Lib.parseIntB 64 (s.extract i (digEnd s (numAt s i))).data.toList with
  | .ok v => e = .returned (.tuple #[.int .i64 v, .nilIface])
  | _ => ∃ m τ p, e = .returned (.tuple #[.int .i64 m, .iface τ p])
def atOf (b : Nat) (w : World) : Nat := match w.cell? ⟨b, 1, none⟩ with | some v => (intOf v).toNat | none => 0
theorem atOf_rd {w : World} {b : Nat} {s : ByteArray} {i n : Nat} (h : RdAt w b s i n) : atOf b w = i := by
  have c1 : w.cell? ⟨b, 1, none⟩ = some (.int .i64 i) := cell_of h rfl
  unfold atOf
  rw [c1]
  simp [intOf]
theorem VOwn.int (w : World) (d : Nat) (n : Int) : VOwn w (d + 1) (.iface 37 (.int .i64 n)) (.node 3 n ⟨#[]⟩ []) [] := .inr (.inr (.inl ⟨rfl, rfl, rfl, rfl, rfl⟩))
set_option maxRecDepth 100000 in
set_option maxHeartbeats 4000000 in
theorem rnumber_any (w : World) (b : Nat) (s : ByteArray) (i n d : Nat) (h : RdAt w b s i n) (hi : i ≤ s.size) (hs : s.size ≤ 1048576) (HPAR : digP (nxt s (numAt s i)) → ∀ w', Kp (· ≠ b) w w' → ParTo s i w') :
    Calls Tryz.prog 65 #[.pointer (some ⟨b, 0, none⟩)] w (RsP w b s n (d + 1) (numR s i)) := by
  have HH := hid h
  have HT := hid (take_any w b s i n 45 h hi hs)
  have c1 := cell_of (i := 1) h rfl
  simp only [List.getElem_toArray, List.getElem_cons_zero, List.getElem_cons_succ] at c1
  have hA : numAt s i ≤ s.size := by
    unfold numAt
    by_cases h45 : nxt s i = 45
    · rw [if_pos h45]
      rcases Nat.lt_or_ge i s.size with h | h
      · exact h
      · rw [nxt_end (by omega)] at h45; cases h45
    · rw [if_neg h45]; exact hi
  have hbel : decide (nxt s i = 45) = decide (nxt s i = 45) := rfl
  have HRD := hid (show ∀ w', RdAt w' b s (if nxt s i = 45 then i + 1 else i) n → RdAt w' b s (numAt s i) n from fun w' h => h)
  obtain ⟨bel, hbl⟩ : ∃ bel, decide (nxt s i = 45) = bel := ⟨_, rfl⟩
  rw [hbl] at HT
  obtain ⟨f, hf⟩ : ∃ f, nxt s (numAt s i) = f := ⟨_, rfl⟩
  have HP := hid HPAR
  have HN := hid (show numR s i = numR s i from rfl)
  clear h hbel HPAR
  have hff : f < 256 := by
    rw [← hf]; unfold nxt; split
    · exact UInt8.toNat_lt _
    · omega
  go_enter Tryz.func65, Tryz.ntmps65
  go_wp2_with fail
  refine HT.out.mono ?_
  rintro e w1 ⟨rfl, hk1, hs1, hr1⟩
  have HR1 := hid (HRD.out w1 hr1)
  have HK1 := hid hk1
  clear hk1 hs1 hr1 c1
  have HNX := hid (next_any w1 b s (numAt s i) n HR1.out hA hs)
  rw [hf] at HNX
  go_wp2_with fail
  refine HNX.out.mono ?_
  rintro e w2 ⟨rfl, hk2⟩
  obtain ⟨kd, rfl⟩ := hk2
  have HK2 := hid (show Kp (· ≠ b) w (w1.drewN kd) from HK1.out.trans (((Ext.refl w1).drewN kd).kp _))
  have HR2 := hid (((Ext.refl w1).drewN kd).block HR1.out)
  generalize w1.drewN kd = W at *
  by_cases q1 : f = 48 ∧ bel = false
  · obtain ⟨rfl, rfl⟩ := q1
    have HRES := hid (show numR s i = .ok (.node 3 0 ⟨#[]⟩ []) (numAt s i + 1) by unfold numR; rw [if_pos ⟨hf, of_decide_eq_false hbl⟩])
    have hlt : numAt s i < s.size := by
      rcases Nat.lt_or_ge (numAt s i) s.size with h | h
      · exact h
      · rw [nxt_end (by omega)] at hf; cases hf
    have d1 := cell_of (i := 1) HR2.out rfl
    have f1 := frozen_of (i := 1) HR2.out
    simp only [List.getElem_toArray, List.getElem_cons_zero, List.getElem_cons_succ] at d1
    generalize numAt s i = A at *
    go_wp2_with fail
    go_ret2
    rw [HRES.out]
    exact ⟨HK2.out.trans (Kp.set _ _ _ _ (fun h => h rfl)), _, [], rfl, VOwn.int _ _ _, fun x hx => (by cases hx), List.nodup_nil, (set_at HR2.out 1 _).trans rfl, hlt⟩
  by_cases q2 : f = 48 ∨ ¬ digP f
  · have HRES := hid (show numR s i = .bad 5 (numAt s i) by
      unfold numR
      rw [if_neg (fun h => q1 ⟨hf ▸ h.1, by rw [← hbl]; exact decide_eq_false h.2⟩), if_pos (by rw [hf]; exact q2)])
    by_cases f8 : f = 48
    · subst f8
      have hb : bel = true := by cases bel with | true => rfl | false => exact absurd ⟨rfl, rfl⟩ q1
      subst hb
      clear q1 q2
      go_wp2_with fail
      go_ret2
      rw [HRES.out]
      exact ⟨HK2.out, rfl, HR2.out, hA, by decide⟩
    · have e1 : (((f : Nat) : Int) == 48) = false := by rw [beq_eq_false_iff_ne]; omega
      have HD := hid (fun w => digit_any (f : Int) w)
      rw [show decide ((48 : Int) ≤ (f : Int) ∧ (f : Int) ≤ 57) = false from decide_eq_false (fun h => (q2.resolve_left f8) ⟨by omega, by omega⟩)] at HD
      clear q1 q2
      go_wp2_with (go_at_call 64; refine (HD.out _).mono ?_; rintro e w9 ⟨rfl, rfl⟩)
      go_ret2
      rw [HRES.out]
      exact ⟨HK2.out, rfl, HR2.out, hA, by decide⟩
  · have hd : digP f := by by_cases h : digP f; · exact h
                           · exact absurd (.inr h) q2
    have f8 : ¬ f = 48 := fun h => q2 (.inl h)
    have e1 : (((f : Nat) : Int) == 48) = false := by rw [beq_eq_false_iff_ne]; omega
    have HD := hid (fun w => digit_any (f : Int) w)
    rw [show decide ((48 : Int) ≤ (f : Int) ∧ (f : Int) ≤ 57) = true from decide_eq_true ⟨by have := hd.1; omega, by have := hd.2; omega⟩] at HD
    have HRES := hid (show numR s i = match Lib.parseIntB 64 (s.extract i (digEnd s (numAt s i))).data.toList with
        | .ok v => .ok (.node 3 v ⟨#[]⟩ []) (digEnd s (numAt s i))
        | _ => .bad 21 i by
      unfold numR
      rw [if_neg (fun h => f8 (hf ▸ h.1)), if_neg (by rw [hf]; exact q2)])
    have HPP := hid (HP.out (by rw [hf]; exact hd))
    have hia : i ≤ numAt s i := by unfold numAt; split <;> omega
    clear q1 q2 HP
    have HFF := hid hf
    have HDD := hid hd
    clear hf hd
    go_wp2_with (go_at_call 64; refine (HD.out _).mono ?_; rintro e w9 ⟨rfl, rfl⟩)
    go_loopw [] (fun wr => ∃ j : Nat, numAt s i ≤ j ∧ j ≤ s.size ∧ RdAt wr b s j n ∧ Kp (· ≠ b) w wr ∧ (∀ q, numAt s i ≤ q → q < j → q < s.size ∧ digP (nxt s q))) (fun wr => s.size - atOf b wr)
    case atStart => exact ⟨numAt s i, Nat.le_refl _, hA, HR2.out, HK2.out, fun q h1 h2 => by omega⟩
    case round =>
      obtain ⟨j, hj1, hj2, hr, hkp, hall⟩ := hrel
      have HR := hid hr
      have HKP := hid hkp
      have HALL := hid hall
      clear hr hkp hall
      have HNJ := hid (next_any wr b s j n HR.out hj2 hs)
      obtain ⟨g, hg⟩ : ∃ g, nxt s j = g := ⟨_, rfl⟩
      rw [hg] at HNJ
      have HDG := hid (fun w => digit_any (g : Int) w)
      by_cases hd : digP g
      · rw [show decide ((48 : Int) ≤ (g : Int) ∧ (g : Int) ≤ 57) = true from decide_eq_true ⟨by have := hd.1; omega, by have := hd.2; omega⟩] at HDG
        have hlt : j < s.size := by
          rcases Nat.lt_or_ge j s.size with h | h
          · exact h
          · rw [nxt_end (by omega)] at hg; rw [← hg] at hd; have := hd.1; omega
        have HD2 := hid hd
        have HG2 := hid hg
        clear hd hg HD
        go_wp2_with fail
        refine HNJ.out.mono ?_
        rintro e w2 ⟨rfl, hk2⟩
        obtain ⟨k2, rfl⟩ := hk2
        have HB2 := hid (((Ext.refl wr).drewN k2).block HR.out)
        have d1 := cell_of (i := 1) HB2.out rfl
        have f1 := frozen_of (i := 1) HB2.out
        simp only [List.getElem_toArray, List.getElem_cons_zero, List.getElem_cons_succ] at d1
        have HK3 := hid (HKP.out.trans (((Ext.refl wr).drewN k2).kp _))
        generalize wr.drewN k2 = W2 at *
        go_wp2_with (go_at_call 64; refine (HDG.out _).mono ?_; rintro e w9 ⟨rfl, rfl⟩)
        have HRN := hid (show RdAt _ b s (j + 1) n from (set_at HB2.out 1 (.int .i64 ((j : Int) + 1))).trans rfl)
        go_roundw
        case rel =>
          have REL := (show ∃ j' : Nat, numAt s i ≤ j' ∧ j' ≤ s.size ∧ RdAt _ b s j' n ∧ Kp (· ≠ b) w _ ∧ (∀ q, numAt s i ≤ q → q < j' → q < s.size ∧ digP (nxt s q)) from
            ⟨j + 1, by omega, hlt, HRN.out, HK3.out.trans (Kp.set _ b 1 (.int .i64 ((j : Int) + 1)) (fun h => h rfl)), fun q h1 h2 => by
              rcases Nat.lt_or_eq_of_le (Nat.le_of_lt_succ h2) with e | e
              · exact HALL.out q h1 e
              · subst e; exact ⟨hlt, by rw [HG2.out]; exact HD2.out⟩⟩)
          first | exact REL | ((repeat apply Exists.intro); exact ⟨REL, rfl⟩)
        case measure => rw [atOf_rd HRN.out, atOf_rd HR.out]; omega
      · rw [show decide ((48 : Int) ≤ (g : Int) ∧ (g : Int) ≤ 57) = false from decide_eq_false (fun h => hd ⟨by omega, by omega⟩)] at HDG
        have HE := hid (show digEnd s (numAt s i) = j by
          have e := digEnd_of s (j - numAt s i) (numAt s i) (fun q h1 h2 => HALL.out q h1 (by omega)) (by rw [show numAt s i + (j - numAt s i) = j by omega, hg]; exact fun h => hd h.2)
          rw [e]; omega)
        clear hd hg HD
        go_wp2_with fail
        refine HNJ.out.mono ?_
        rintro e w2 ⟨rfl, hk2⟩
        obtain ⟨k2, rfl⟩ := hk2
        have HB2 := hid (((Ext.refl wr).drewN k2).block HR.out)
        have HK3 := hid (HKP.out.trans (((Ext.refl wr).drewN k2).kp _))
        generalize wr.drewN k2 = W2 at *
        have d0 := cell_of (i := 0) HB2.out rfl
        have d1 := cell_of (i := 1) HB2.out rfl
        simp only [List.getElem_toArray, List.getElem_cons_zero, List.getElem_cons_succ] at d0 d1
        have hij : (i : Int) ≤ j := by omega
        have hjs : (j : Int) ≤ s.size := by omega
        have hi0 : (0 : Int) ≤ i := by omega
        have HPJ := hid (show ∀ w', Kp (· ≠ b) w w' → Calls Tryz.prog 75 #[.string (s.extract i j), .int .i64 10, .int .i64 64] w' fun e w'' => Ext w' w'' ∧
            match Lib.parseIntB 64 (s.extract i j).data.toList with
            | .ok v => e = .returned (.tuple #[.int .i64 v, .nilIface])
            | _ => ∃ m τ p, e = .returned (.tuple #[.int .i64 m, .iface τ p]) by
          have h := HPP.out
          simp only [ParTo, HE.out] at h
          exact h)
        rw [HE.out] at HRES
        have hw9 := lt_of_cell d0
        by_cases hok : ∃ v, Lib.parseIntB 64 (s.extract i j).data.toList = .ok v
        · obtain ⟨v, hp⟩ := hok
          simp only [hp] at HPJ HRES
          clear hp HE HPP
          go_wp2_with (go_at_call 64; refine (HDG.out _).mono ?_; rintro e w9 ⟨rfl, rfl⟩)
          go_region_held3 (fun W' => W'.cell? ⟨b, 0, none⟩ = some (.string s) ∧ W'.cell? ⟨b, 1, none⟩ = some (.int .i64 j)) (first | exact ⟨x0, x1⟩ | exact ⟨d0, d1⟩ | go_keep) (first | (go_at_call 75; refine (HPJ.out _ HK3.out.drew).mono ?_; rintro e w3 ⟨hx3, rfl⟩; have HB3 := hid (hx3.block HB2.out); have x0 := cell_of (i := 0) HB3.out rfl; have x1 := cell_of (i := 1) HB3.out rfl; simp only [List.getElem_toArray, List.getElem_cons_zero, List.getElem_cons_succ] at x0 x1))
          all_goals
            go_wp2_with fail
            go_ret2
            rw [HRES.out]
            exact ⟨HK3.out.drew.trans (hx3.kp _), _, [], rfl, VOwn.int _ _ _, fun x hx => (by cases hx), List.nodup_nil, HB3.out, hj2⟩
        · obtain ⟨HPB, HRB⟩ : Hid (∀ w', Kp (· ≠ b) w w' → Calls Tryz.prog 75 #[.string (s.extract i j), .int .i64 10, .int .i64 64] w' fun e w'' => Ext w' w'' ∧ ∃ m τ p, e = .returned (.tuple #[.int .i64 m, .iface τ p])) ∧ Hid (numR s i = .bad 21 i) := by
            rcases hp : Lib.parseIntB 64 (s.extract i j).data.toList with v | _ | _
            · exact absurd ⟨v, hp⟩ hok
            · simp only [hp] at HPJ HRES; exact ⟨HPJ, HRES⟩
            · simp only [hp] at HPJ HRES; exact ⟨HPJ, HRES⟩
          clear HPJ HRES HE HPP hok
          go_wp2_with (go_at_call 64; refine (HDG.out _).mono ?_; rintro e w9 ⟨rfl, rfl⟩)
          go_region_held3 (fun W' => W'.cell? ⟨b, 0, none⟩ = some (.string s) ∧ W'.cell? ⟨b, 1, none⟩ = some (.int .i64 j)) (first | exact ⟨x0, x1⟩ | exact ⟨d0, d1⟩ | go_keep) (first | (go_at_call 75; refine (HPB.out _ HK3.out.drew).mono ?_; rintro e w3 ⟨hx3, mm, τe, pe, rfl⟩; have HB3 := hid (hx3.block HB2.out); have x0 := cell_of (i := 0) HB3.out rfl; have x1 := cell_of (i := 1) HB3.out rfl; have g1 := frozen_of (i := 1) HB3.out; simp only [List.getElem_toArray, List.getElem_cons_zero, List.getElem_cons_succ] at x0 x1))
          all_goals
            go_wp2_with fail
            go_ret2
            rw [HRB.out]
            exact ⟨(HK3.out.drew.trans (hx3.kp _)).trans (Kp.set _ b 1 (.int .i64 (i : Int)) (fun h => h rfl)), rfl, (set_at HB3.out 1 (.int .i64 (i : Int))).trans rfl, hi, by decide⟩
end Go.Proofs.YtbpbkihcfdnphaaGreatDoor
