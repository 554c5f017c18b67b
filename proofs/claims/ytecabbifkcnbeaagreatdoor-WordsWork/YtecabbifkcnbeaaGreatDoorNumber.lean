/-
  The reference's reader: fail, peek, word, digit, each by a contract.
-/
import Derived.Test.YtecabbifkcnbeaaGreatDoorWord
import Derived.Test.YtecabbifkcnbeaaGreatDoorWRefB
import Derived.Test.YtecabbifkcnbeaaGreatDoorShelf
import Derived.Test.YtecabbifkcnbeaaGreatDoorPlainIn
import Derived.Shelf.Strings.BuilderK
import Derived.Lib.ParseIntB
namespace Go.Proofs.YtecabbifkcnbeaaGreatDoor
open Go.RowKit
/-- The byte that stands there; 256 at the end. -/
def pk (s : ByteArray) (i : Nat) : Nat := if h : i < s.size then s[i].toNat else 256
theorem pk_lt {s : ByteArray} {i : Nat} (h : i < s.size) : pk s i = s[i].toNat := dif_pos h
theorem pk_end {s : ByteArray} {i : Nat} (h : ¬ i < s.size) : pk s i = 256 := dif_neg h
theorem pk_nxt {s : ByteArray} {i : Nat} {c : Nat} (h0 : c ≠ 0) (h1 : c < 256) : pk s i = c ↔ nxt s i = c := by
  unfold pk nxt
  split
  · exact Iff.rfl
  · omega
theorem pk_in {s : ByteArray} {i : Nat} (h : pk s i < 256) : i < s.size ∧ pk s i = nxt s i := by
  unfold pk nxt at *
  split at h
  · next hh => rw [dif_pos hh, dif_pos hh]; exact ⟨hh, rfl⟩
  · omega
theorem pk_le (s : ByteArray) (i : Nat) : pk s i ≤ 256 := by
  unfold pk
  split
  · next h => have := s[i].toNat_lt; omega
  · omega
/-- The reference's reader lies at b. -/
def RRAt (w : World) (b : Nat) (s : ByteArray) (i : Nat) (bd er : Int) : Prop := w.heap[b]? = some (.cells #[.string s, .int .i64 i, .int .i64 bd, .int .i64 er] 182)
/-- What the reader's calls leave alone. -/
def Rk (b : Nat) (w w' : World) : Prop := Kp (· ≠ b) w w' ∧ w'.heap.size = w.heap.size
theorem Rk.refl (b : Nat) (w : World) : Rk b w w := ⟨Kp.refl _ _, rfl⟩
theorem Rk.trans {b : Nat} {u v w : World} (h : Rk b u v) (k : Rk b v w) : Rk b u w := ⟨h.1.trans k.1, k.2.trans h.2⟩
theorem Rk.set {b : Nat} {u w : World} (h : Rk b u w) (i : Nat) (v : Value) : Rk b u (w.setCell ⟨b, i, none⟩ v) := ⟨h.1.trans (Kp.set _ _ _ _ (fun h => h rfl)), by simpa using h.2⟩
theorem Rk.drewN {b : Nat} {u w : World} (h : Rk b u w) (k : Nat) : Rk b u (w.drewN k) := ⟨h.1.drewN k, by simpa using h.2⟩
theorem RRAt.set1 {w : World} {b : Nat} {s : ByteArray} {i : Nat} {bd er : Int} (h : RRAt w b s i bd er) (j : Nat) : RRAt (w.setCell ⟨b, 1, none⟩ (.int .i64 j)) b s j bd er := (set_at h 1 _).trans rfl
theorem RRAt.set1' {w : World} {b : Nat} {s : ByteArray} {i : Nat} {bd er : Int} (h : RRAt w b s i bd er) {j : Nat} {v : Int} (hv : v = (j : Int)) : RRAt (w.setCell ⟨b, 1, none⟩ (.int .i64 v)) b s j bd er := by subst hv; exact h.set1 j
theorem RRAt.set2 {w : World} {b : Nat} {s : ByteArray} {i : Nat} {bd er : Int} (h : RRAt w b s i bd er) (j : Int) : RRAt (w.setCell ⟨b, 2, none⟩ (.int .i64 j)) b s i j er := (set_at h 2 _).trans rfl
theorem RRAt.set3 {w : World} {b : Nat} {s : ByteArray} {i : Nat} {bd er : Int} (h : RRAt w b s i bd er) (j : Int) : RRAt (w.setCell ⟨b, 3, none⟩ (.int .i64 j)) b s i bd j := (set_at h 3 _).trans rfl
theorem RRAt.four {w : World} {b : Nat} {s : ByteArray} {i : Nat} {bd er : Int} (h : RRAt w b s i bd er) : Four w b 0 (.string s) (.int .i64 i) (.int .i64 bd) (.int .i64 er) := four_of h
theorem RRAt.free {w : World} {b : Nat} {s : ByteArray} {i : Nat} {bd er : Int} (h : RRAt w b s i bd er) (k : Nat) : w.frozen? ⟨b, k, none⟩ = false := frozen_of h
theorem RRAt.drewN {w : World} {b : Nat} {s : ByteArray} {i : Nat} {bd er : Int} (h : RRAt w b s i bd er) (k : Nat) : RRAt (w.drewN k) b s i bd er := ((Ext.refl w).drewN k).block h
set_option maxRecDepth 100000 in
set_option maxHeartbeats 1000000 in
theorem fail_any (w : World) (b : Nat) (s : ByteArray) (i : Nat) (bd : Int) (e at' : Int) (h : RRAt w b s i bd 0) :
    Calls Tryz.prog 114 #[.pointer (some ⟨b, 0, none⟩), .int .i64 e, .int .i64 at'] w fun r w' => r = .returned (.tuple #[]) ∧ Rk b w w' ∧ RRAt w' b s i at' e := by
  have HH := hid h
  obtain ⟨c0, c1, c2, c3⟩ := h.four
  have f3 := h.free 3
  have f2 := (h.set3 e).free 2
  have c4 := (h.set3 e).four.2.2.1
  clear h
  go_enter Tryz.func114, Tryz.ntmps114
  go_wp2_with fail
  go_end0
  exact ⟨rfl, ((Rk.refl b w).set 3 _).set 2 _, (HH.out.set3 e).set2 at'⟩
set_option maxRecDepth 100000 in
set_option maxHeartbeats 1000000 in
theorem peek_any (w : World) (b : Nat) (s : ByteArray) (i : Nat) (bd er : Int) (h : RRAt w b s i bd er) (hi : i ≤ s.size) (hs : s.size ≤ 1048576) :
    Calls Tryz.prog 152 #[.pointer (some ⟨b, 0, none⟩)] w fun e w' => e = .returned (.int .i64 (pk s i)) ∧ ∃ k, w' = w.drewN k := by
  have c0 : w.cell? ⟨b, 0, none⟩ = some (.string s) := h.four.1
  have c1 : w.cell? ⟨b, 1, none⟩ = some (.int .i64 i) := h.four.2.1
  clear h
  have hs' : (s.size : Int) ≤ 1048576 := by omega
  by_cases he : i < s.size
  · have HE := hid (pk_lt he)
    have q : ((i : Int) == (s.size : Int)) = false := by rw [beq_eq_false_iff_ne]; omega
    have he' : (i : Int) < s.size := by omega
    have he0 : (0 : Int) ≤ i := by omega
    have hz : IntKind.i64.wrap ((s[i].toNat : Nat) : Int) = ((s[i].toNat : Nat) : Int) := by rw [IntKind.wrap_i64]; have := s[i].toNat_lt; omega
    go_enter Tryz.func152, Tryz.ntmps152
    go_wp2_with fail
    go_quiet (fail)
    go_wp2_with fail
    go_quiet (fail)
    go_wp2_with fail
    go_ret
    exact ⟨by rw [HE.out]; rfl, _, World.drewN_drewN _ _ _⟩
  · have hie : i = s.size := by omega
    have HE := hid (pk_end he)
    subst hie
    clear he
    go_enter Tryz.func152, Tryz.ntmps152
    go_wp2_with fail
    go_quiet (fail)
    go_wp2_with fail
    go_ret
    exact ⟨by rw [HE.out]; rfl, _, rfl⟩
/-- What a byte is as one of 16. -/
def dgV (c : Nat) : Int := if c = 256 then -1 else hexV c
theorem dgV_at : ∀ r : Fin 16, dgV ((hexL.getD r.1 0).toNat) = (r.1 : Int) := by decide
set_option maxRecDepth 100000 in
theorem dgV_none : ∀ c : Fin 257, (∀ k : Fin 16, (hexL.getD k.1 0).toNat ≠ c.1) → dgV c.1 = -1 := by decide
theorem dgV_pk (s : ByteArray) (i : Nat) : dgV (pk s i) = hexV (nxt s i) := by
  unfold dgV
  rcases Nat.lt_or_ge i s.size with h | h
  · have := pk_lt h
    have := s[i].toNat_lt
    rw [if_neg (by omega), pk_lt h, nxt_lt h]
  · rw [if_pos (pk_end (by omega)), nxt_end (by omega)]
    decide
set_option maxRecDepth 100000 in
set_option maxHeartbeats 1000000 in
theorem digit16_any (w : World) (c : Nat) (hc : c ≤ 256) : Calls Tryz.prog 239 #[.int .i64 c] w fun e w' => e = .returned (.int .i64 (dgV c)) ∧ w' = w := by
  go_enter Tryz.func239, Tryz.ntmps239
  go_wp2_with fail
  go_loopw [3] (fun q wr => ∃ j : Nat, j ≤ 16 ∧ q = .int .i64 j ∧ wr = w ∧ ∀ k, k < j → (hexL.getD k 0).toNat ≠ c) (fun q _ => 16 - (intOf q).toNat)
  case atStart => exact ⟨0, Nat.zero_le _, rfl, rfl, fun k h => absurd h (Nat.not_lt_zero _)⟩
  case round =>
    obtain ⟨j, hj, rfl, rfl, hall⟩ := hrel
    have HALL := hid hall
    clear hall
    by_cases hlt : j < 16
    · have hlt' : (j : Int) < 16 := by omega
      have hj0 : (0 : Int) ≤ j := by omega
      have HX := hid (hex_at j hlt)
      have hz : IntKind.i64.wrap (((hexL.getD j 0).toNat : Nat) : Int) = (((hexL.getD j 0).toNat : Nat) : Int) := by rw [IntKind.wrap_i64]; have := (hexL.getD j 0).toNat_lt; omega
      have HAT := hid (dgV_at ⟨j, hlt⟩)
      by_cases hm : (hexL.getD j 0).toNat = c
      · have HR := hid (show dgV c = j by rw [← hm]; exact HAT.out)
        have hx1 := HX.out
        generalize hexL.getD j 0 = B at *
        subst hm
        go_wp2_with fail
        go_ret
        exact ⟨by rw [HR.out]; rfl, rfl⟩
      · have HN := hid (show ∀ k, k < j + 1 → (hexL.getD k 0).toNat ≠ c from fun k hk => by
          rcases Nat.lt_or_eq_of_le (Nat.le_of_lt_succ hk) with e | e
          · exact HALL.out k e
          · subst e; exact hm)
        have hx1 := HX.out
        generalize hexL.getD j 0 = B at *
        have hm2 : (((B.toNat : Nat) : Int) == (c : Int)) = false := by rw [beq_eq_false_iff_ne]; omega
        have hm3 : ¬ ((B.toNat : Nat) : Int) = (c : Int) := by omega
        go_wp2_with fail
        go_roundw
        case rel => first | exact ⟨j + 1, hlt, by go_num, rfl, HN.out⟩ | exact ⟨j + 1, hlt, by go_num, HN.out⟩ | exact ⟨j + 1, hlt, by go_num, trivial, HN.out⟩
        case measure => simp [intOf]; omega
    · have hje : j = 16 := by omega
      have HR := hid (show dgV c = -1 from dgV_none ⟨c, by omega⟩ (fun k => HALL.out k.1 (by omega)))
      subst hje
      go_wp2_with fail
      go_ret
      exact ⟨by rw [HR.out]; rfl, rfl⟩
/-- What word leaves. -/
def WdP (w : World) (b : Nat) (s : ByteArray) (i : Nat) (bd : Int) (W m : Nat) (w' : World) : Prop := Rk b w w' ∧ i + W ≤ s.size ∧ (W = m ∧ RRAt w' b s (i + W) bd 0 ∨ W ≠ m ∧ RRAt w' b s (i + W) ((i + W : Nat) : Int) 5)
set_option maxRecDepth 100000 in
set_option maxHeartbeats 2000000 in
theorem rword_any (w : World) (b : Nat) (s : ByteArray) (i : Nat) (bd : Int) (x : ByteArray) (h : RRAt w b s i bd 0) (hi : i ≤ s.size) (hs : s.size ≤ 1048576) (hx : x.size ≤ 10) (hx0 : ∀ k, (h : k < x.size) → x[k].toNat ≠ 0) :
    Calls Tryz.prog 153 #[.pointer (some ⟨b, 0, none⟩), .string x] w fun e w' => e = .returned (.tuple #[]) ∧ WdP w b s i bd (wordK s i x.data.toList) x.size w' := by
  have hxl : x.data.toList.length = x.size := by rw [Array.length_toList]; rfl
  obtain ⟨W, hW⟩ : ∃ W, wordK s i x.data.toList = W := ⟨_, rfl⟩
  rw [hW]
  have HK := hid (show ∀ j, j ≤ x.size → (∀ k, (h : k < x.size) → k < j → nxt s (i + k) = x[k].toNat) → (j = x.size ∨ ∃ h : j < x.size, nxt s (i + j) ≠ x[j].toNat) → W = j from fun j h1 h2 h3 => by
    rw [← hW]
    refine wordK_of s x.data.toList i j (by omega) (fun k h hk => ?_) ?_
    · rw [Array.getElem_toList]; exact h2 k (by omega) hk
    · rcases h3 with h3 | ⟨h, h3⟩
      · exact .inl (by omega)
      · exact .inr ⟨by omega, by rw [Array.getElem_toList]; exact h3⟩)
  clear hW
  have HX0 := hid hx0
  have HH := hid h
  have hx' : (x.size : Int) ≤ 10 := by omega
  clear h hx0
  go_enter Tryz.func153, Tryz.ntmps153
  go_wp2_with fail
  go_loopw [4] (fun q wr => ∃ j : Nat, j ≤ x.size ∧ q = .int .i64 j ∧ RRAt wr b s (i + j) bd 0 ∧ i + j ≤ s.size ∧ Rk b w wr ∧ (∀ k, (h : k < x.size) → k < j → nxt s (i + k) = x[k].toNat)) (fun q _ => x.size - (intOf q).toNat)
  case atStart => exact ⟨0, Nat.zero_le _, rfl, HH.out, hi, Rk.refl _ _, fun k _ h => absurd h (Nat.not_lt_zero _)⟩
  case round =>
    obtain ⟨j, hj, rfl, hr, hij, hkp, hall⟩ := hrel
    have HR := hid hr
    have HKP := hid hkp
    have HALL := hid hall
    clear hr hkp hall
    by_cases hlt : j < x.size
    · have hlt' : (j : Int) < x.size := by omega
      have hj0 : (0 : Int) ≤ j := by omega
      have HXJ := hid (HX0.out j hlt)
      obtain ⟨B, hB⟩ : ∃ B, x[j] = B := ⟨_, rfl⟩
      have hB2 : x.data[j]'hlt = B := hB
      have hz : IntKind.i64.wrap ((B.toNat : Nat) : Int) = ((B.toNat : Nat) : Int) := by rw [IntKind.wrap_i64]; have := B.toNat_lt; omega
      rw [hB] at HXJ
      have HPN := hid (pk_nxt (s := s) (i := i + j) HXJ.out B.toNat_lt)
      obtain ⟨p, hp⟩ : ∃ p, i + j = p := ⟨_, rfl⟩
      rw [hp] at HR HPN hij
      have HPE := hid hp
      clear hp
      have HP := hid (fun k => peek_any (wr.drewN k) b s p bd 0 (HR.out.drewN k) hij hs)
      obtain ⟨c0, c1, c2, c3⟩ := HR.out.four
      have f1 := HR.out.free 1
      have hps : (p : Int) + 1 ≤ 1048577 := by omega
      go_upto_region 3 with fail
      by_cases hm : pk s p = B.toNat
      · have HM := hid (show nxt s (i + j) = x[j].toNat by rw [hB, HPE.out]; exact HPN.out.1 hm)
        have hin : p < s.size := (pk_in (by have := B.toNat_lt; omega)).1
        rw [hm] at HP
        clear hm HPN
        go_quiet (first | (go_at_call 152; exact Calls.quiet_of (HP.out _)))
        go_wp2_with fail
        go_roundw
        case rel =>
          refine ⟨j + 1, hlt, by go_num, ?_, by have := HPE.out; omega, (HKP.out.drewN _).set 1 _, fun k h hk => ?_⟩
          · rw [show i + (j + 1) = p + 1 by have := HPE.out; omega]
            exact RRAt.set1' (HR.out.drewN _) (by omega)
          · rcases Nat.lt_or_eq_of_le (Nat.le_of_lt_succ hk) with e | e
            · exact HALL.out k h e
            · subst e; exact HM.out
        case measure => simp [intOf]; omega
      · have hne : ¬ nxt s (i + j) = x[j].toNat := by rw [hB, HPE.out]; exact fun h => hm (HPN.out.2 h)
        have HW := hid (HK.out j hj HALL.out (.inr ⟨hlt, hne⟩))
        have q1 : (((pk s p : Nat) : Int) != (B.toNat : Int)) = true := by simp; omega
        have q2 : ¬ ((pk s p : Nat) : Int) = (B.toNat : Int) := by omega
        have HF := hid (fun k => fail_any (wr.drewN k) b s p bd 5 p (HR.out.drewN k))
        clear hne HPN
        go_quiet (first | (go_at_call 152; exact Calls.quiet_of (HP.out _)))
        go_wp2_with (first | (go_at_call 114; refine (HF.out _).mono ?_; rintro e w2 ⟨rfl, hk2, hr2⟩))
        refine bodyPost_ret (results_none rfl _ _ _) rfl ?_
        rw [HW.out]
        refine ⟨rfl, (HKP.out.drewN _).trans hk2, by have := HPE.out; omega, .inr ⟨by omega, ?_⟩⟩
        rw [HPE.out]
        exact hr2
    · have hje : j = x.size := by omega
      have HW := hid (HK.out j hj HALL.out (.inl hje))
      go_wp2_with fail
      go_end0
      rw [HW.out]
      exact ⟨rfl, HKP.out, hij, .inl ⟨hje, HR.out⟩⟩
end Go.Proofs.YtecabbifkcnbeaaGreatDoor
/-
  In this seat the strings.Builder's laws, where they are needed, stand in Shelf.
-/
namespace Go.Proofs.YtecabbifkcnbeaaGreatDoor
end Go.Proofs.YtecabbifkcnbeaaGreatDoor
/-
  strings.Builder's writers (a builder that is this call's own), by contracts.
-/
namespace Go.Proofs.YtecabbifkcnbeaaGreatDoor
open Go.RowKit Go.Shelf

theorem sizeBuilder : (Tryz.prog.info? 233).map (·.size) = some 2 := by kernel_rfl
theorem liesBuilder : liesAt Tryz.prog Tryz.prog.depth 233 (2 / Tryz.prog.cellsOf 233) 0 233 1 = true := by kernel_rfl
theorem infoByte : (Tryz.prog.info? 5).map (fun i => (i.zero, i.size, i.bytes)) = some (some (.int .u8 0), 1, 1) := by kernel_rfl
set_option maxRecDepth 100000 in
theorem copyCheck_used (b : Nat) (w : World) (h0 : w.cell? ⟨b, 0, none⟩ = some (.pointer (some ⟨b, 0, none⟩))) :
    Calls Tryz.prog 178 #[.pointer (some ⟨b, 0, none⟩)] w fun e w' => e = .returned (.tuple #[]) ∧ w' = w := by
  obtain ⟨j, hj, _⟩ := Option.map_eq_some_iff.1 sizeBuilder
  go_enter Tryz.func178, Tryz.ntmps178
  go_wp2
  rw [Lib.run_neq_ptr_same w _ Tryz.underlying231 hj]
  go_wp2
  go_end0
  exact ⟨rfl, rfl⟩
set_option maxRecDepth 100000 in
theorem copyCheck_fresh (b : Nat) (w : World) (h0 : w.cell? ⟨b, 0, none⟩ = some (.pointer none)) (hsh : w.shape? b = some (233, 2)) (hfz : w.frozen? ⟨b, 0, none⟩ = false) :
    Calls Tryz.prog 178 #[.pointer (some ⟨b, 0, none⟩)] w fun e w' => e = .returned (.tuple #[]) ∧ w' = w.setCell ⟨b, 0, none⟩ (.pointer (some ⟨b, 0, none⟩)) := by
  obtain ⟨j, hj, hjs⟩ := Option.map_eq_some_iff.1 sizeBuilder
  go_enter Tryz.func178, Tryz.ntmps178
  go_wp2
  rw [Lib.run_to_unsafe w ⟨b, 0, none⟩ Tryz.underlying231 Tryz.underlying361 hj (by rw [hjs]; decide) hsh (Nat.zero_lt_succ 1)]
  simp only [Result.andThen]
  rw [Oper.upon_value]
  go_wp2
  rw [run_callFunc_extern Tryz.func227 (by kernel_rfl) (by kernel_rfl) (by kernel_rfl) (e := Extern.AbiNoEscape.same) (by kernel_rfl)]
  rw [Lib.run_noEscape]
  simp only [Result.andThen]
  rw [Oper.upon_value]
  go_wp2
  rw [Lib.run_from_unsafe w ⟨b, 0, none⟩ Tryz.underlying361 Tryz.underlying231 hj hsh liesBuilder]
  simp only [Result.andThen]
  rw [Oper.upon_value]
  go_wp2
  go_end0
  exact ⟨rfl, rfl⟩
/-- Behind it the builder holds its own address. -/
theorem copyCheck_any (B b : Nat) (bs : List Value) (w : World) (h : Lib.IsBuilderF 233 5 B b bs w) :
    Calls Tryz.prog 178 #[.pointer (some ⟨b, 0, none⟩)] w fun e w' => e = .returned (.tuple #[]) ∧ Lib.BuilderAtF 233 5 B b (.pointer (some ⟨b, 0, none⟩)) bs w' ∧ Below B w w' := by
  rcases h with h | h
  · refine (copyCheck_fresh b w h.cell0 h.shape h.frozen0).mono ?_
    rintro e w' ⟨rfl, rfl⟩
    exact ⟨rfl, h.used _, (Below.refl B w).setCell (p := ⟨b, 0, none⟩) h.1 _⟩
  · refine (copyCheck_used b w h.cell0).mono ?_
    rintro e w' ⟨rfl, rfl⟩
    exact ⟨rfl, h, Below.refl B _⟩
theorem row_extF {w w' : World} {base : Nat} {e : TypeId} {v : Value} {n : Nat} {xs : List Value} (h : w.ownsRowF base e 1 v n xs) (hx : Below w.heap.size w w') : w'.ownsRowF base e 1 v n xs := by
  refine ⟨h.1, ?_⟩
  rcases h.2 with h | ⟨g, cap, cur, fz, h1, h2, h3, h4⟩
  · exact .inl h
  · exact .inr ⟨g, cap, cur, fz, h1, h2, (hx.block g (lt_of_block h3)).trans h3, h4⟩
theorem builder_ext {T e : TypeId} {B b : Nat} {bs : List Value} {w w' : World} (h : Lib.IsBuilderF T e B b bs w) (hx : Ext w w') : Lib.IsBuilderF T e B b bs w' := by
  have key : ∀ p, Lib.BuilderAtF T e B b p bs w → Lib.BuilderAtF T e B b p bs w' := fun p ⟨hB, v, hbk, hown, hne⟩ => ⟨hB, v, hx.block hbk, row_extF hown hx, hne⟩
  exact h.elim (fun x => .inl (key _ x)) (fun x => .inr (key _ x))
end Go.Proofs.YtecabbifkcnbeaaGreatDoor
/-
  The reader's number by a contract.
-/
namespace Go.Proofs.YtecabbifkcnbeaaGreatDoor
open Go.RowKit
/-- What a value's text is read as: a value and where it ends; or what is amiss, and where. -/
inductive Rs where
  | ok (t : T) (i : Nat)
  | bad (e i : Nat)
def digP (c : Nat) : Prop := 48 ≤ c ∧ c ≤ 57
instance (c : Nat) : Decidable (digP c) := by unfold digP; exact inferInstance
/-- Where the digits end. -/
def digEnd (s : ByteArray) (i : Nat) : Nat := if i < s.size ∧ digP (nxt s i) then digEnd s (i + 1) else i
termination_by s.size - i
theorem digEnd_of (s : ByteArray) : ∀ (k i : Nat), (∀ q, i ≤ q → q < i + k → q < s.size ∧ digP (nxt s q)) → ¬ (i + k < s.size ∧ digP (nxt s (i + k))) → digEnd s i = i + k
  | 0, i, _, h2 => by rw [Nat.add_zero] at h2; unfold digEnd; rw [if_neg h2]; rfl
  | k + 1, i, h1, h2 => by
    unfold digEnd
    rw [if_pos (h1 i (Nat.le_refl _) (by omega)), digEnd_of s k (i + 1) (fun q a b => h1 q (by omega) (by omega)) (by rw [show i + 1 + k = i + (k + 1) by omega]; exact h2)]
    omega
def numAt (s : ByteArray) (i : Nat) : Nat := if nxt s i = 45 then i + 1 else i
def numR (s : ByteArray) (i : Nat) : Rs :=
  if nxt s (numAt s i) = 48 ∧ ¬ nxt s i = 45 then .ok (.node 3 0 ⟨#[]⟩ []) (numAt s i + 1)
  else if nxt s (numAt s i) = 48 ∨ ¬ digP (nxt s (numAt s i)) then .bad 5 (numAt s i)
  else match Lib.parseIntB 64 (s.extract i (digEnd s (numAt s i))).data.toList with
    | .ok v => .ok (.node 3 v ⟨#[]⟩ []) (digEnd s (numAt s i))
    | _ => .bad 21 i
/-- ParseInt at the text of a number. -/
def ParTo (s : ByteArray) (i : Nat) (w' : World) : Prop := Calls Tryz.prog 106 #[.string (s.extract i (digEnd s (numAt s i))), .int .i64 10, .int .i64 64] w' fun e w'' => Ext w' w'' ∧
  match Lib.parseIntB 64 (s.extract i (digEnd s (numAt s i))).data.toList with
  | .ok v => e = .returned (.tuple #[.int .i64 v, .nilIface])
  | _ => ∃ m τ p, e = .returned (.tuple #[.int .i64 m, .iface τ p])
def atOf (b : Nat) (w : World) : Nat := match w.cell? ⟨b, 1, none⟩ with | some v => (intOf v).toNat | none => 0
theorem VOwn.int (w : World) (d : Nat) (n : Int) : VOwn w (d + 1) (.iface 51 (.int .i64 n)) (.node 3 n ⟨#[]⟩ []) [] := .inr (.inr (.inl ⟨rfl, rfl, rfl, rfl, rfl⟩))
end Go.Proofs.YtecabbifkcnbeaaGreatDoor
