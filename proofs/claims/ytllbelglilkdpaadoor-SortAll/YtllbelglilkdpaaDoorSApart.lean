/-
  The statement's own other, first and apart, each by a contract.
-/
import Derived.Test.YtllbelglilkdpaaDoorSApply
import Derived.Test.YtllbelglilkdpaaDoorSOfF
import Derived.Test.YtllbelglilkdpaaDoorSThere
import Derived.Deep.LoopGhost
namespace Go.Proofs.YtllbelglilkdpaaDoor
open Go.RowKit
abbrev yA : ByteArray := ⟨#[97]⟩
abbrev yY : ByteArray := ⟨#[121]⟩
abbrev yX : ByteArray := ⟨#[120]⟩
/-- A sort with a variable as another one. -/
def renS (t : S) (x y : ByteArray) : S := if (apS t [(x, .node y [])]).1 = 0 then (apS t [(x, .node y [])]).2 else t
/-- What the three answer. -/
def RenR (w : World) (t : S) (e : Ending) (w' : World) : Prop := ∃ v1 d1, e = .returned v1 ∧ SRd (fun _ => True) w' d1 v1 t ∧ Ext w w'
theorem gs_one {w : World} {g : Nat} {x y : ByteArray} {ty : TypeId} (h : w.heap[g]? = some (.cells #[.string x, .string y, .slice none 0 0] ty)) (hx : x.size ≤ 140737488351232) (hy : y.size ≤ 140737488351232) : GsRd (fun _ => True) w 1 (.slice (some ⟨g, 0, none⟩) 1 1) [(x, .node y [])] := by
  refine ⟨_, _, rfl, by show 1 * 56 ≤ 140737488351232; decide, .inr ⟨g, 0, rfl, trivial, fun i hi => ?_⟩⟩
  have hi0 : i = 0 := by
    have : i < 1 := hi
    omega
  subst hi0
  exact ⟨cell_of h rfl, hx, _, _, ⟨cell_of h rfl, cell_of h rfl⟩, none, 0, rfl, hy, by show 0 * 40 ≤ 140737488351232; decide, .inl rfl⟩
/-- What the region of all three leaves. -/
def RenQ (M : World) (r : Int × S) (s3 s4 : Value) (wx : World) : Prop := ∃ q rn ra rk rc E d, s3 = .pointer (some ⟨q, 0, none⟩) ∧ s4 = .int .i64 E ∧ E = r.1 ∧ M.heap.size ≤ q ∧ wx.heap[q]? = some (.cells #[.string rn, .slice ra rk rc] 27) ∧ SRd (fun k => M.heap.size ≤ k) wx d (.agg #[.string rn, .slice ra rk rc]) r.2 ∧ Ext M wx
theorem keep_set {w3 : World} {b d : Nat} {v u0 u1 : Value} {t : S} {L : Nat → Prop} (h : SRd (fun q => q ≠ b ∧ L q) w3 d v t) : SRd L ((w3.setCell ⟨b, 0, none⟩ u0).setCell ⟨b, 1, none⟩ u1) d v t := (h.keep ((Kp.set2 w3 b 0 u0 u1).mono (fun _ _ hk => hk.1))).mono (fun _ _ hk => hk.2)
theorem off_of {M w w3 : World} {b d : Nat} {v : Value} {t : S} {ob : Obj} (h : SRd (fun q => w.heap.size ≤ q) w3 d v t) (hm : M.heap.size ≤ w.heap.size) (hb : w.heap[b]? = some ob) : SRd (fun q => q ≠ b ∧ M.heap.size ≤ q) w3 d v t := h.mono (fun _ _ hk => ⟨Nat.ne_of_gt (Nat.lt_of_lt_of_le (lt_of_block hb) hk), Nat.le_trans hm hk⟩)
theorem keep_new {M w w3 : World} {d : Nat} {v u0 u1 : Value} {t : S} {ob : Obj} (h : SRd (fun q => w.heap.size ≤ q) w3 d v t) (hm : M.heap.size ≤ w.heap.size) : SRd (fun q => M.heap.size ≤ q) (((w3.alloc ob).setCell ⟨w3.heap.size, 0, none⟩ u0).setCell ⟨w3.heap.size, 1, none⟩ u1) d v t := keep_set ((h.mono (L := fun q => q ≠ w3.heap.size ∧ M.heap.size ≤ q) (fun _ hk hK => ⟨Nat.ne_of_lt hk, Nat.le_trans hm hK⟩)).later (Ext.alloc w3 ob))

set_option maxRecDepth 100000 in
set_option maxHeartbeats 4000000 in
theorem other_any {K : Nat → Prop} {d : Nat} {v : Value} {t : S} (w : World) (hr : SRd K w d v t) : Calls Tryd.prog 20 #[v] w (RenR w (renS t yA yY)) := by
  obtain ⟨a, c, rfl⟩ := hr.shape
  have HR := hid hr
  clear hr
  obtain ⟨nt, hnt⟩ : ∃ nt, S.name t = nt := ⟨_, rfl⟩
  obtain ⟨kt, hkt⟩ : ∃ kt, (S.kids t).length = kt := ⟨_, rfl⟩
  rw [hnt, hkt] at HR ⊢
  clear hnt hkt
  obtain ⟨M, hM⟩ : ∃ M, (w.alloc (.cells #[.string nt, .slice a kt c] 27)).alloc (.cells #[.string ⟨#[]⟩, .slice none 0 0] 27) = M := ⟨_, rfl⟩
  have XM := hid (show Ext w M from hM ▸ Ext.alloc2 _ _ _)
  have HM0 := hid (show M.heap[w.heap.size]? = some (.cells #[.string nt, .slice a kt c] 27) from hM ▸ blkOld _ (blk0 _ _))
  have HM1 := hid (show M.heap[w.heap.size + 1]? = some (.cells #[.string ⟨#[]⟩, .slice none 0 0] 27) from hM ▸ blk1 _ _ _)
  have HC := hid (show ∀ W', Ext M W' → (Ext M W' ∧ W'.cell? ⟨w.heap.size, 0, none⟩ = some (.string nt) ∧ W'.cell? ⟨w.heap.size, 1, none⟩ = some (.slice a kt c)) from fun W' X => ⟨X, cell_of (X.block HM0.out) rfl, cell_of (X.block HM0.out) rfl⟩)
  obtain ⟨_, a0, a1⟩ := HC.out M (Ext.refl _)
  go_enter Tryd.func20, Tryd.ntmps20
  go_upto_region 1 with fail
  clear hM
  go_upto_region 1 with fail
  go_cut [3, 4] (fun s3 s4 wx => RenQ M (apS t [(yA, .node yY [])]) s3 s4 wx)
  case first =>
    go_region_held3 (fun W' => Ext M W' ∧ W'.cell? ⟨w.heap.size, 0, none⟩ = some (.string nt) ∧ W'.cell? ⟨w.heap.size, 1, none⟩ = some (.slice a kt c)) (first
      | exact HC.out _ ((Ext.refl M).drew)
      | exact HC.out _ Z2
      | exact HC.out _ Z3
      | exact HC.out _ ((Ext.refl M).drew.trans (Ext.alloc _ _))
      | exact HC.out _ (Z2.trans (Ext.alloc _ _))
      | exact HC.out _ ((Z2.trans (Ext.alloc _ _)).trans (Ext.alloc _ _))
      | exact HC.out _ (Z3.trans (Ext.alloc _ _))
      | exact HC.out _ (ext_set (ext_set Z3 (Ext.refl M).size) (Ext.refl M).size)
      | exact HC.out _ (ext_set (ext_set Z3 Z2.size) Z2.size)
      | exact HC.out _ (ext_set (ext_set Z3 (Nat.le_succ_of_le Z2.size)) (Nat.le_succ_of_le Z2.size))
      | exact HC.out _ (ext_set (ext_set (Z3.trans (Ext.alloc _ _)) Z3.size) Z3.size)) (first
      | (go_at_call 13; refine (named_any yY _).mono ?_; rintro e w2 ⟨rfl, hx2⟩; have Z2 : Ext M w2 := (‹Ext M _ ∧ _›).1.trans hx2; (try (have zz := hid (show w2.heap[M.heap.size]? = some (.cells #[.string ⟨#[]⟩, .slice none 0 0] 27) from hx2.block (blk0 _ (.cells #[.string ⟨#[]⟩, .slice none 0 0] 27))))); clear hx2)
      | (go_at_call 16; refine (apply_any _ (HR.out.later (XM.out.trans (‹Ext M _ ∧ _›).1)) (gs_one (by first | exact blk0 _ (.cells #[.string yA, .string yY, .slice none 0 0] 50) | exact blkOld _ (blk0 _ (.cells #[.string yA, .string yY, .slice none 0 0] 50)) | exact blk1 _ _ (.cells #[.string yA, .string yY, .slice none 0 0] 50)) (by decide) (by decide))).mono ?_; rintro e w3 ⟨r1, k1, rfl, hr3, hx3⟩; obtain ⟨ra, rc, rfl⟩ := hr3.shape; have Z3 : Ext M w3 := (‹Ext M _ ∧ _›).1.trans hx3; have HZS := hid (‹Ext M _ ∧ _›).1.size; have R3 := hid hr3; clear hr3; generalize S.name (apS t [(yA, .node yY [])]).2 = rn at *; generalize (S.kids (apS t [(yA, .node yY [])]).2).length = rk at *; (first | (have zf := blkOld (.cells #[.string yA, .string yY, .slice none 0 0] 50) zz.out; have z3 := hx3.block zf; have R4 := hid (off_of R3.out HZS.out zf); obtain ⟨y0, y1⟩ := two_of z3; obtain ⟨y2, y3⟩ := two_free z3) | (have zf := blkOld (.cells #[.string yA, .string yY, .slice none 0 0] 50) (blk0 w2 (.cells #[.string ⟨#[]⟩, .slice none 0 0] 27)); have z3 := hx3.block zf; have R4 := hid (off_of R3.out HZS.out zf); obtain ⟨y0, y1⟩ := two_of z3; obtain ⟨y2, y3⟩ := two_free z3) | (have zf := blk1 w2 (.cells #[.string yA, .string yY, .slice none 0 0] 50) (.cells #[.string ⟨#[]⟩, .slice none 0 0] 27); have z3 := hx3.block zf; have R4 := hid (off_of R3.out HZS.out zf); obtain ⟨y0, y1⟩ := two_of z3; obtain ⟨y2, y3⟩ := two_free z3) | skip)))
    all_goals
      go_wp2_with fail
      go_meet
      case rel =>
        first
          | exact ⟨_, rn, ra, rk, rc, _, k1, rfl, rfl, rfl, (Ext.refl M).size, two_set z3, keep_set R4.out, ext_set (ext_set Z3 (Ext.refl M).size) (Ext.refl M).size⟩
          | exact ⟨_, rn, ra, rk, rc, _, k1, rfl, rfl, rfl, Z2.size, two_set z3, keep_set R4.out, ext_set (ext_set Z3 Z2.size) Z2.size⟩
          | exact ⟨_, rn, ra, rk, rc, _, k1, rfl, rfl, rfl, Nat.le_succ_of_le Z2.size, two_set z3, keep_set R4.out, ext_set (ext_set Z3 (Nat.le_succ_of_le Z2.size)) (Nat.le_succ_of_le Z2.size)⟩
          | exact ⟨_, rn, ra, rk, rc, _, k1, rfl, rfl, rfl, Z3.size, blk0 _ _, (R3.out.later (Ext.alloc _ _)).mono (fun _ _ hk => Nat.le_trans HZS.out hk), Z3.trans (Ext.alloc _ _)⟩
          | exact ⟨_, rn, ra, rk, rc, _, k1, rfl, rfl, rfl, Z3.size, two_set (blk0 _ _), keep_new R3.out HZS.out, ext_set (ext_set (Z3.trans (Ext.alloc _ _)) Z3.size) Z3.size⟩
  case rest =>
  obtain ⟨q, rn, ra, rk, rc, E, k1, rfl, rfl, hE, hq, hb, hrd, hx⟩ := hcut
  obtain ⟨V, hV⟩ : ∃ V, V = wc := ⟨wc, rfl⟩
  subst hV
  have HE := hid hE
  have HB := hid hb
  have HX := hid hx
  have HRD := hid hrd
  clear a0 a1 hq hb hx hrd hE
  have HR1 := hid (HX.out.block HM1.out)
  obtain ⟨f0, f1⟩ := two_free HR1.out
  obtain ⟨r0, r1⟩ := two_of HR1.out
  have hlt1 := lt_of_block HM1.out
  have hsz := HX.out.size
  have hofo := HR1.out
  by_cases hz : E = 0
  case neg =>
    obtain ⟨n1, n2⟩ := (⟨by rw [bne_iff_ne]; exact hz, by rw [beq_eq_false_iff_ne]; exact hz⟩ : (E != 0) = true ∧ (E == 0) = false)
    have HREN := hid (show renS t yA yY = t from if_neg (by rw [← HE.out]; exact hz))
    clear hz
    obtain ⟨_, a0, a1⟩ := HC.out V HX.out
    go_wp2_with fail
    obtain ⟨z0, z1⟩ := two_of (two_set (u0 := .string nt) (u1 := .slice a kt c) HR1.out)
    refine bodyPost_ret (v := .agg #[.string nt, .slice a kt c]) (by simp [results, Tryd.results20, go_sem, z0, z1]) rfl ?_
    rw [HREN.out]
    refine ⟨_, d, rfl, ?_, Kp.extOf (XM.out.trans HX.out) (Kp.set2 V (w.heap.size + 1) 0 _ _) (by omega)⟩
    exact keep_set ((HR.out.low.later (XM.out.trans HX.out)).mono (fun k _ (hk : k < w.heap.size) => ⟨by show k ≠ w.heap.size + 1; omega, trivial⟩))
  case pos =>
    subst hz
    have HREN := hid (show renS t yA yY = (apS t [(yA, .node yY [])]).2 from if_pos HE.out.symm)
    obtain ⟨c0, c1⟩ := two_of HB.out
    go_wp2_with fail
    obtain ⟨z0, z1⟩ := two_of (two_set (u0 := .string rn) (u1 := .slice ra rk rc) HR1.out)
    refine bodyPost_ret (v := .agg #[.string rn, .slice ra rk rc]) (by simp [results, Tryd.results20, go_sem, z0, z1]) rfl ?_
    rw [HREN.out]
    refine ⟨_, k1, rfl, ?_, Kp.extOf (XM.out.trans HX.out) (Kp.set2 V (w.heap.size + 1) 0 _ _) (by omega)⟩
    exact keep_set (HRD.out.mono (fun k _ (hk : M.heap.size ≤ k) => ⟨by show k ≠ w.heap.size + 1; omega, trivial⟩))
set_option maxRecDepth 100000 in
set_option maxHeartbeats 4000000 in
theorem first_any {K : Nat → Prop} {d : Nat} {v : Value} {t : S} (w : World) (hr : SRd K w d v t) : Calls Tryd.prog 22 #[v] w (RenR w (renS t yY yA)) := by
  obtain ⟨a, c, rfl⟩ := hr.shape
  have HR := hid hr
  clear hr
  obtain ⟨nt, hnt⟩ : ∃ nt, S.name t = nt := ⟨_, rfl⟩
  obtain ⟨kt, hkt⟩ : ∃ kt, (S.kids t).length = kt := ⟨_, rfl⟩
  rw [hnt, hkt] at HR ⊢
  clear hnt hkt
  obtain ⟨M, hM⟩ : ∃ M, (w.alloc (.cells #[.string nt, .slice a kt c] 27)).alloc (.cells #[.string ⟨#[]⟩, .slice none 0 0] 27) = M := ⟨_, rfl⟩
  have XM := hid (show Ext w M from hM ▸ Ext.alloc2 _ _ _)
  have HM0 := hid (show M.heap[w.heap.size]? = some (.cells #[.string nt, .slice a kt c] 27) from hM ▸ blkOld _ (blk0 _ _))
  have HM1 := hid (show M.heap[w.heap.size + 1]? = some (.cells #[.string ⟨#[]⟩, .slice none 0 0] 27) from hM ▸ blk1 _ _ _)
  have HC := hid (show ∀ W', Ext M W' → (Ext M W' ∧ W'.cell? ⟨w.heap.size, 0, none⟩ = some (.string nt) ∧ W'.cell? ⟨w.heap.size, 1, none⟩ = some (.slice a kt c)) from fun W' X => ⟨X, cell_of (X.block HM0.out) rfl, cell_of (X.block HM0.out) rfl⟩)
  obtain ⟨_, a0, a1⟩ := HC.out M (Ext.refl _)
  go_enter Tryd.func22, Tryd.ntmps22
  go_upto_region 1 with fail
  clear hM
  go_upto_region 1 with fail
  go_cut [3, 4] (fun s3 s4 wx => RenQ M (apS t [(yY, .node yA [])]) s3 s4 wx)
  case first =>
    go_region_held3 (fun W' => Ext M W' ∧ W'.cell? ⟨w.heap.size, 0, none⟩ = some (.string nt) ∧ W'.cell? ⟨w.heap.size, 1, none⟩ = some (.slice a kt c)) (first
      | exact HC.out _ ((Ext.refl M).drew)
      | exact HC.out _ Z2
      | exact HC.out _ Z3
      | exact HC.out _ ((Ext.refl M).drew.trans (Ext.alloc _ _))
      | exact HC.out _ (Z2.trans (Ext.alloc _ _))
      | exact HC.out _ ((Z2.trans (Ext.alloc _ _)).trans (Ext.alloc _ _))
      | exact HC.out _ (Z3.trans (Ext.alloc _ _))
      | exact HC.out _ (ext_set (ext_set Z3 (Ext.refl M).size) (Ext.refl M).size)
      | exact HC.out _ (ext_set (ext_set Z3 Z2.size) Z2.size)
      | exact HC.out _ (ext_set (ext_set Z3 (Nat.le_succ_of_le Z2.size)) (Nat.le_succ_of_le Z2.size))
      | exact HC.out _ (ext_set (ext_set (Z3.trans (Ext.alloc _ _)) Z3.size) Z3.size)) (first
      | (go_at_call 13; refine (named_any yA _).mono ?_; rintro e w2 ⟨rfl, hx2⟩; have Z2 : Ext M w2 := (‹Ext M _ ∧ _›).1.trans hx2; (try (have zz := hid (show w2.heap[M.heap.size]? = some (.cells #[.string ⟨#[]⟩, .slice none 0 0] 27) from hx2.block (blk0 _ (.cells #[.string ⟨#[]⟩, .slice none 0 0] 27))))); clear hx2)
      | (go_at_call 16; refine (apply_any _ (HR.out.later (XM.out.trans (‹Ext M _ ∧ _›).1)) (gs_one (by first | exact blk0 _ (.cells #[.string yY, .string yA, .slice none 0 0] 50) | exact blkOld _ (blk0 _ (.cells #[.string yY, .string yA, .slice none 0 0] 50)) | exact blk1 _ _ (.cells #[.string yY, .string yA, .slice none 0 0] 50)) (by decide) (by decide))).mono ?_; rintro e w3 ⟨r1, k1, rfl, hr3, hx3⟩; obtain ⟨ra, rc, rfl⟩ := hr3.shape; have Z3 : Ext M w3 := (‹Ext M _ ∧ _›).1.trans hx3; have HZS := hid (‹Ext M _ ∧ _›).1.size; have R3 := hid hr3; clear hr3; generalize S.name (apS t [(yY, .node yA [])]).2 = rn at *; generalize (S.kids (apS t [(yY, .node yA [])]).2).length = rk at *; (first | (have zf := blkOld (.cells #[.string yY, .string yA, .slice none 0 0] 50) zz.out; have z3 := hx3.block zf; have R4 := hid (off_of R3.out HZS.out zf); obtain ⟨y0, y1⟩ := two_of z3; obtain ⟨y2, y3⟩ := two_free z3) | (have zf := blkOld (.cells #[.string yY, .string yA, .slice none 0 0] 50) (blk0 w2 (.cells #[.string ⟨#[]⟩, .slice none 0 0] 27)); have z3 := hx3.block zf; have R4 := hid (off_of R3.out HZS.out zf); obtain ⟨y0, y1⟩ := two_of z3; obtain ⟨y2, y3⟩ := two_free z3) | (have zf := blk1 w2 (.cells #[.string yY, .string yA, .slice none 0 0] 50) (.cells #[.string ⟨#[]⟩, .slice none 0 0] 27); have z3 := hx3.block zf; have R4 := hid (off_of R3.out HZS.out zf); obtain ⟨y0, y1⟩ := two_of z3; obtain ⟨y2, y3⟩ := two_free z3) | skip)))
    all_goals
      go_wp2_with fail
      go_meet
      case rel =>
        first
          | exact ⟨_, rn, ra, rk, rc, _, k1, rfl, rfl, rfl, (Ext.refl M).size, two_set z3, keep_set R4.out, ext_set (ext_set Z3 (Ext.refl M).size) (Ext.refl M).size⟩
          | exact ⟨_, rn, ra, rk, rc, _, k1, rfl, rfl, rfl, Z2.size, two_set z3, keep_set R4.out, ext_set (ext_set Z3 Z2.size) Z2.size⟩
          | exact ⟨_, rn, ra, rk, rc, _, k1, rfl, rfl, rfl, Nat.le_succ_of_le Z2.size, two_set z3, keep_set R4.out, ext_set (ext_set Z3 (Nat.le_succ_of_le Z2.size)) (Nat.le_succ_of_le Z2.size)⟩
          | exact ⟨_, rn, ra, rk, rc, _, k1, rfl, rfl, rfl, Z3.size, blk0 _ _, (R3.out.later (Ext.alloc _ _)).mono (fun _ _ hk => Nat.le_trans HZS.out hk), Z3.trans (Ext.alloc _ _)⟩
          | exact ⟨_, rn, ra, rk, rc, _, k1, rfl, rfl, rfl, Z3.size, two_set (blk0 _ _), keep_new R3.out HZS.out, ext_set (ext_set (Z3.trans (Ext.alloc _ _)) Z3.size) Z3.size⟩
  case rest =>
  obtain ⟨q, rn, ra, rk, rc, E, k1, rfl, rfl, hE, hq, hb, hrd, hx⟩ := hcut
  obtain ⟨V, hV⟩ : ∃ V, V = wc := ⟨wc, rfl⟩
  subst hV
  have HE := hid hE
  have HB := hid hb
  have HX := hid hx
  have HRD := hid hrd
  clear a0 a1 hq hb hx hrd hE
  have HR1 := hid (HX.out.block HM1.out)
  obtain ⟨f0, f1⟩ := two_free HR1.out
  obtain ⟨r0, r1⟩ := two_of HR1.out
  have hlt1 := lt_of_block HM1.out
  have hsz := HX.out.size
  have hofo := HR1.out
  by_cases hz : E = 0
  case neg =>
    obtain ⟨n1, n2⟩ := (⟨by rw [bne_iff_ne]; exact hz, by rw [beq_eq_false_iff_ne]; exact hz⟩ : (E != 0) = true ∧ (E == 0) = false)
    have HREN := hid (show renS t yY yA = t from if_neg (by rw [← HE.out]; exact hz))
    clear hz
    obtain ⟨_, a0, a1⟩ := HC.out V HX.out
    go_wp2_with fail
    obtain ⟨z0, z1⟩ := two_of (two_set (u0 := .string nt) (u1 := .slice a kt c) HR1.out)
    refine bodyPost_ret (v := .agg #[.string nt, .slice a kt c]) (by simp [results, Tryd.results22, go_sem, z0, z1]) rfl ?_
    rw [HREN.out]
    refine ⟨_, d, rfl, ?_, Kp.extOf (XM.out.trans HX.out) (Kp.set2 V (w.heap.size + 1) 0 _ _) (by omega)⟩
    exact keep_set ((HR.out.low.later (XM.out.trans HX.out)).mono (fun k _ (hk : k < w.heap.size) => ⟨by show k ≠ w.heap.size + 1; omega, trivial⟩))
  case pos =>
    subst hz
    have HREN := hid (show renS t yY yA = (apS t [(yY, .node yA [])]).2 from if_pos HE.out.symm)
    obtain ⟨c0, c1⟩ := two_of HB.out
    go_wp2_with fail
    obtain ⟨z0, z1⟩ := two_of (two_set (u0 := .string rn) (u1 := .slice ra rk rc) HR1.out)
    refine bodyPost_ret (v := .agg #[.string rn, .slice ra rk rc]) (by simp [results, Tryd.results22, go_sem, z0, z1]) rfl ?_
    rw [HREN.out]
    refine ⟨_, k1, rfl, ?_, Kp.extOf (XM.out.trans HX.out) (Kp.set2 V (w.heap.size + 1) 0 _ _) (by omega)⟩
    exact keep_set (HRD.out.mono (fun k _ (hk : M.heap.size ≤ k) => ⟨by show k ≠ w.heap.size + 1; omega, trivial⟩))
end Go.Proofs.YtllbelglilkdpaaDoor
/-
  The statement's own apart, by a contract.
-/
namespace Go.Proofs.YtllbelglilkdpaaDoor
open Go.RowKit
/-- The name at the end of the first ones of its lists. -/
def leafN : Nat → S → ByteArray
  | n + 1, .node _ (t :: _) => leafN n t
  | _, .node x _ => x
theorem leafN_nil (n : Nat) (x : ByteArray) : leafN n (.node x []) = x := by
  cases n with
  | zero => rfl
  | succ n => rfl
theorem leafN_peel {K : Nat → Prop} {w : World} : ∀ (m : Nat) (u : S) (d : Nat) (v : Value), SRd K w d v u → (peel m u).2.kids.length = 0 → leafN d u = (peel m u).2.name
  | 0, .node x ks, d, v, _, hk => by
    have hk' : ks.length = 0 := hk
    have : ks = [] := List.eq_nil_of_length_eq_zero hk'
    subst this
    exact leafN_nil d x
  | m + 1, .node x ks, d, v, hr, hk => by
    by_cases hc : x = wList ∧ ks.length = 1
    · obtain ⟨hx, hl⟩ := hc
      match ks, hl, hr, hk with
      | [t], _, hr, hk =>
        rw [peel_step hx] at hk ⊢
        cases d with
        | zero => exact hr.elim
        | succ d =>
          obtain ⟨a, c, _, _, _, h5⟩ := hr
          rcases h5 with h5 | ⟨g, off, _, _, hc⟩
          · cases h5
          · obtain ⟨u0, u1, _, hr'⟩ := hc 0 (by simp)
            exact leafN_peel m t d _ hr' hk
    · rw [peel_stop hc] at hk ⊢
      have hk' : ks.length = 0 := hk
      have : ks = [] := List.eq_nil_of_length_eq_zero hk'
      subst this
      exact leafN_nil d x
theorem leafN_shp {K : Nat → Prop} {w : World} {u : S} {d n : Nat} {v : Value} {x : ByteArray} (hr : SRd K w d v u) (h : shp u = some (n, x)) : leafN d u = x := by
  have hs := shp_some h
  rw [leafN_peel 64 u d v hr hs.2.2.1]
  exact hs.2.1
set_option maxRecDepth 100000 in
set_option maxHeartbeats 4000000 in
theorem apart_any {K K' : Nat → Prop} {d d' : Nat} {v v' : Value} {t u : S} (w : World) (hr : SRd K w d v t) (hr' : SRd K' w d' v' u) : Calls Tryd.prog 19 #[v, v'] w (RenR w (renS t yA (if leafN d' u = yY then yX else yY))) := by
  obtain ⟨a, c, rfl⟩ := hr.shape
  obtain ⟨a', c', rfl⟩ := hr'.shape
  have HR := hid hr
  have HR' := hid hr'.low
  clear hr hr'
  obtain ⟨nt, hnt⟩ : ∃ nt, S.name t = nt := ⟨_, rfl⟩
  obtain ⟨kt, hkt⟩ : ∃ kt, (S.kids t).length = kt := ⟨_, rfl⟩
  rw [hnt, hkt] at HR ⊢
  clear hnt hkt
  obtain ⟨LF, hLF⟩ : ∃ LF, leafN d' u = LF := ⟨_, rfl⟩
  rw [hLF]
  have HLF := hid hLF
  clear hLF
  obtain ⟨nm, hnm⟩ : ∃ nm, (if LF = yY then yX else yY) = nm := ⟨_, rfl⟩
  rw [hnm]
  have HNM := hid hnm
  clear hnm
  obtain ⟨M0, hM⟩ : ∃ M, ((w.alloc (.cells #[.string nt, .slice a kt c] 27)).alloc (.cells #[.string u.name, .slice a' u.kids.length c'] 27)).alloc (.cells #[.string ⟨#[]⟩, .slice none 0 0] 27) = M := ⟨_, rfl⟩
  have XM0 := hid (show Ext w M0 from hM ▸ (Ext.alloc2 _ _ _).trans (Ext.alloc _ _))
  have HN0 := hid (show M0.heap[w.heap.size]? = some (.cells #[.string nt, .slice a kt c] 27) from hM ▸ blkOld _ (blkOld _ (blk0 _ _)))
  have HN1 := hid (show M0.heap[w.heap.size + 1]? = some (.cells #[.string u.name, .slice a' u.kids.length c'] 27) from hM ▸ blkOld _ (blk1 _ _ _))
  have HN2 := hid (show M0.heap[w.heap.size + 1 + 1]? = some (.cells #[.string ⟨#[]⟩, .slice none 0 0] 27) from hM ▸ blk2 _ _ _ _)
  obtain ⟨nu, hnu⟩ : ∃ nu, u.name = nu := ⟨_, rfl⟩
  obtain ⟨ku, hku⟩ : ∃ ku, u.kids.length = ku := ⟨_, rfl⟩
  rw [hnu] at HN1 HR' hM ⊢
  rw [hku] at HN1 HR' hM ⊢
  have HNU := hid hnu
  have HKU := hid hku
  clear hnu hku
  go_enter Tryd.func19, Tryd.ntmps19
  go_wp2_with fail
  clear hM
  go_loopg [11] d' (fun g q11 wr => ∃ cur a2 c2, wr.heap[w.heap.size + 1]? = some (.cells #[.string (S.name cur), .slice a2 (S.kids cur).length c2] 27) ∧ SRd (· < w.heap.size) wr g (.agg #[.string (S.name cur), .slice a2 (S.kids cur).length c2]) cur ∧ leafN g cur = LF ∧ Kp (· ≠ w.heap.size + 1) M0 wr)
  case atStart => exact ⟨u, a', c', by rw [HNU.out, HKU.out]; exact HN1.out, by rw [HNU.out, HKU.out]; exact HR'.out.later XM0.out, HLF.out, Kp.refl _ _⟩
  case round =>
    obtain ⟨cur, a2, c2, hb, hrd, hlf, hk⟩ := hrel
    obtain ⟨x, ks⟩ := cur
    have HB := hid hb
    have HK := hid hk
    have HL := hid hlf
    have hb' : wr.heap[w.heap.size + 1]? = some (.cells #[.string x, .slice a2 ks.length c2] 27) := hb
    obtain ⟨b0, b1⟩ := two_of hb'
    obtain ⟨b2, b3⟩ := two_free hb'
    cases ks with
    | cons k0 kr =>
      cases gk with
      | zero => exact hrd.elim
      | succ g =>
        obtain ⟨a3, c3, e3, _, hkl, h5⟩ := hrd
        have e3' : a2 = a3 ∧ c2 = c3 := by have h := e3; simp [S.name, S.kids] at h; exact h
        obtain ⟨rfl, rfl⟩ := e3'
        rcases h5 with h5 | ⟨g5, off, rfl, hg5, hc⟩
        · cases h5
        obtain ⟨u0, u1, h4, hr4⟩ := hc 0 (by simp)
        obtain ⟨a6, c6, e6⟩ := hr4.shape
        obtain ⟨rfl, rfl⟩ := agg_two e6
        have HR4 := hid (show SRd (· < w.heap.size) wr g (.agg #[.string k0.name, .slice a6 k0.kids.length c6]) k0 from hr4)
        have h4' : Two wr g5 off (.string k0.name) (.slice a6 k0.kids.length c6) := by simpa using h4
        obtain ⟨p0, p1⟩ := h4'
        obtain ⟨kl, hkl'⟩ : ∃ kl, (k0 :: kr).length = kl := ⟨_, rfl⟩
        rw [hkl'] at b1 hkl
        have hpos : (0 : Int) < (kl : Int) := by have h0 : 0 < (k0 :: kr).length := by simp
                                                 rw [hkl'] at h0; omega
        have hbound : (kl : Int) ≤ 140737488351232 := by omega
        have HL2 := hid (show leafN g k0 = LF from HL.out)
        obtain ⟨n6, hn6⟩ : ∃ n6, k0.name = n6 := ⟨_, rfl⟩
        obtain ⟨k6, hk6⟩ : ∃ k6, k0.kids.length = k6 := ⟨_, rfl⟩
        rw [hn6, hk6] at HR4
        rw [hn6] at p0
        rw [hk6] at p1
        have HN6 := hid hn6
        have HK6 := hid hk6
        have HG5 := hid hg5
        have HBB := hid hb'
        clear hb hb' hlf hk hc h4 hr4 e3 e6 hkl hkl' hn6 hk6 hg5 HB
        go_wp2_with fail
        go_roundg g
        case measure => omega
        case rel =>
          refine ⟨k0, a6, c6, ?_, ?_, HL2.out, HK.out.trans (Kp.set2 wr (w.heap.size + 1) 0 _ _)⟩
          · rw [HN6.out, HK6.out]; exact two_set HBB.out
          · rw [HN6.out, HK6.out]
            exact HR4.out.keep ((Kp.set2 wr (w.heap.size + 1) 0 _ _).mono (fun k _ (hk : k < w.heap.size) => by show k ≠ _; omega))
    | nil =>
      have HLX := hid (show LF = x by rw [← HL.out]; exact leafN_nil _ x)
      obtain ⟨M, hMw⟩ : ∃ V, V = wr := ⟨wr, rfl⟩
      subst hMw
      have XM := hid (show Ext w M from Kp.extOf XM0.out HK.out (by omega))
      have HM0 := hid (HK.out.block' HN0.out (by omega))
      have HM1 := hid (HK.out.block' HN2.out (by omega))
      have HC := hid (show ∀ W', Ext M W' → (Ext M W' ∧ W'.cell? ⟨w.heap.size, 0, none⟩ = some (.string nt) ∧ W'.cell? ⟨w.heap.size, 1, none⟩ = some (.slice a kt c)) from fun W' X => ⟨X, cell_of (X.block HM0.out) rfl, cell_of (X.block HM0.out) rfl⟩)
      clear hb hb' hrd hlf hk
      by_cases hy : x = yY
      case pos =>
        have HNX := hid (show nm = yX by rw [← HNM.out, HLX.out, if_pos hy])
        have q1 : (x.toList == [121]) = true := by rw [lit_eq, hy]; rfl
        clear hy
        obtain ⟨_, a0, a1⟩ := HC.out M (Ext.refl _)

        go_upto_region 6 with fail
        go_cut [6, 7] (fun s3 s4 wx => RenQ M (apS t [(yA, .node yX [])]) s3 s4 wx)
        case first =>
          go_region_held3 (fun W' => Ext M W' ∧ W'.cell? ⟨w.heap.size, 0, none⟩ = some (.string nt) ∧ W'.cell? ⟨w.heap.size, 1, none⟩ = some (.slice a kt c)) (first
            | exact HC.out _ ((Ext.refl M).drew)
            | exact HC.out _ Z2
            | exact HC.out _ Z3
            | exact HC.out _ ((Ext.refl M).drew.trans (Ext.alloc _ _))
            | exact HC.out _ (Z2.trans (Ext.alloc _ _))
            | exact HC.out _ ((Z2.trans (Ext.alloc _ _)).trans (Ext.alloc _ _))
            | exact HC.out _ (Z3.trans (Ext.alloc _ _))
            | exact HC.out _ (ext_set (ext_set Z3 (Ext.refl M).size) (Ext.refl M).size)
            | exact HC.out _ (ext_set (ext_set Z3 Z2.size) Z2.size)
            | exact HC.out _ (ext_set (ext_set Z3 (Nat.le_succ_of_le Z2.size)) (Nat.le_succ_of_le Z2.size))
            | exact HC.out _ (ext_set (ext_set (Z3.trans (Ext.alloc _ _)) Z3.size) Z3.size)) (first
            | (go_at_call 13; refine (named_any yX _).mono ?_; rintro e w2 ⟨rfl, hx2⟩; have Z2 : Ext M w2 := (‹Ext M _ ∧ _›).1.trans hx2; (try (have zz := hid (show w2.heap[M.heap.size]? = some (.cells #[.string ⟨#[]⟩, .slice none 0 0] 27) from hx2.block (blk0 _ (.cells #[.string ⟨#[]⟩, .slice none 0 0] 27))))); clear hx2)
            | (go_at_call 16; refine (apply_any _ (HR.out.later (XM.out.trans (‹Ext M _ ∧ _›).1)) (gs_one (by first | exact blk0 _ (.cells #[.string yA, .string yX, .slice none 0 0] 50) | exact blkOld _ (blk0 _ (.cells #[.string yA, .string yX, .slice none 0 0] 50)) | exact blk1 _ _ (.cells #[.string yA, .string yX, .slice none 0 0] 50)) (by decide) (by decide))).mono ?_; rintro e w3 ⟨r1, k1, rfl, hr3, hx3⟩; obtain ⟨ra, rc, rfl⟩ := hr3.shape; have Z3 : Ext M w3 := (‹Ext M _ ∧ _›).1.trans hx3; have HZS := hid (‹Ext M _ ∧ _›).1.size; have R3 := hid hr3; clear hr3; generalize S.name (apS t [(yA, .node yX [])]).2 = rn at *; generalize (S.kids (apS t [(yA, .node yX [])]).2).length = rk at *; (first | (have zf := blkOld (.cells #[.string yA, .string yX, .slice none 0 0] 50) zz.out; have z3 := hx3.block zf; have R4 := hid (off_of R3.out HZS.out zf); obtain ⟨y0, y1⟩ := two_of z3; obtain ⟨y2, y3⟩ := two_free z3) | (have zf := blkOld (.cells #[.string yA, .string yX, .slice none 0 0] 50) (blk0 w2 (.cells #[.string ⟨#[]⟩, .slice none 0 0] 27)); have z3 := hx3.block zf; have R4 := hid (off_of R3.out HZS.out zf); obtain ⟨y0, y1⟩ := two_of z3; obtain ⟨y2, y3⟩ := two_free z3) | (have zf := blk1 w2 (.cells #[.string yA, .string yX, .slice none 0 0] 50) (.cells #[.string ⟨#[]⟩, .slice none 0 0] 27); have z3 := hx3.block zf; have R4 := hid (off_of R3.out HZS.out zf); obtain ⟨y0, y1⟩ := two_of z3; obtain ⟨y2, y3⟩ := two_free z3) | skip)))
          all_goals
            go_wp2_with fail
            go_meet
            case rel =>
              first
                | exact ⟨_, rn, ra, rk, rc, _, k1, rfl, rfl, rfl, (Ext.refl M).size, two_set z3, keep_set R4.out, ext_set (ext_set Z3 (Ext.refl M).size) (Ext.refl M).size⟩
                | exact ⟨_, rn, ra, rk, rc, _, k1, rfl, rfl, rfl, Z2.size, two_set z3, keep_set R4.out, ext_set (ext_set Z3 Z2.size) Z2.size⟩
                | exact ⟨_, rn, ra, rk, rc, _, k1, rfl, rfl, rfl, Nat.le_succ_of_le Z2.size, two_set z3, keep_set R4.out, ext_set (ext_set Z3 (Nat.le_succ_of_le Z2.size)) (Nat.le_succ_of_le Z2.size)⟩
                | exact ⟨_, rn, ra, rk, rc, _, k1, rfl, rfl, rfl, Z3.size, blk0 _ _, (R3.out.later (Ext.alloc _ _)).mono (fun _ _ hk => Nat.le_trans HZS.out hk), Z3.trans (Ext.alloc _ _)⟩
                | exact ⟨_, rn, ra, rk, rc, _, k1, rfl, rfl, rfl, Z3.size, two_set (blk0 _ _), keep_new R3.out HZS.out, ext_set (ext_set (Z3.trans (Ext.alloc _ _)) Z3.size) Z3.size⟩
        case rest =>
        obtain ⟨q, rn, ra, rk, rc, E, k1, rfl, rfl, hE, hq, hb, hrd, hx⟩ := hcut
        obtain ⟨V, hV⟩ : ∃ V, V = wc := ⟨wc, rfl⟩
        subst hV
        have HE := hid hE
        have HB := hid hb
        have HX := hid hx
        have HRD := hid hrd
        clear a0 a1 hq hb hx hrd hE
        have HR1 := hid (HX.out.block HM1.out)
        obtain ⟨f0, f1⟩ := two_free HR1.out
        obtain ⟨r0, r1⟩ := two_of HR1.out
        have hlt1 := lt_of_block HM1.out
        have hsz := HX.out.size
        have hofo := HR1.out
        by_cases hz : E = 0
        case neg =>
          obtain ⟨n1, n2⟩ := (⟨by rw [bne_iff_ne]; exact hz, by rw [beq_eq_false_iff_ne]; exact hz⟩ : (E != 0) = true ∧ (E == 0) = false)
          have HREN := hid (show renS t yA yX = t from if_neg (by rw [← HE.out]; exact hz))
          clear hz
          obtain ⟨_, a0, a1⟩ := HC.out V HX.out
          go_wp2_with fail
          obtain ⟨z0, z1⟩ := two_of (two_set (u0 := .string nt) (u1 := .slice a kt c) HR1.out)
          refine bodyPost_ret (v := .agg #[.string nt, .slice a kt c]) (by simp [results, Tryd.results19, go_sem, z0, z1]) rfl ?_
          rw [HNX.out, HREN.out]
          refine ⟨_, d, rfl, ?_, Kp.extOf (XM.out.trans HX.out) (Kp.set2 V (w.heap.size + 1 + 1) 0 _ _) (by omega)⟩
          exact keep_set ((HR.out.low.later (XM.out.trans HX.out)).mono (fun k _ (hk : k < w.heap.size) => ⟨by show k ≠ w.heap.size + 1 + 1; omega, trivial⟩))
        case pos =>
          subst hz
          have HREN := hid (show renS t yA yX = (apS t [(yA, .node yX [])]).2 from if_pos HE.out.symm)
          obtain ⟨c0, c1⟩ := two_of HB.out
          go_wp2_with fail
          obtain ⟨z0, z1⟩ := two_of (two_set (u0 := .string rn) (u1 := .slice ra rk rc) HR1.out)
          refine bodyPost_ret (v := .agg #[.string rn, .slice ra rk rc]) (by simp [results, Tryd.results19, go_sem, z0, z1]) rfl ?_
          rw [HNX.out, HREN.out]
          refine ⟨_, k1, rfl, ?_, Kp.extOf (XM.out.trans HX.out) (Kp.set2 V (w.heap.size + 1 + 1) 0 _ _) (by omega)⟩
          exact keep_set (HRD.out.mono (fun k _ (hk : M.heap.size ≤ k) => ⟨by show k ≠ w.heap.size + 1 + 1; omega, trivial⟩))
      case neg =>
        have HNX := hid (show nm = yY by rw [← HNM.out, HLX.out, if_neg hy])
        have q1 : (x.toList == [121]) = false := by
          rw [lit_eq]
          exact decide_eq_false (fun e => hy (data_inj (e.trans rfl)))
        clear hy
        obtain ⟨_, a0, a1⟩ := HC.out M (Ext.refl _)
        go_upto_region 6 with fail
        go_cut [6, 7] (fun s3 s4 wx => RenQ M (apS t [(yA, .node yY [])]) s3 s4 wx)
        case first =>
          go_region_held3 (fun W' => Ext M W' ∧ W'.cell? ⟨w.heap.size, 0, none⟩ = some (.string nt) ∧ W'.cell? ⟨w.heap.size, 1, none⟩ = some (.slice a kt c)) (first
            | exact HC.out _ ((Ext.refl M).drew)
            | exact HC.out _ Z2
            | exact HC.out _ Z3
            | exact HC.out _ ((Ext.refl M).drew.trans (Ext.alloc _ _))
            | exact HC.out _ (Z2.trans (Ext.alloc _ _))
            | exact HC.out _ ((Z2.trans (Ext.alloc _ _)).trans (Ext.alloc _ _))
            | exact HC.out _ (Z3.trans (Ext.alloc _ _))
            | exact HC.out _ (ext_set (ext_set Z3 (Ext.refl M).size) (Ext.refl M).size)
            | exact HC.out _ (ext_set (ext_set Z3 Z2.size) Z2.size)
            | exact HC.out _ (ext_set (ext_set Z3 (Nat.le_succ_of_le Z2.size)) (Nat.le_succ_of_le Z2.size))
            | exact HC.out _ (ext_set (ext_set (Z3.trans (Ext.alloc _ _)) Z3.size) Z3.size)) (first
            | (go_at_call 13; refine (named_any yY _).mono ?_; rintro e w2 ⟨rfl, hx2⟩; have Z2 : Ext M w2 := (‹Ext M _ ∧ _›).1.trans hx2; (try (have zz := hid (show w2.heap[M.heap.size]? = some (.cells #[.string ⟨#[]⟩, .slice none 0 0] 27) from hx2.block (blk0 _ (.cells #[.string ⟨#[]⟩, .slice none 0 0] 27))))); clear hx2)
            | (go_at_call 16; refine (apply_any _ (HR.out.later (XM.out.trans (‹Ext M _ ∧ _›).1)) (gs_one (by first | exact blk0 _ (.cells #[.string yA, .string yY, .slice none 0 0] 50) | exact blkOld _ (blk0 _ (.cells #[.string yA, .string yY, .slice none 0 0] 50)) | exact blk1 _ _ (.cells #[.string yA, .string yY, .slice none 0 0] 50)) (by decide) (by decide))).mono ?_; rintro e w3 ⟨r1, k1, rfl, hr3, hx3⟩; obtain ⟨ra, rc, rfl⟩ := hr3.shape; have Z3 : Ext M w3 := (‹Ext M _ ∧ _›).1.trans hx3; have HZS := hid (‹Ext M _ ∧ _›).1.size; have R3 := hid hr3; clear hr3; generalize S.name (apS t [(yA, .node yY [])]).2 = rn at *; generalize (S.kids (apS t [(yA, .node yY [])]).2).length = rk at *; (first | (have zf := blkOld (.cells #[.string yA, .string yY, .slice none 0 0] 50) zz.out; have z3 := hx3.block zf; have R4 := hid (off_of R3.out HZS.out zf); obtain ⟨y0, y1⟩ := two_of z3; obtain ⟨y2, y3⟩ := two_free z3) | (have zf := blkOld (.cells #[.string yA, .string yY, .slice none 0 0] 50) (blk0 w2 (.cells #[.string ⟨#[]⟩, .slice none 0 0] 27)); have z3 := hx3.block zf; have R4 := hid (off_of R3.out HZS.out zf); obtain ⟨y0, y1⟩ := two_of z3; obtain ⟨y2, y3⟩ := two_free z3) | (have zf := blk1 w2 (.cells #[.string yA, .string yY, .slice none 0 0] 50) (.cells #[.string ⟨#[]⟩, .slice none 0 0] 27); have z3 := hx3.block zf; have R4 := hid (off_of R3.out HZS.out zf); obtain ⟨y0, y1⟩ := two_of z3; obtain ⟨y2, y3⟩ := two_free z3) | skip)))
          all_goals
            go_wp2_with fail
            go_meet
            case rel =>
              first
                | exact ⟨_, rn, ra, rk, rc, _, k1, rfl, rfl, rfl, (Ext.refl M).size, two_set z3, keep_set R4.out, ext_set (ext_set Z3 (Ext.refl M).size) (Ext.refl M).size⟩
                | exact ⟨_, rn, ra, rk, rc, _, k1, rfl, rfl, rfl, Z2.size, two_set z3, keep_set R4.out, ext_set (ext_set Z3 Z2.size) Z2.size⟩
                | exact ⟨_, rn, ra, rk, rc, _, k1, rfl, rfl, rfl, Nat.le_succ_of_le Z2.size, two_set z3, keep_set R4.out, ext_set (ext_set Z3 (Nat.le_succ_of_le Z2.size)) (Nat.le_succ_of_le Z2.size)⟩
                | exact ⟨_, rn, ra, rk, rc, _, k1, rfl, rfl, rfl, Z3.size, blk0 _ _, (R3.out.later (Ext.alloc _ _)).mono (fun _ _ hk => Nat.le_trans HZS.out hk), Z3.trans (Ext.alloc _ _)⟩
                | exact ⟨_, rn, ra, rk, rc, _, k1, rfl, rfl, rfl, Z3.size, two_set (blk0 _ _), keep_new R3.out HZS.out, ext_set (ext_set (Z3.trans (Ext.alloc _ _)) Z3.size) Z3.size⟩
        case rest =>
        obtain ⟨q, rn, ra, rk, rc, E, k1, rfl, rfl, hE, hq, hb, hrd, hx⟩ := hcut
        obtain ⟨V, hV⟩ : ∃ V, V = wc := ⟨wc, rfl⟩
        subst hV
        have HE := hid hE
        have HB := hid hb
        have HX := hid hx
        have HRD := hid hrd
        clear a0 a1 hq hb hx hrd hE
        have HR1 := hid (HX.out.block HM1.out)
        obtain ⟨f0, f1⟩ := two_free HR1.out
        obtain ⟨r0, r1⟩ := two_of HR1.out
        have hlt1 := lt_of_block HM1.out
        have hsz := HX.out.size
        have hofo := HR1.out
        by_cases hz : E = 0
        case neg =>
          obtain ⟨n1, n2⟩ := (⟨by rw [bne_iff_ne]; exact hz, by rw [beq_eq_false_iff_ne]; exact hz⟩ : (E != 0) = true ∧ (E == 0) = false)
          have HREN := hid (show renS t yA yY = t from if_neg (by rw [← HE.out]; exact hz))
          clear hz
          obtain ⟨_, a0, a1⟩ := HC.out V HX.out
          go_wp2_with fail
          obtain ⟨z0, z1⟩ := two_of (two_set (u0 := .string nt) (u1 := .slice a kt c) HR1.out)
          refine bodyPost_ret (v := .agg #[.string nt, .slice a kt c]) (by simp [results, Tryd.results19, go_sem, z0, z1]) rfl ?_
          rw [HNX.out, HREN.out]
          refine ⟨_, d, rfl, ?_, Kp.extOf (XM.out.trans HX.out) (Kp.set2 V (w.heap.size + 1 + 1) 0 _ _) (by omega)⟩
          exact keep_set ((HR.out.low.later (XM.out.trans HX.out)).mono (fun k _ (hk : k < w.heap.size) => ⟨by show k ≠ w.heap.size + 1 + 1; omega, trivial⟩))
        case pos =>
          subst hz
          have HREN := hid (show renS t yA yY = (apS t [(yA, .node yY [])]).2 from if_pos HE.out.symm)
          obtain ⟨c0, c1⟩ := two_of HB.out
          go_wp2_with fail
          obtain ⟨z0, z1⟩ := two_of (two_set (u0 := .string rn) (u1 := .slice ra rk rc) HR1.out)
          refine bodyPost_ret (v := .agg #[.string rn, .slice ra rk rc]) (by simp [results, Tryd.results19, go_sem, z0, z1]) rfl ?_
          rw [HNX.out, HREN.out]
          refine ⟨_, k1, rfl, ?_, Kp.extOf (XM.out.trans HX.out) (Kp.set2 V (w.heap.size + 1 + 1) 0 _ _) (by omega)⟩
          exact keep_set (HRD.out.mono (fun k _ (hk : M.heap.size ≤ k) => ⟨by show k ≠ w.heap.size + 1 + 1; omega, trivial⟩))
end Go.Proofs.YtllbelglilkdpaaDoor
