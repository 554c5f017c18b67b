/-
  The walk of espalierlaw4.TreePaths, the long way; the whole.
-/
import Derived.Test.YthdmoghooaccgaaPathsA
namespace Go.Proofs.Ythdmoghooaccgaa
open Go.RowKit Go.Shelf
attribute [local go_sem] Oper.semAt_some
set_option maxRecDepth 100000 in
set_option maxHeartbeats 60000000 in
theorem paths_main {d d' : Nat} {v v' : Value} {t u : T} (pick : Int) (w : World) (hr : Rd (fun _ => True) w d v t) (hr' : Rd (fun _ => True) w d' v' u) (hs : t.small) (hs' : u.small) : CallsIn Fence.wide 0 Try.prog 4 #[v, v', .int .i64 pick] w fun e w' => e = .returned (.bool true) ∧ Ext w w' := by
  have hsH := hid hs
  have hs'H := hid hs'
  clear hs hs'
  obtain ⟨u0, u1, u2, u3, rfl⟩ := hr.agg
  obtain ⟨k, n, x, a, c, rfl, rfl, rfl, rfl⟩ := hr.shape
  obtain ⟨u0, u1, u2, u3, rfl⟩ := hr'.agg
  obtain ⟨k', n', x', a', c', rfl, rfl, rfl, rfl⟩ := hr'.shape
  have HR := hid hr
  have HR' := hid hr'
  clear hr hr'
  generalize (T.kids t).length = kt at *
  generalize (T.kids u).length = ku at *
  refine callsIn_of_wp_marks Try.func4 rfl trivial ?_ rfl
  show Code.wpIn _ _ _ _ _ _ _
  simp only [Try.ntmps4, List.size_toArray, List.length_cons, List.length_nil, Nat.reduceAdd, Nat.reduceSub, Array.replicate_succ, Array.replicate_zero, List.push_toArray, List.append_toArray, List.nil_append, List.cons_append]
  gi_wp2_with fail
  refine ⟨trivial, rfl, (begun_true _).mono ?_⟩
  rintro e V ⟨rfl, hx⟩
  have HV := hid ((Ext.alloc3 w _ _ _).trans hx)
  have HB := hid (And.intro (hx.block (blkOld _ (blkOld _ (blk0 w _)))) (And.intro (hx.block (blkOld _ (blk1 w _ _))) (hx.block (blk2 w _ _ _))))
  clear hx
  obtain ⟨p0, p1, p2, p3⟩ := four_of HB.out.1
  gi_wp2_with fail
  refine ⟨trivial, rfl, (callsIn_wide.2 (size_any V (HR.out.later HV.out))).mono ?_⟩
  rintro e w1 ⟨rfl, hx1⟩
  have HX1 := hid hx1
  clear p0 p1 p2 p3 hx1
  have hs := hsH.out
  have hsT : sizeV t = .tuple #[.int .i64 (t.size : Int), .int .i64 (t.height : Int), .int .i64 (t.bytes : Int)] := if_pos hs
  rw [hsT]
  have HS := hid hs
  have l1 : (t.size : Int) ≤ 1024 := by have := hs.1; omega
  have g1 : 1 ≤ (t.size : Int) := by have := T.size_pos t; omega
  clear hsT hs
  generalize hSt : t.size = S at l1 g1
  have HST := hid hSt
  generalize t.height = tH at *
  generalize t.bytes = tB at *
  clear hSt
  have HA1 := hid (HX1.out.trans (Ext.alloc w1 (.cells #[.int .i64 (S : Int)] 3)))
  obtain ⟨p0, p1, p2, p3⟩ := four_of (HA1.out.block HB.out.2.1)
  have n1 : decide ((1024 : Int) < (S : Int)) = false := decide_eq_false (by omega)
  gi_wp2_with fail
  refine ⟨trivial, rfl, (callsIn_wide.2 (size_any _ (HR'.out.later (HV.out.trans HA1.out)))).mono ?_⟩
  rintro e w2 ⟨rfl, hx2⟩
  have HN2 := hid (hx2.block (blk0 w1 (.cells #[.int .i64 (S : Int)] 3)))
  have HX2 := hid (HA1.out.trans hx2)
  clear p0 p1 p2 p3 hx2
  have c0 := cell_of (i := 0) HN2.out rfl
  simp only [List.getElem_toArray, List.getElem_cons_zero] at c0
  have hs' := hs'H.out
  rw [show sizeV u = .tuple #[.int .i64 (u.size : Int), .int .i64 (u.height : Int), .int .i64 (u.bytes : Int)] from if_pos hs']
  have HS' := hid hs'
  have n2 : decide ((1024 : Int) < (u.size : Int)) = false := decide_eq_false (by have := hs'.1; omega)
  clear hs'
  have HA2 := hid (HX2.out.trans (Ext.alloc w2 (.cells #[.slice none 0 0] 41)))
  obtain ⟨p0, p1, p2, p3⟩ := four_of (HA2.out.block HB.out.1)
  gi_wp2_with fail
  refine ⟨trivial, rfl, (callsIn_wide.2 (each_face _ (HR.out.later (HV.out.trans HA2.out)))).mono ?_⟩
  rintro e w3 ⟨hx3, eb, ob, kk, nn, xx, aa, ll, cc, rfl, heb, hob, hbo, (⟨_, hbe, bs, hown, hbs⟩ | ⟨hn, _⟩)⟩
  rotate_left
  · exact absurd HS.out hn
  have HX3 := hid ((HV.out.trans HA2.out).trans hx3)
  have HT3 := hid (hx3.block (HA2.out.block HB.out.1))
  have HU3 := hid (hx3.block (HA2.out.block HB.out.2.1))
  have HR3 := hid (hx3.block (HA2.out.block HB.out.2.2))
  have HN3 := hid (hx3.block (blkOld (.cells #[.slice none 0 0] 41) HN2.out))
  have HP3 := hid (hx3.block (blk0 w2 (.cells #[.slice none 0 0] 41)))
  have hsv := HV.out.size
  have hs23 : w.heap.size + 1 + 1 < w2.heap.size := lt_of_block (HX2.out.block HB.out.2.2)
  have hp3 : w2.heap.size < w3.heap.size := lt_of_block HP3.out
  have hn3 : w1.heap.size < w2.heap.size := lt_of_block HN2.out
  have hnr : w.heap.size + 1 + 1 < w1.heap.size := lt_of_block (HX1.out.block HB.out.2.2)
  have hnil : ∀ w, (binOp .eql 39 (.func (.func 45) #[] #[.pointer (some ⟨eb, 0, none⟩), .pointer (some ⟨ob, 0, none⟩)]) .nilFunc).run Try.prog w = .ok (.bool false) w := fun w => by as_aux_lemma => kernel_rfl
  clear p0 p1 p2 p3 c0 hx3
  simp only [World.size_alloc] at heb hob hbs
  gi_wp2_with fail
  refine rangeM rfl (enters_of Try.func45 (by kernel_rfl) rfl) t.size (fun q => q = w2.heap.size ∨ (Value.slice none 0 0).ownBlock = some q ∨ ∃ y ∈ ([] : List Value), y.ownBlock = some q) (eachX t w3.heap.size) (each_iter (d := d) hbe hbo (hown.rd.mono (fun q _ hq e => by
      have := hbs q hq
      rcases e with e | e | ⟨y, hy, _⟩
      · omega
      · cases e
      · cases hy)) HS.out.2.1 (fun i y h => by have := path_len HS.out h; omega)) eachX_size eachX_mono eachX_new
    (paI t w3.heap.size w2.heap.size) (fun _ _ _ => False)
    (fun M' i Z h => paI_lt h) (fun M' i Z Z' h hk => paI_keep h hk (fun q hq => .inr hq))
    (fun c M' Z h => h.elim) (fun c M' Z Z' h => h.elim) ⟨.slice none 0 0, [], rfl, HP3.out, World.ownsRow_nil _ _ _ _, rfl, fun j y h => by simp at h⟩ ?round ?done ?stop
  case round =>
    rintro l2 M' i Z args E hl2 ⟨r2, hr2⟩ hml hel hi hI ⟨pv, tv, p, uu, dd, bb, rfl, hL, hpw, hownx, hndx, hpb, rfl, hE⟩ hk5 h4
    obtain ⟨u0, u1, u2, u3, rfl⟩ := hownx.rd.agg
    obtain ⟨k4, n4, x4, a4, c4, rfl, rfl, rfl, rfl⟩ := hownx.rd.shape
    obtain ⟨pa, pc, rfl⟩ := hpw.shape
    have HOX := hid hownx
    have HPW := hid hpw
    clear hownx hpw
    generalize (T.kids uu).length = kl at HOX
    gi_wp2_with fail
    refine ⟨Ext.alloc _ _, fun W₂ hk2 r3 hr3 => ?_⟩
    have hzl : Z.heap.size ≠ l2 := by have := lt_of_block hr2; omega
    have hbx := hk2.block' (blk0 Z _) hzl
    have hkz : Kp (· ≠ l2) Z W₂ := ((Ext.alloc Z _).kp _).trans hk2
    have hnm : ∀ q, q < w2.heap.size → ¬ (q = w2.heap.size ∨ (Value.slice none 0 0).ownBlock = some q ∨ ∃ y ∈ ([] : List Value), y.ownBlock = some q) := fun q hq h => by
      rcases h with h | h | ⟨y, hy, _⟩
      · omega
      · cases h
      · cases hy
    have htb := hkz.block' (hk5.block' HT3.out (hnm _ (by omega))) (show w.heap.size ≠ l2 by omega)
    have HT2 := hid (show Rd (· < w.heap.size) W₂ d (.agg #[.string k, .int .i64 n, .string x, .slice a kt c]) t from
      HR.out.low.keep (((HX3.out.kp (· < w.heap.size)).trans (hk5.mono (fun q _ hq => hnm q (by have hq' : q < w.heap.size := hq; omega)))).trans (hkz.mono (fun q _ hq e => by have hq' : q < w.heap.size := hq; have e' : q = l2 := e; omega))))
    have HPW2 := hid (HPW.out.keep hkz (fun b hb e => hel (.inl (by have e' : b = l2 := e; rw [← e']; exact hb))))
    have HOX2 := hid (HOX.out.keep (hkz.mono (fun q _ hq e => hel (.inr (by have e' : q = l2 := e; rw [← e']; exact hq)))))
    obtain ⟨v, vs, hMe, hcb, hrow, hvl, hall⟩ := paI_keep hI hkz (fun q hq e => hml (by have e' : q = l2 := e; rw [← e']; exact hq))
    obtain ⟨av, cv, rfl⟩ := ownsRow_slice hrow
    have HL := hid hL
    have hplen : p.length ≤ 64 := path_len HS.out hL
    have hSi : (i : Int) < 1024 := by have := HST.out; omega
    have HBS := hid (And.intro htb (And.intro hcb hbx))
    have HROW := hid hrow
    have HALL := hid hall
    have hB0 : ∀ q, (Value.slice av i cv).ownBlock = some q → w3.heap.size ≤ q := fun q hq => (ownsRow_block hrow hq).1
    have hZW : Z.heap.size < W₂.heap.size := lt_of_block hbx
    have hWZ : w3.heap.size ≤ Z.heap.size := hk5.size
    have hvI : vs.length = i := hvl
    obtain ⟨p0, p1, p2, p3⟩ := four_of htb
    have HE := hid hE
    have HE2 := hid hMe
    clear hL hcb hrow hall htb hbx hr3 hk2 hI hE hMe hvl
    gi_wp2_with fail
    refine ⟨trivial, rfl, (CallsIn.inRound l2 (callsIn_wide.2 (at_face W₂ pa pc p HT2.out HPW2.out.ints (by omega)))).mono ?_⟩
    rintro e W₃ ⟨hx3, hc⟩
    rcases hc with ⟨hn, _⟩ | ⟨_, hn, _⟩ | ⟨_, u6, d6, hu6, v6, bs6, rfl, ho6, _, _⟩
    · exact absurd HS.out hn
    · rw [path_at HL.out] at hn; cases hn
    obtain rfl : uu = u6 := by rw [path_at HL.out] at hu6; exact Option.some.inj hu6
    obtain ⟨u0, u1, u2, u3, rfl⟩ := ho6.rd.agg
    obtain ⟨k6, n6, x6, a6, c6, rfl, rfl, rfl, rfl⟩ := ho6.rd.shape
    have HO6 := hid ho6.rd
    clear ho6 hu6 p0 p1 p2 p3
    generalize (T.kids uu).length = kl6 at HO6
    have HA3 := hid (hx3.trans (Ext.alloc W₃ (.cells #[.string k6, .int .i64 n6, .string x6, .slice a6 kl6 c6] 26)))
    obtain ⟨p0, p1, p2, p3⟩ := four_of (HA3.out.block HBS.out.2.2)
    obtain ⟨q0, q1, q2, q3⟩ := four_of (blk0 W₃ (.cells #[.string k6, .int .i64 n6, .string x6, .slice a6 kl6 c6] 26))
    have hlt3 := lt_of_cell p0
    clear hx3
    gi_wp2_with fail
    refine ⟨trivial, rfl, (CallsIn.inRound l2 (callsIn_wide.2 (same_face _ (HOX2.out.rd.later HA3.out) (HO6.out.later (Ext.alloc _ _))))).mono ?_⟩
    rintro e W₅ ⟨rfl, hx5⟩
    have hus : uu.small := T.at_small HS.out (path_at HL.out)
    rw [decide_eq_true hus, T.beq_refl]
    simp only [Bool.and_self]
    have HX5 := hid (HA3.out.trans hx5)
    clear p0 p1 p2 p3 q0 q1 q2 q3 hx5 hus hlt3
    have hpb5 := HX5.out.block HBS.out.2.1
    have c0 := cell_of (i := 0) hpb5 rfl
    have f0 := frozen_of (i := 0) hpb5
    simp only [List.getElem_toArray, List.getElem_cons_zero] at c0
    have HPB5 := hid hpb5
    clear hpb5
    have i0i := info_parts siInfo
    obtain ⟨i0, hi0, hz0, hz1, hz2⟩ := i0i
    have HB0 := hid hB0
    have hpk : ∀ (W : World) (y : Value) (l : List Int), Kp (fun q => some q ≠ (Value.slice av i cv).ownBlock) W₂ W → PathW W₂ w3.heap.size y l → PathW W w3.heap.size y l := fun W y l hK hy =>
      hy.keep hK (fun b hb e => by
        obtain ⟨_, cur, h1⟩ := hy.block hb
        obtain ⟨_, cur', h2⟩ := ownsRow_block HROW.out e.symm
        rw [h1] at h2
        injection h2 with h2
        injection h2 with _ h3
        revert h3
        decide)
    have fin : ∀ (w9 : World) (a9 : Option Addr) (c9 : Nat), Kp (fun q => some q ≠ (Value.slice av i cv).ownBlock) W₂ w9 → w9.heap[w2.heap.size]? = some (.cells #[.slice av i cv] 41) → w9.ownsRow w3.heap.size 27 1 (.slice a9 (i + 1) c9) (i + 1) (vs ++ [.slice pa p.length pc]) →
        ((Value.slice a9 (i + 1) c9).ownBlock = (Value.slice av i cv).ownBlock ∨ ∃ g, (Value.slice a9 (i + 1) c9).ownBlock = some g ∧ W₂.heap.size ≤ g) →
        bodyR (paI t w3.heap.size w2.heap.size) (fun _ _ _ => False) M' (fun q => (Value.slice pa p.length pc).ownBlock = some q ∨ q ∈ bb) i Z W₂ .normal { tmps := #[], defers := [] } (w9.setCell ⟨w2.heap.size, 0, none⟩ (.slice a9 (i + 1) c9)) := fun w9 a9 c9 K9 hb9 hown9 hat9 => by
      have hMe := HE2.out
      have K4 := Kp.set (K := (· ≠ w2.heap.size)) w9 w2.heap.size 0 (.slice a9 (i + 1) c9) (fun h => h rfl)
      have hne9 : ∀ q, (Value.slice a9 (i + 1) c9).ownBlock = some q → q ≠ w2.heap.size := fun q hq e => by
        rcases hat9 with h | ⟨g, h, hg⟩
        · rw [h] at hq; have := HB0.out q hq; omega
        · rw [h] at hq; cases hq; omega
      have hpw : ∀ (y : Value) (l : List Int), PathW W₂ w3.heap.size y l → PathW (w9.setCell ⟨w2.heap.size, 0, none⟩ (.slice a9 (i + 1) c9)) w3.heap.size y l := fun y l hy =>
        (hpk w9 y l K9 hy).keep K4 (fun b hb e => by have := (hy.block hb).1; have e' : b = _ := e; omega)
      refine ⟨?_, fun q => q = w2.heap.size ∨ (Value.slice a9 (i + 1) c9).ownBlock = some q ∨ ∃ y ∈ vs ++ [Value.slice pa p.length pc], y.ownBlock = some q, ⟨_, _, rfl, set_one hb9, ownsRow_keep hown9 K4 hne9, by simp [hvI], fun j y hj => ?_⟩, fun q hq => ?_⟩
      · rw [hMe]
        exact (K9.mono (fun q _ hq e => hq (.inl (.inr (.inl e.symm))))).trans (K4.mono (fun q _ hq e => hq (.inl (.inl e))))
      · by_cases hji : j < vs.length
        · rw [List.getElem?_append_left hji] at hj
          obtain ⟨e, he, hp⟩ := HALL.out j y hj
          exact ⟨e, he, hpw y _ hp⟩
        · rw [List.getElem?_append_right (by omega)] at hj
          have hj0 : j - vs.length = 0 := by
            rcases Nat.eq_zero_or_pos (j - vs.length) with h | h
            · exact h
            · rw [List.getElem?_eq_none (by simp; omega)] at hj; cases hj
          rw [hj0] at hj
          obtain rfl : Value.slice pa p.length pc = y := by simpa using hj
          have hjv : j = i := by omega
          rw [hjv]
          exact ⟨(p, uu), HL.out, hpw _ _ HPW2.out⟩
      · rw [hMe]
        rcases hq with h | h | ⟨y, hy, h⟩
        · exact .inl (.inl h)
        · rcases hat9 with h' | ⟨g, h', hg⟩
          · rw [h'] at h; exact .inl (.inr (.inl h))
          · rw [h'] at h; cases h; exact .inr (.inr (by omega))
        · rcases List.mem_append.1 hy with hy | hy
          · exact .inl (.inr (.inr ⟨y, hy, h⟩))
          · obtain rfl : y = Value.slice pa p.length pc := by simpa using hy
            exact .inr (.inl (.inl h))
    have wf : ∀ f, Fence.wide.fn f := fun _ => trivial
    have wd : Fence.wide.depth = none := rfl
    clear hB0
    have hlw5 : W₂.heap.size ≤ W₅.heap.size := HX5.out.size
    rcases Nat.eq_zero_or_pos i with hi00 | hi00
    · have hgt : ¬ 0 < i := by omega
      have hgt' : decide (0 < i) = false := decide_eq_false hgt
      clear hi00
      have xr2 := ownsRow_keep HROW.out ((HX5.out.trans (Ext.alloc W₅ (.cells #[.slice pa p.length pc] 27))).kp (fun _ => True)) (fun _ _ => trivial)
      have HPB6 := HPB5
      gi_wp2_with (gi_at_builtin; refine wpListIn_append_own_at _ rfl _ _ 41 rfl w3.heap.size 27 i0 (.slice none 0 0) 1 24 Try.underlying41 hi0 hz0 hz1 hz2 rfl (by decide) _ _ _ rfl xr2 ⟨W₅.heap.size, 0, none⟩ 1 1 [.slice pa p.length pc] rfl rfl (cell_one_new _ _ _) (by simp [Value.oneCell']) (by unfold maxLen; omega) (by omega) (by simp; omega) ?_; intro v9 w9 hown9 hgrow9 _ hat9; obtain ⟨a9, c9, rfl⟩ := ownsRow_slice hown9; have hb9 : w9.heap[w2.heap.size]? = some (.cells #[.slice av i cv] 41) := (hgrow9.block _ (lt_of_block (blkOld (.cells #[.slice pa p.length pc] 27) HPB6.out)) (fun e => by have := HB0.out _ e.symm; omega)).trans (blkOld (.cells #[.slice pa p.length pc] 27) HPB6.out); have g3 := cell_of (i := 0) hb9 rfl; have g4 := frozen_of (i := 0) hb9; simp only [List.getElem_toArray, List.getElem_cons_zero] at g3)
      have K9 : Kp (fun q => some q ≠ (Value.slice av i cv).ownBlock) W₂ w9 := ((HX5.out.trans (Ext.alloc W₅ (.cells #[.slice pa p.length pc] 27))).kp _).trans ⟨hgrow9.os, hgrow9.tape, hgrow9.output, hgrow9.size, fun q hq hne => hgrow9.block q hq hne⟩
      exact fin w9 a9 c9 K9 hb9 (by simpa using hown9) (by
        rcases hat9 with h | h
        · exact .inl h
        · exact .inr ⟨_, h, by have := HX5.out.size; simp; omega⟩)
    · have hgt : decide ((0 : Int) < (i : Int)) = true := decide_eq_true (by omega)
      obtain ⟨m, hm⟩ : ∃ m : Nat, i = m + 1 := ⟨i - 1, by omega⟩
      have hm1 : (i : Int) - 1 = (m : Int) := by omega
      have hmi : (m : Int) < (i : Int) := by omega
      have hrow5 := ownsRow_keep HROW.out (HX5.out.kp (fun _ => True)) (fun _ _ => trivial)
      obtain ⟨g, hav⟩ : ∃ g, av = some ⟨g, 0, none⟩ := by
        rcases hrow5.2 with ⟨_, h0⟩ | ⟨g, cap, cur, hv, _⟩
        · omega
        · injection hv with h1; exact ⟨g, h1⟩
      subst hav
      obtain ⟨y, hy⟩ : ∃ y, vs[m]? = some y := ⟨vs[m]'(by omega), List.getElem?_eq_getElem (by omega)⟩
      have cm : W₅.cell? ⟨g, m, none⟩ = some y := (hrow5.cellAt m (by omega)).trans hy
      obtain ⟨ey, hey, hpy⟩ := HALL.out m y hy
      obtain ⟨ya, yc, rfl⟩ := hpy.shape
      have hyl : ey.1.length ≤ 64 := path_len HS.out hey
      have HPY := hid hpy
      have hah : aheadB ey.1 p = true := path_ahead (b := (p, uu)) hey (by rw [← hm]; exact HL.out)
      have HAH := hid hah
      clear hrow5 hy hey hpy hah hm
      gi_wp2_with fail
      refine (CallsIn.inRound l2 (callsIn_wide.2 (ahead_any ya pa yc pc ey.1 p W₅ (by omega) (by omega) (HPY.out.ints.later HX5.out) (HPW2.out.ints.later HX5.out)))).mono ?_
      rintro e W₆ ⟨rfl, hx6⟩
      rw [HAH.out]
      have HX6 := hid (HX5.out.trans hx6)
      have hpb6 := hx6.block HPB5.out
      have HPB6 := hid hpb6
      clear c0 f0 cm hx6
      have c0 := cell_of (i := 0) hpb6 rfl
      have f0 := frozen_of (i := 0) hpb6
      simp only [List.getElem_toArray, List.getElem_cons_zero] at c0
      have xr2 := ownsRow_keep HROW.out ((HX6.out.trans (Ext.alloc W₆ (.cells #[.slice pa p.length pc] 27))).kp (fun _ => True)) (fun _ _ => trivial)
      have hlw6 : W₂.heap.size ≤ W₆.heap.size := HX6.out.size
      clear hpb6
      gi_wp2_with (gi_at_builtin; refine wpListIn_append_own_at _ rfl _ _ 41 rfl w3.heap.size 27 i0 (.slice none 0 0) 1 24 Try.underlying41 hi0 hz0 hz1 hz2 rfl (by decide) _ _ _ rfl xr2 ⟨W₆.heap.size, 0, none⟩ 1 1 [.slice pa p.length pc] rfl rfl (cell_one_new _ _ _) (by simp [Value.oneCell']) (by unfold maxLen; omega) (by omega) (by simp; omega) ?_; intro v9 w9 hown9 hgrow9 _ hat9; obtain ⟨a9, c9, rfl⟩ := ownsRow_slice hown9; have hb9 : w9.heap[w2.heap.size]? = some (.cells #[.slice (some ⟨g, 0, none⟩) i cv] 41) := (hgrow9.block _ (lt_of_block (blkOld (.cells #[.slice pa p.length pc] 27) HPB6.out)) (fun e => by have := HB0.out _ e.symm; omega)).trans (blkOld (.cells #[.slice pa p.length pc] 27) HPB6.out); have g3 := cell_of (i := 0) hb9 rfl; have g4 := frozen_of (i := 0) hb9; simp only [List.getElem_toArray, List.getElem_cons_zero] at g3)
      have K9 : Kp (fun q => some q ≠ (Value.slice (some ⟨g, 0, none⟩) i cv).ownBlock) W₂ w9 := ((HX6.out.trans (Ext.alloc W₆ (.cells #[.slice pa p.length pc] 27))).kp _).trans ⟨hgrow9.os, hgrow9.tape, hgrow9.output, hgrow9.size, fun q hq hne => hgrow9.block q hq hne⟩
      exact fin w9 a9 c9 K9 hb9 (by simpa using hown9) (by
        rcases hat9 with h | h
        · exact .inl h
        · exact .inr ⟨_, h, by have := HX6.out.size; simp; omega⟩)
  case done =>
    rintro D Z M' hD hI hd hmd hsub hk
    have hnm : ∀ q, q < w2.heap.size → ¬ (q = w2.heap.size ∨ (Value.slice none 0 0).ownBlock = some q ∨ ∃ y ∈ ([] : List Value), y.ownBlock = some q) := fun q hq h => by
      rcases h with h | h | ⟨y, hy, _⟩
      · omega
      · cases h
      · cases hy
    have hkw : Kp (· < w.heap.size) w Z := (HX3.out.kp (· < w.heap.size)).trans (hk.mono (fun q _ hq => hnm q (by have hq' : q < w.heap.size := hq; omega)))
    have hXZ : Ext w Z := hkw.ext (fun _ h => h)
    have HXZ := hid hXZ
    have HTZ := hid (HR.out.low.keep hkw)
    have HUZ := hid (HR'.out.low.keep hkw)
    have htb := hk.block' HT3.out (hnm _ (by omega))
    have hub := hk.block' HU3.out (hnm _ (by omega))
    have hrb := hk.block' HR3.out (hnm _ (by omega))
    have hnb := hk.block' HN3.out (hnm _ (by omega))
    rw [HST.out] at hI
    obtain ⟨v, vs, _, hpb, hrow, hvl, hall⟩ := hI
    obtain ⟨av, cv, rfl⟩ := ownsRow_slice hrow
    obtain ⟨g, hav⟩ : ∃ g, av = some ⟨g, 0, none⟩ := by
      rcases hrow.2 with ⟨_, h0⟩ | ⟨g, cap, cur, hv, _⟩
      · omega
      · injection hv with h1; exact ⟨g, h1⟩
    subst hav
    have HBZ := hid (And.intro htb (And.intro hub (And.intro hrb (And.intro hnb hpb))))
    have HROW := hid hrow
    have HALL := hid hall
    have HD := hid hd
    have hZW : w3.heap.size ≤ Z.heap.size := hk.size
    have c0 := cell_of (i := 0) hnb rfl
    have c1 := cell_of (i := 0) hpb rfl
    simp only [List.getElem_toArray, List.getElem_cons_zero] at c0 c1
    clear hnm hkw hXZ htb hub hrb hnb hrow hall hpb hmd hsub hk hd
    have hne0 : ((S : Int) == 0) = false := by simp; omega
    rename_i KK hKK lf1 lf2
    obtain ⟨m, hm, hrm⟩ := rem_nat pick S (by omega)
    have HRM := hid hrm
    obtain ⟨y, hy⟩ : ∃ y, vs[m]? = some y := ⟨vs[m]'(by omega), List.getElem?_eq_getElem (by omega)⟩
    obtain ⟨ey, hey, hpy⟩ := HALL.out m y hy
    obtain ⟨ya, yc, rfl⟩ := hpy.shape
    have hyl : ey.1.length ≤ 64 := path_len HS.out hey
    have HAT := hid (show T.at? t ey.1 = some ey.2 from path_at hey)
    have HCM := hid ((HROW.out.cellAt m (by omega)).trans hy)
    have HPY := hid hpy
    have hmS : (m : Int) < (S : Int) := by omega
    have CA := hid (show ∀ W', Ext Z W' → Calls Try.prog 16 #[.agg #[.string k, .int .i64 n, .string x, .slice a kt c], .slice ya ey.1.length yc] W' fun e w' => ∃ k1 n1 x1 a1 l1 c1 d1, e = .returned (.tuple #[.agg #[.string k1, .int .i64 n1, .string x1, .slice a1 l1 c1], .int .i64 0]) ∧ Rd (fun q => W'.heap.size ≤ q) w' d1 (.agg #[.string k1, .int .i64 n1, .string x1, .slice a1 l1 c1]) ey.2 ∧ Ext W' w' from fun W' Y =>
      at_given W' ya yc ey.1 (HTZ.out.later Y) (HPY.out.ints.later Y) (by omega) HS.out HAT.out)
    show KK _ Z
    refine hKK _ _ (wpIn_wide.2 ?_)
    clear hKK lf1 lf2 hrm hy hey hpy
    go_upto_if 100 with fail
    go_cut [18] from 30 (fun s18 wx => s18 = .int .i64 (m : Int) ∧ wx = Z)
    case first =>
      rcases HRM.out with hr | ⟨hr, hp⟩
      · have hd1 : decide (pick.tmod (S : Int) < 0) = false := decide_eq_false (by omega)
        have hd2 : ¬ pick.tmod (S : Int) < 0 := by omega
        go_wp2_with fail
        go_meet
        case rel => exact ⟨by first | rfl | rw [hr], rfl⟩
      · have hd1 : decide (pick.tmod (S : Int) < 0) = true := decide_eq_true (by omega)
        have hd2 : pick.tmod (S : Int) < 0 := by omega
        have hw : wrap64 (- -(m : Int)) = (m : Int) := by rw [Int.neg_neg]; exact wrap64_small (by omega) (by omega)
        go_wp2_with fail
        go_meet
        case rel => exact ⟨by first | rfl | rw [hr, hw] | rw [hw], rfl⟩
    case rest =>
      obtain ⟨rfl, hwc⟩ := hcut
      rw [hwc]
      clear hwc
      have HSK := hid (show ∀ W', Ext Z W' → W'.cell? ⟨w.heap.size, 0, none⟩ = some (.string k) ∧ W'.cell? ⟨w.heap.size, 1, none⟩ = some (.int .i64 n) ∧ W'.cell? ⟨w.heap.size, 2, none⟩ = some (.string x) ∧ W'.cell? ⟨w.heap.size, 3, none⟩ = some (.slice a kt c) ∧ W'.cell? ⟨w2.heap.size, 0, none⟩ = some (.slice (some ⟨g, 0, none⟩) S cv) ∧ W'.cell? ⟨g, m, none⟩ = some (.slice ya ey.1.length yc) from fun W' Y => by
        obtain ⟨t0, t1, t2, t3⟩ := four_of ((Y).block HBZ.out.1)
        exact ⟨t0, t1, t2, t3, cell_of (i := 0) ((Y).block HBZ.out.2.2.2.2) rfl, (((Y)).kp (fun _ => True)).cell HCM.out trivial⟩)
      have HSS := hid (show ∀ W' b a0 a1 a2 a3, Ext Z W' → Z.heap.size ≤ b → ((((W'.setCell ⟨b, 0, none⟩ a0).setCell ⟨b, 1, none⟩ a1).setCell ⟨b, 2, none⟩ a2).setCell ⟨b, 3, none⟩ a3).cell? ⟨w.heap.size, 0, none⟩ = some (.string k) ∧ ((((W'.setCell ⟨b, 0, none⟩ a0).setCell ⟨b, 1, none⟩ a1).setCell ⟨b, 2, none⟩ a2).setCell ⟨b, 3, none⟩ a3).cell? ⟨w.heap.size, 1, none⟩ = some (.int .i64 n) ∧ ((((W'.setCell ⟨b, 0, none⟩ a0).setCell ⟨b, 1, none⟩ a1).setCell ⟨b, 2, none⟩ a2).setCell ⟨b, 3, none⟩ a3).cell? ⟨w.heap.size, 2, none⟩ = some (.string x) ∧ ((((W'.setCell ⟨b, 0, none⟩ a0).setCell ⟨b, 1, none⟩ a1).setCell ⟨b, 2, none⟩ a2).setCell ⟨b, 3, none⟩ a3).cell? ⟨w.heap.size, 3, none⟩ = some (.slice a kt c) ∧ ((((W'.setCell ⟨b, 0, none⟩ a0).setCell ⟨b, 1, none⟩ a1).setCell ⟨b, 2, none⟩ a2).setCell ⟨b, 3, none⟩ a3).cell? ⟨w2.heap.size, 0, none⟩ = some (.slice (some ⟨g, 0, none⟩) S cv) ∧ ((((W'.setCell ⟨b, 0, none⟩ a0).setCell ⟨b, 1, none⟩ a1).setCell ⟨b, 2, none⟩ a2).setCell ⟨b, 3, none⟩ a3).cell? ⟨g, m, none⟩ = some (.slice ya ey.1.length yc) from fun W' b a0 a1 a2 a3 Y hb => HSK.out _ (Kp.extOf Y (Kp.set4 W' b 0 a0 a1 a2 a3) hb))
      have SK0 := HSK.out Z (Ext.refl _)
      go_upto_region 24 with fail
      go_cut [19, 20] from 30 (fun s19 s20 wx => ∃ bq1 kq1 nq1 xq1 aq1 lq1 cq1 dq1, s19 = .pointer (some ⟨bq1, 0, none⟩) ∧ s20 = .int .i64 0 ∧ wx.heap[bq1]? = some (.cells #[.string kq1, .int .i64 nq1, .string xq1, .slice aq1 lq1 cq1] 26) ∧ Rd (fun _ => True) wx dq1 (.agg #[.string kq1, .int .i64 nq1, .string xq1, .slice aq1 lq1 cq1]) (ey.2) ∧ Ext Z wx ∧ Z.heap.size ≤ bq1)
      case first =>
        rename_i J9 K9 hJ9 hK9
        have HK8 := hid (show ∀ a w, J9 a w → K9 a w from fun a w h => hK9 a w (Met.intro h))
        go_light
        as_aux_lemma =>
          go_region_held3 (fun W' => W'.cell? ⟨w.heap.size, 0, none⟩ = some (.string k) ∧ W'.cell? ⟨w.heap.size, 1, none⟩ = some (.int .i64 n) ∧ W'.cell? ⟨w.heap.size, 2, none⟩ = some (.string x) ∧ W'.cell? ⟨w.heap.size, 3, none⟩ = some (.slice a kt c) ∧ W'.cell? ⟨w2.heap.size, 0, none⟩ = some (.slice (some ⟨g, 0, none⟩) S cv) ∧ W'.cell? ⟨g, m, none⟩ = some (.slice ya ey.1.length yc)) (first | with_reducible exact SK1 | with_reducible exact SK0 | with_reducible exact HSS.out _ _ _ _ _ _ (by repeat (first | with_reducible exact Y1 | with_reducible exact Ext.refl _ | with_reducible refine Ext.drew ?_ | with_reducible refine Ext.more ?_ _)) (by first | exact Nat.le_refl _ | (have := Below.size Y1; omega) | (simp; have := Below.size Y1; omega)) | with_reducible exact HSK.out _ (by repeat (first | with_reducible exact Y1 | with_reducible exact Ext.refl _ | with_reducible refine Ext.drew ?_ | with_reducible refine Ext.more ?_ _)) | go_keep) ((go_at_call 16; refine (CA.out _ (by repeat (first | with_reducible exact Ext.refl _ | with_reducible refine Ext.drew ?_ | with_reducible refine Ext.more ?_ _))).mono ?_; rintro r v1 ⟨kq1, nq1, xq1, aq1, lq1, cq1, dq1, rfl, hrd, hv1⟩; have Y1 : Ext Z v1 := Ext.trans (by repeat (first | with_reducible exact Ext.refl _ | with_reducible refine Ext.drew ?_ | with_reducible refine Ext.more ?_ _)) hv1; have SK1 := HSK.out v1 Y1; (try have bC : v1.heap[Z.heap.size]? = some (.cells #[.string ⟨#[]⟩, .int .i64 0, .string ⟨#[]⟩, .slice none 0 0] 26) := hv1.block (blk0 Z _)); (try have bC0 := cell_of (i := 0) bC rfl); (try have bC1 := cell_of (i := 1) bC rfl); (try have bC2 := cell_of (i := 2) bC rfl); (try have bC3 := cell_of (i := 3) bC rfl); (try have bD0 := frozen_of (i := 0) bC); (try have bD1 := frozen_of (i := 1) bC); (try have bD2 := frozen_of (i := 2) bC); (try have bD3 := frozen_of (i := 3) bC); (try simp only [List.getElem_toArray, List.getElem_cons_zero, List.getElem_cons_succ] at bC0 bC1 bC2 bC3)))
          all_goals
            go_wp2_with fail
            refine HK8.out _ _ (hJ9 _ _ ?_)
            (repeat apply Exists.intro)
            refine ⟨?rel, rfl⟩
            case rel =>
              first
                | (refine ⟨v1.heap.size, kq1, nq1, xq1, aq1, lq1, cq1, dq1, by with_reducible rfl, by with_reducible rfl, ?_, ?_, ?_, ?_⟩
                   · exact blk0 v1 _
                   · exact (hrd.later (Ext.alloc _ _)).mono (fun _ _ _ => trivial)
                   · exact Ext.trans Y1 (Ext.alloc _ _)
                   · exact Below.size Y1)
                | (refine ⟨Z.heap.size, kq1, nq1, xq1, aq1, lq1, cq1, dq1, by with_reducible rfl, by with_reducible rfl, ?_, ?_, ?_, ?_⟩
                   · exact four_set bC
                   · exact (hrd.keep ((Kp.set4 v1 Z.heap.size 0 _ _ _ _).mono (fun q _ hq e => by have e' : q = Z.heap.size := e; simp at hq; omega))).mono (fun _ _ _ => trivial)
                   · exact Kp.extOf Y1 (Kp.set4 v1 Z.heap.size 0 _ _ _ _) (Nat.le_refl _)
                   · exact Nat.le_refl _)
      case rest =>
        obtain ⟨bq1, kq1, nq1, xq1, aq1, lq1, cq1, dq1, rfl, rfl, hbq1, hrq1, hxq1, hlq1⟩ := hcut
        obtain ⟨Mq1, rfl⟩ : ∃ Mq1, Mq1 = wc := ⟨wc, rfl⟩
        have HBq1 := hid hbq1
        have HRq1 := hid hrq1
        have HXq1 := hid hxq1
        clear hbq1 hrq1 hxq1 HSK HSS SK0
        by_cases hput : (T.put t ey.1 u).small
        · have HP := hid hput
          have CB := hid (show ∀ W', Ext Mq1 W' → Calls Try.prog 19 #[.agg #[.string k, .int .i64 n, .string x, .slice a kt c], .slice ya ey.1.length yc, .agg #[.string k', .int .i64 n', .string x', .slice a' ku c']] W' fun e w' => ∃ k1 n1 x1 a1 l1 c1 d1, e = .returned (.tuple #[.agg #[.string k1, .int .i64 n1, .string x1, .slice a1 l1 c1], .int .i64 0]) ∧ Rd (fun q => W'.heap.size ≤ q) w' d1 (.agg #[.string k1, .int .i64 n1, .string x1, .slice a1 l1 c1]) (T.put t ey.1 u) ∧ Ext W' w' from fun W' Y =>
            put_given W' ya yc ey.1 (HTZ.out.later (HXq1.out.trans Y)) (HUZ.out.later (HXq1.out.trans Y)) (HPY.out.ints.later (HXq1.out.trans Y)) (by omega) HS.out HS'.out HAT.out HP.out)
          clear hput
          have HSK := hid (show ∀ W', Ext Mq1 W' → W'.cell? ⟨w.heap.size, 0, none⟩ = some (.string k) ∧ W'.cell? ⟨w.heap.size, 1, none⟩ = some (.int .i64 n) ∧ W'.cell? ⟨w.heap.size, 2, none⟩ = some (.string x) ∧ W'.cell? ⟨w.heap.size, 3, none⟩ = some (.slice a kt c) ∧ W'.cell? ⟨w.heap.size + 1, 0, none⟩ = some (.string k') ∧ W'.cell? ⟨w.heap.size + 1, 1, none⟩ = some (.int .i64 n') ∧ W'.cell? ⟨w.heap.size + 1, 2, none⟩ = some (.string x') ∧ W'.cell? ⟨w.heap.size + 1, 3, none⟩ = some (.slice a' ku c') ∧ W'.cell? ⟨w2.heap.size, 0, none⟩ = some (.slice (some ⟨g, 0, none⟩) S cv) ∧ W'.cell? ⟨g, m, none⟩ = some (.slice ya ey.1.length yc) from fun W' Y => by
            obtain ⟨t0, t1, t2, t3⟩ := four_of ((HXq1.out.trans Y).block HBZ.out.1)
            obtain ⟨y0, y1, y2, y3⟩ := four_of ((HXq1.out.trans Y).block HBZ.out.2.1)
            exact ⟨t0, t1, t2, t3, y0, y1, y2, y3, cell_of (i := 0) ((HXq1.out.trans Y).block HBZ.out.2.2.2.2) rfl, (((HXq1.out.trans Y)).kp (fun _ => True)).cell HCM.out trivial⟩)
          have HSS := hid (show ∀ W' b a0 a1 a2 a3, Ext Mq1 W' → Mq1.heap.size ≤ b → ((((W'.setCell ⟨b, 0, none⟩ a0).setCell ⟨b, 1, none⟩ a1).setCell ⟨b, 2, none⟩ a2).setCell ⟨b, 3, none⟩ a3).cell? ⟨w.heap.size, 0, none⟩ = some (.string k) ∧ ((((W'.setCell ⟨b, 0, none⟩ a0).setCell ⟨b, 1, none⟩ a1).setCell ⟨b, 2, none⟩ a2).setCell ⟨b, 3, none⟩ a3).cell? ⟨w.heap.size, 1, none⟩ = some (.int .i64 n) ∧ ((((W'.setCell ⟨b, 0, none⟩ a0).setCell ⟨b, 1, none⟩ a1).setCell ⟨b, 2, none⟩ a2).setCell ⟨b, 3, none⟩ a3).cell? ⟨w.heap.size, 2, none⟩ = some (.string x) ∧ ((((W'.setCell ⟨b, 0, none⟩ a0).setCell ⟨b, 1, none⟩ a1).setCell ⟨b, 2, none⟩ a2).setCell ⟨b, 3, none⟩ a3).cell? ⟨w.heap.size, 3, none⟩ = some (.slice a kt c) ∧ ((((W'.setCell ⟨b, 0, none⟩ a0).setCell ⟨b, 1, none⟩ a1).setCell ⟨b, 2, none⟩ a2).setCell ⟨b, 3, none⟩ a3).cell? ⟨w.heap.size + 1, 0, none⟩ = some (.string k') ∧ ((((W'.setCell ⟨b, 0, none⟩ a0).setCell ⟨b, 1, none⟩ a1).setCell ⟨b, 2, none⟩ a2).setCell ⟨b, 3, none⟩ a3).cell? ⟨w.heap.size + 1, 1, none⟩ = some (.int .i64 n') ∧ ((((W'.setCell ⟨b, 0, none⟩ a0).setCell ⟨b, 1, none⟩ a1).setCell ⟨b, 2, none⟩ a2).setCell ⟨b, 3, none⟩ a3).cell? ⟨w.heap.size + 1, 2, none⟩ = some (.string x') ∧ ((((W'.setCell ⟨b, 0, none⟩ a0).setCell ⟨b, 1, none⟩ a1).setCell ⟨b, 2, none⟩ a2).setCell ⟨b, 3, none⟩ a3).cell? ⟨w.heap.size + 1, 3, none⟩ = some (.slice a' ku c') ∧ ((((W'.setCell ⟨b, 0, none⟩ a0).setCell ⟨b, 1, none⟩ a1).setCell ⟨b, 2, none⟩ a2).setCell ⟨b, 3, none⟩ a3).cell? ⟨w2.heap.size, 0, none⟩ = some (.slice (some ⟨g, 0, none⟩) S cv) ∧ ((((W'.setCell ⟨b, 0, none⟩ a0).setCell ⟨b, 1, none⟩ a1).setCell ⟨b, 2, none⟩ a2).setCell ⟨b, 3, none⟩ a3).cell? ⟨g, m, none⟩ = some (.slice ya ey.1.length yc) from fun W' b a0 a1 a2 a3 Y hb => HSK.out _ (Kp.extOf Y (Kp.set4 W' b 0 a0 a1 a2 a3) hb))
          have SK0 := HSK.out Mq1 (Ext.refl _)
          go_upto_region 25 with fail
          go_cut [21, 22] from 30 (fun s21 s22 wx => ∃ bq2 kq2 nq2 xq2 aq2 lq2 cq2 dq2, s21 = .pointer (some ⟨bq2, 0, none⟩) ∧ s22 = .int .i64 0 ∧ wx.heap[bq2]? = some (.cells #[.string kq2, .int .i64 nq2, .string xq2, .slice aq2 lq2 cq2] 26) ∧ Rd (fun _ => True) wx dq2 (.agg #[.string kq2, .int .i64 nq2, .string xq2, .slice aq2 lq2 cq2]) (T.put t ey.1 u) ∧ Ext Mq1 wx ∧ Mq1.heap.size ≤ bq2)
          case first =>
            rename_i J9 K9 hJ9 hK9
            have HK8 := hid (show ∀ a w, J9 a w → K9 a w from fun a w h => hK9 a w (Met.intro h))
            go_light
            as_aux_lemma =>
              go_region_held3 (fun W' => W'.cell? ⟨w.heap.size, 0, none⟩ = some (.string k) ∧ W'.cell? ⟨w.heap.size, 1, none⟩ = some (.int .i64 n) ∧ W'.cell? ⟨w.heap.size, 2, none⟩ = some (.string x) ∧ W'.cell? ⟨w.heap.size, 3, none⟩ = some (.slice a kt c) ∧ W'.cell? ⟨w.heap.size + 1, 0, none⟩ = some (.string k') ∧ W'.cell? ⟨w.heap.size + 1, 1, none⟩ = some (.int .i64 n') ∧ W'.cell? ⟨w.heap.size + 1, 2, none⟩ = some (.string x') ∧ W'.cell? ⟨w.heap.size + 1, 3, none⟩ = some (.slice a' ku c') ∧ W'.cell? ⟨w2.heap.size, 0, none⟩ = some (.slice (some ⟨g, 0, none⟩) S cv) ∧ W'.cell? ⟨g, m, none⟩ = some (.slice ya ey.1.length yc)) (first | with_reducible exact SK1 | with_reducible exact SK0 | with_reducible exact HSS.out _ _ _ _ _ _ (by repeat (first | with_reducible exact Y1 | with_reducible exact Ext.refl _ | with_reducible refine Ext.drew ?_ | with_reducible refine Ext.more ?_ _)) (by first | exact Nat.le_refl _ | (have := Below.size Y1; omega) | (simp; have := Below.size Y1; omega)) | with_reducible exact HSK.out _ (by repeat (first | with_reducible exact Y1 | with_reducible exact Ext.refl _ | with_reducible refine Ext.drew ?_ | with_reducible refine Ext.more ?_ _)) | go_keep) ((go_at_call 19; refine (CB.out _ (by repeat (first | with_reducible exact Ext.refl _ | with_reducible refine Ext.drew ?_ | with_reducible refine Ext.more ?_ _))).mono ?_; rintro r v1 ⟨kq2, nq2, xq2, aq2, lq2, cq2, dq2, rfl, hrd, hv1⟩; have Y1 : Ext Mq1 v1 := Ext.trans (by repeat (first | with_reducible exact Ext.refl _ | with_reducible refine Ext.drew ?_ | with_reducible refine Ext.more ?_ _)) hv1; have SK1 := HSK.out v1 Y1; (try have bC : v1.heap[Mq1.heap.size]? = some (.cells #[.string ⟨#[]⟩, .int .i64 0, .string ⟨#[]⟩, .slice none 0 0] 26) := hv1.block (blk0 Mq1 _)); (try have bC0 := cell_of (i := 0) bC rfl); (try have bC1 := cell_of (i := 1) bC rfl); (try have bC2 := cell_of (i := 2) bC rfl); (try have bC3 := cell_of (i := 3) bC rfl); (try have bD0 := frozen_of (i := 0) bC); (try have bD1 := frozen_of (i := 1) bC); (try have bD2 := frozen_of (i := 2) bC); (try have bD3 := frozen_of (i := 3) bC); (try simp only [List.getElem_toArray, List.getElem_cons_zero, List.getElem_cons_succ] at bC0 bC1 bC2 bC3)))
              all_goals
                go_wp2_with fail
                refine HK8.out _ _ (hJ9 _ _ ?_)
                (repeat apply Exists.intro)
                refine ⟨?rel, rfl⟩
                case rel =>
                  first
                    | (refine ⟨v1.heap.size, kq2, nq2, xq2, aq2, lq2, cq2, dq2, by with_reducible rfl, by with_reducible rfl, ?_, ?_, ?_, ?_⟩
                       · exact blk0 v1 _
                       · exact (hrd.later (Ext.alloc _ _)).mono (fun _ _ _ => trivial)
                       · exact Ext.trans Y1 (Ext.alloc _ _)
                       · exact Below.size Y1)
                    | (refine ⟨Mq1.heap.size, kq2, nq2, xq2, aq2, lq2, cq2, dq2, by with_reducible rfl, by with_reducible rfl, ?_, ?_, ?_, ?_⟩
                       · exact four_set bC
                       · exact (hrd.keep ((Kp.set4 v1 Mq1.heap.size 0 _ _ _ _).mono (fun q _ hq e => by have e' : q = Mq1.heap.size := e; simp at hq; omega))).mono (fun _ _ _ => trivial)
                       · exact Kp.extOf Y1 (Kp.set4 v1 Mq1.heap.size 0 _ _ _ _) (Nat.le_refl _)
                       · exact Nat.le_refl _)
          case rest =>
            obtain ⟨bq2, kq2, nq2, xq2, aq2, lq2, cq2, dq2, rfl, rfl, hbq2, hrq2, hxq2, hlq2⟩ := hcut
            obtain ⟨Mq2, rfl⟩ : ∃ Mq2, Mq2 = wc := ⟨wc, rfl⟩
            have HBq2 := hid hbq2
            have HRq2 := hid hrq2
            have HXq2 := hid hxq2
            clear hbq2 hrq2 hxq2 HSK HSS SK0
            have CE := hid (show ∀ W', Ext Mq2 W' → Calls Try.prog 16 #[.agg #[.string kq2, .int .i64 nq2, .string xq2, .slice aq2 lq2 cq2], .slice ya ey.1.length yc] W' fun e w' => ∃ k1 n1 x1 a1 l1 c1 d1, e = .returned (.tuple #[.agg #[.string k1, .int .i64 n1, .string x1, .slice a1 l1 c1], .int .i64 0]) ∧ Rd (fun q => W'.heap.size ≤ q) w' d1 (.agg #[.string k1, .int .i64 n1, .string x1, .slice a1 l1 c1]) (u) ∧ Ext W' w' from fun W' Y =>
              at_given W' ya yc ey.1 (HRq2.out.later Y) (HPY.out.ints.later ((HXq1.out.trans HXq2.out).trans Y)) (by omega) HP.out (T.at_put u HAT.out))
            have HSK := hid (show ∀ W', Ext Mq2 W' → W'.cell? ⟨bq2, 0, none⟩ = some (.string kq2) ∧ W'.cell? ⟨bq2, 1, none⟩ = some (.int .i64 nq2) ∧ W'.cell? ⟨bq2, 2, none⟩ = some (.string xq2) ∧ W'.cell? ⟨bq2, 3, none⟩ = some (.slice aq2 lq2 cq2) ∧ W'.cell? ⟨w2.heap.size, 0, none⟩ = some (.slice (some ⟨g, 0, none⟩) S cv) ∧ W'.cell? ⟨g, m, none⟩ = some (.slice ya ey.1.length yc) from fun W' Y => by
              obtain ⟨zq20, zq21, zq22, zq23⟩ := four_of ((Y).block HBq2.out)
              exact ⟨zq20, zq21, zq22, zq23, cell_of (i := 0) (((HXq1.out.trans HXq2.out).trans Y).block HBZ.out.2.2.2.2) rfl, ((((HXq1.out.trans HXq2.out).trans Y)).kp (fun _ => True)).cell HCM.out trivial⟩)
            have HSS := hid (show ∀ W' b a0 a1 a2 a3, Ext Mq2 W' → Mq2.heap.size ≤ b → ((((W'.setCell ⟨b, 0, none⟩ a0).setCell ⟨b, 1, none⟩ a1).setCell ⟨b, 2, none⟩ a2).setCell ⟨b, 3, none⟩ a3).cell? ⟨bq2, 0, none⟩ = some (.string kq2) ∧ ((((W'.setCell ⟨b, 0, none⟩ a0).setCell ⟨b, 1, none⟩ a1).setCell ⟨b, 2, none⟩ a2).setCell ⟨b, 3, none⟩ a3).cell? ⟨bq2, 1, none⟩ = some (.int .i64 nq2) ∧ ((((W'.setCell ⟨b, 0, none⟩ a0).setCell ⟨b, 1, none⟩ a1).setCell ⟨b, 2, none⟩ a2).setCell ⟨b, 3, none⟩ a3).cell? ⟨bq2, 2, none⟩ = some (.string xq2) ∧ ((((W'.setCell ⟨b, 0, none⟩ a0).setCell ⟨b, 1, none⟩ a1).setCell ⟨b, 2, none⟩ a2).setCell ⟨b, 3, none⟩ a3).cell? ⟨bq2, 3, none⟩ = some (.slice aq2 lq2 cq2) ∧ ((((W'.setCell ⟨b, 0, none⟩ a0).setCell ⟨b, 1, none⟩ a1).setCell ⟨b, 2, none⟩ a2).setCell ⟨b, 3, none⟩ a3).cell? ⟨w2.heap.size, 0, none⟩ = some (.slice (some ⟨g, 0, none⟩) S cv) ∧ ((((W'.setCell ⟨b, 0, none⟩ a0).setCell ⟨b, 1, none⟩ a1).setCell ⟨b, 2, none⟩ a2).setCell ⟨b, 3, none⟩ a3).cell? ⟨g, m, none⟩ = some (.slice ya ey.1.length yc) from fun W' b a0 a1 a2 a3 Y hb => HSK.out _ (Kp.extOf Y (Kp.set4 W' b 0 a0 a1 a2 a3) hb))
            have SK0 := HSK.out Mq2 (Ext.refl _)
            go_upto_region 29 with fail
            go_cut [26, 27] from 30 (fun s26 s27 wx => ∃ bq3 kq3 nq3 xq3 aq3 lq3 cq3 dq3, s26 = .pointer (some ⟨bq3, 0, none⟩) ∧ s27 = .int .i64 0 ∧ wx.heap[bq3]? = some (.cells #[.string kq3, .int .i64 nq3, .string xq3, .slice aq3 lq3 cq3] 26) ∧ Rd (fun _ => True) wx dq3 (.agg #[.string kq3, .int .i64 nq3, .string xq3, .slice aq3 lq3 cq3]) (u) ∧ Ext Mq2 wx ∧ Mq2.heap.size ≤ bq3)
            case first =>
              rename_i J9 K9 hJ9 hK9
              have HK8 := hid (show ∀ a w, J9 a w → K9 a w from fun a w h => hK9 a w (Met.intro h))
              go_light
              as_aux_lemma =>
                go_region_held3 (fun W' => W'.cell? ⟨bq2, 0, none⟩ = some (.string kq2) ∧ W'.cell? ⟨bq2, 1, none⟩ = some (.int .i64 nq2) ∧ W'.cell? ⟨bq2, 2, none⟩ = some (.string xq2) ∧ W'.cell? ⟨bq2, 3, none⟩ = some (.slice aq2 lq2 cq2) ∧ W'.cell? ⟨w2.heap.size, 0, none⟩ = some (.slice (some ⟨g, 0, none⟩) S cv) ∧ W'.cell? ⟨g, m, none⟩ = some (.slice ya ey.1.length yc)) (first | with_reducible exact SK1 | with_reducible exact SK0 | with_reducible exact HSS.out _ _ _ _ _ _ (by repeat (first | with_reducible exact Y1 | with_reducible exact Ext.refl _ | with_reducible refine Ext.drew ?_ | with_reducible refine Ext.more ?_ _)) (by first | exact Nat.le_refl _ | (have := Below.size Y1; omega) | (simp; have := Below.size Y1; omega)) | with_reducible exact HSK.out _ (by repeat (first | with_reducible exact Y1 | with_reducible exact Ext.refl _ | with_reducible refine Ext.drew ?_ | with_reducible refine Ext.more ?_ _)) | go_keep) ((go_at_call 16; refine (CE.out _ (by repeat (first | with_reducible exact Ext.refl _ | with_reducible refine Ext.drew ?_ | with_reducible refine Ext.more ?_ _))).mono ?_; rintro r v1 ⟨kq3, nq3, xq3, aq3, lq3, cq3, dq3, rfl, hrd, hv1⟩; have Y1 : Ext Mq2 v1 := Ext.trans (by repeat (first | with_reducible exact Ext.refl _ | with_reducible refine Ext.drew ?_ | with_reducible refine Ext.more ?_ _)) hv1; have SK1 := HSK.out v1 Y1; (try have bC : v1.heap[Mq2.heap.size]? = some (.cells #[.string ⟨#[]⟩, .int .i64 0, .string ⟨#[]⟩, .slice none 0 0] 26) := hv1.block (blk0 Mq2 _)); (try have bC0 := cell_of (i := 0) bC rfl); (try have bC1 := cell_of (i := 1) bC rfl); (try have bC2 := cell_of (i := 2) bC rfl); (try have bC3 := cell_of (i := 3) bC rfl); (try have bD0 := frozen_of (i := 0) bC); (try have bD1 := frozen_of (i := 1) bC); (try have bD2 := frozen_of (i := 2) bC); (try have bD3 := frozen_of (i := 3) bC); (try simp only [List.getElem_toArray, List.getElem_cons_zero, List.getElem_cons_succ] at bC0 bC1 bC2 bC3)))
                all_goals
                  go_wp2_with fail
                  refine HK8.out _ _ (hJ9 _ _ ?_)
                  (repeat apply Exists.intro)
                  refine ⟨?rel, rfl⟩
                  case rel =>
                    first
                      | (refine ⟨v1.heap.size, kq3, nq3, xq3, aq3, lq3, cq3, dq3, by with_reducible rfl, by with_reducible rfl, ?_, ?_, ?_, ?_⟩
                         · exact blk0 v1 _
                         · exact (hrd.later (Ext.alloc _ _)).mono (fun _ _ _ => trivial)
                         · exact Ext.trans Y1 (Ext.alloc _ _)
                         · exact Below.size Y1)
                      | (refine ⟨Mq2.heap.size, kq3, nq3, xq3, aq3, lq3, cq3, dq3, by with_reducible rfl, by with_reducible rfl, ?_, ?_, ?_, ?_⟩
                         · exact four_set bC
                         · exact (hrd.keep ((Kp.set4 v1 Mq2.heap.size 0 _ _ _ _).mono (fun q _ hq e => by have e' : q = Mq2.heap.size := e; simp at hq; omega))).mono (fun _ _ _ => trivial)
                         · exact Kp.extOf Y1 (Kp.set4 v1 Mq2.heap.size 0 _ _ _ _) (Nat.le_refl _)
                         · exact Nat.le_refl _)
            case rest =>
              obtain ⟨bq3, kq3, nq3, xq3, aq3, lq3, cq3, dq3, rfl, rfl, hbq3, hrq3, hxq3, hlq3⟩ := hcut
              obtain ⟨Mq3, rfl⟩ : ∃ Mq3, Mq3 = wc := ⟨wc, rfl⟩
              have HBq3 := hid hbq3
              have HRq3 := hid hrq3
              have HXq3 := hid hxq3
              clear hbq3 hrq3 hxq3 HSK HSS SK0
              have CG := hid (show ∀ W', Ext Mq3 W' → Calls Try.prog 19 #[.agg #[.string kq2, .int .i64 nq2, .string xq2, .slice aq2 lq2 cq2], .slice ya ey.1.length yc, .agg #[.string kq1, .int .i64 nq1, .string xq1, .slice aq1 lq1 cq1]] W' fun e w' => ∃ k1 n1 x1 a1 l1 c1 d1, e = .returned (.tuple #[.agg #[.string k1, .int .i64 n1, .string x1, .slice a1 l1 c1], .int .i64 0]) ∧ Rd (fun q => W'.heap.size ≤ q) w' d1 (.agg #[.string k1, .int .i64 n1, .string x1, .slice a1 l1 c1]) (t) ∧ Ext W' w' from fun W' Y => by
                have h := put_given W' ya yc ey.1 (HRq2.out.later (HXq3.out.trans Y)) (HRq1.out.later ((HXq2.out.trans HXq3.out).trans Y)) (HPY.out.ints.later (((HXq1.out.trans HXq2.out).trans HXq3.out).trans Y)) (by omega) HP.out (T.at_small HS.out HAT.out) (T.at_put u HAT.out) (by rw [T.put_back u HAT.out]; exact HS.out)
                rw [T.put_back u HAT.out] at h
                exact h)
              have HSK := hid (show ∀ W', Ext Mq3 W' → W'.cell? ⟨bq2, 0, none⟩ = some (.string kq2) ∧ W'.cell? ⟨bq2, 1, none⟩ = some (.int .i64 nq2) ∧ W'.cell? ⟨bq2, 2, none⟩ = some (.string xq2) ∧ W'.cell? ⟨bq2, 3, none⟩ = some (.slice aq2 lq2 cq2) ∧ W'.cell? ⟨w2.heap.size, 0, none⟩ = some (.slice (some ⟨g, 0, none⟩) S cv) ∧ W'.cell? ⟨g, m, none⟩ = some (.slice ya ey.1.length yc) ∧ W'.cell? ⟨bq1, 0, none⟩ = some (.string kq1) ∧ W'.cell? ⟨bq1, 1, none⟩ = some (.int .i64 nq1) ∧ W'.cell? ⟨bq1, 2, none⟩ = some (.string xq1) ∧ W'.cell? ⟨bq1, 3, none⟩ = some (.slice aq1 lq1 cq1) from fun W' Y => by
                obtain ⟨zq20, zq21, zq22, zq23⟩ := four_of ((HXq3.out.trans Y).block HBq2.out)
                obtain ⟨zq10, zq11, zq12, zq13⟩ := four_of (((HXq2.out.trans HXq3.out).trans Y).block HBq1.out)
                exact ⟨zq20, zq21, zq22, zq23, cell_of (i := 0) ((((HXq1.out.trans HXq2.out).trans HXq3.out).trans Y).block HBZ.out.2.2.2.2) rfl, (((((HXq1.out.trans HXq2.out).trans HXq3.out).trans Y)).kp (fun _ => True)).cell HCM.out trivial, zq10, zq11, zq12, zq13⟩)
              have HSS := hid (show ∀ W' b a0 a1 a2 a3, Ext Mq3 W' → Mq3.heap.size ≤ b → ((((W'.setCell ⟨b, 0, none⟩ a0).setCell ⟨b, 1, none⟩ a1).setCell ⟨b, 2, none⟩ a2).setCell ⟨b, 3, none⟩ a3).cell? ⟨bq2, 0, none⟩ = some (.string kq2) ∧ ((((W'.setCell ⟨b, 0, none⟩ a0).setCell ⟨b, 1, none⟩ a1).setCell ⟨b, 2, none⟩ a2).setCell ⟨b, 3, none⟩ a3).cell? ⟨bq2, 1, none⟩ = some (.int .i64 nq2) ∧ ((((W'.setCell ⟨b, 0, none⟩ a0).setCell ⟨b, 1, none⟩ a1).setCell ⟨b, 2, none⟩ a2).setCell ⟨b, 3, none⟩ a3).cell? ⟨bq2, 2, none⟩ = some (.string xq2) ∧ ((((W'.setCell ⟨b, 0, none⟩ a0).setCell ⟨b, 1, none⟩ a1).setCell ⟨b, 2, none⟩ a2).setCell ⟨b, 3, none⟩ a3).cell? ⟨bq2, 3, none⟩ = some (.slice aq2 lq2 cq2) ∧ ((((W'.setCell ⟨b, 0, none⟩ a0).setCell ⟨b, 1, none⟩ a1).setCell ⟨b, 2, none⟩ a2).setCell ⟨b, 3, none⟩ a3).cell? ⟨w2.heap.size, 0, none⟩ = some (.slice (some ⟨g, 0, none⟩) S cv) ∧ ((((W'.setCell ⟨b, 0, none⟩ a0).setCell ⟨b, 1, none⟩ a1).setCell ⟨b, 2, none⟩ a2).setCell ⟨b, 3, none⟩ a3).cell? ⟨g, m, none⟩ = some (.slice ya ey.1.length yc) ∧ ((((W'.setCell ⟨b, 0, none⟩ a0).setCell ⟨b, 1, none⟩ a1).setCell ⟨b, 2, none⟩ a2).setCell ⟨b, 3, none⟩ a3).cell? ⟨bq1, 0, none⟩ = some (.string kq1) ∧ ((((W'.setCell ⟨b, 0, none⟩ a0).setCell ⟨b, 1, none⟩ a1).setCell ⟨b, 2, none⟩ a2).setCell ⟨b, 3, none⟩ a3).cell? ⟨bq1, 1, none⟩ = some (.int .i64 nq1) ∧ ((((W'.setCell ⟨b, 0, none⟩ a0).setCell ⟨b, 1, none⟩ a1).setCell ⟨b, 2, none⟩ a2).setCell ⟨b, 3, none⟩ a3).cell? ⟨bq1, 2, none⟩ = some (.string xq1) ∧ ((((W'.setCell ⟨b, 0, none⟩ a0).setCell ⟨b, 1, none⟩ a1).setCell ⟨b, 2, none⟩ a2).setCell ⟨b, 3, none⟩ a3).cell? ⟨bq1, 3, none⟩ = some (.slice aq1 lq1 cq1) from fun W' b a0 a1 a2 a3 Y hb => HSK.out _ (Kp.extOf Y (Kp.set4 W' b 0 a0 a1 a2 a3) hb))
              have SK0 := HSK.out Mq3 (Ext.refl _)
              go_upto_region 30 with fail
              go_cut [28, 29] from 30 (fun s28 s29 wx => ∃ bq4 kq4 nq4 xq4 aq4 lq4 cq4 dq4, s28 = .pointer (some ⟨bq4, 0, none⟩) ∧ s29 = .int .i64 0 ∧ wx.heap[bq4]? = some (.cells #[.string kq4, .int .i64 nq4, .string xq4, .slice aq4 lq4 cq4] 26) ∧ Rd (fun _ => True) wx dq4 (.agg #[.string kq4, .int .i64 nq4, .string xq4, .slice aq4 lq4 cq4]) (t) ∧ Ext Mq3 wx ∧ Mq3.heap.size ≤ bq4)
              case first =>
                rename_i J9 K9 hJ9 hK9
                have HK8 := hid (show ∀ a w, J9 a w → K9 a w from fun a w h => hK9 a w (Met.intro h))
                go_light
                as_aux_lemma =>
                  go_region_held3 (fun W' => W'.cell? ⟨bq2, 0, none⟩ = some (.string kq2) ∧ W'.cell? ⟨bq2, 1, none⟩ = some (.int .i64 nq2) ∧ W'.cell? ⟨bq2, 2, none⟩ = some (.string xq2) ∧ W'.cell? ⟨bq2, 3, none⟩ = some (.slice aq2 lq2 cq2) ∧ W'.cell? ⟨w2.heap.size, 0, none⟩ = some (.slice (some ⟨g, 0, none⟩) S cv) ∧ W'.cell? ⟨g, m, none⟩ = some (.slice ya ey.1.length yc) ∧ W'.cell? ⟨bq1, 0, none⟩ = some (.string kq1) ∧ W'.cell? ⟨bq1, 1, none⟩ = some (.int .i64 nq1) ∧ W'.cell? ⟨bq1, 2, none⟩ = some (.string xq1) ∧ W'.cell? ⟨bq1, 3, none⟩ = some (.slice aq1 lq1 cq1)) (first | with_reducible exact SK1 | with_reducible exact SK0 | with_reducible exact HSS.out _ _ _ _ _ _ (by repeat (first | with_reducible exact Y1 | with_reducible exact Ext.refl _ | with_reducible refine Ext.drew ?_ | with_reducible refine Ext.more ?_ _)) (by first | exact Nat.le_refl _ | (have := Below.size Y1; omega) | (simp; have := Below.size Y1; omega)) | with_reducible exact HSK.out _ (by repeat (first | with_reducible exact Y1 | with_reducible exact Ext.refl _ | with_reducible refine Ext.drew ?_ | with_reducible refine Ext.more ?_ _)) | go_keep) ((go_at_call 19; refine (CG.out _ (by repeat (first | with_reducible exact Ext.refl _ | with_reducible refine Ext.drew ?_ | with_reducible refine Ext.more ?_ _))).mono ?_; rintro r v1 ⟨kq4, nq4, xq4, aq4, lq4, cq4, dq4, rfl, hrd, hv1⟩; have Y1 : Ext Mq3 v1 := Ext.trans (by repeat (first | with_reducible exact Ext.refl _ | with_reducible refine Ext.drew ?_ | with_reducible refine Ext.more ?_ _)) hv1; have SK1 := HSK.out v1 Y1; (try have bC : v1.heap[Mq3.heap.size]? = some (.cells #[.string ⟨#[]⟩, .int .i64 0, .string ⟨#[]⟩, .slice none 0 0] 26) := hv1.block (blk0 Mq3 _)); (try have bC0 := cell_of (i := 0) bC rfl); (try have bC1 := cell_of (i := 1) bC rfl); (try have bC2 := cell_of (i := 2) bC rfl); (try have bC3 := cell_of (i := 3) bC rfl); (try have bD0 := frozen_of (i := 0) bC); (try have bD1 := frozen_of (i := 1) bC); (try have bD2 := frozen_of (i := 2) bC); (try have bD3 := frozen_of (i := 3) bC); (try simp only [List.getElem_toArray, List.getElem_cons_zero, List.getElem_cons_succ] at bC0 bC1 bC2 bC3)))
                  all_goals
                    go_wp2_with fail
                    refine HK8.out _ _ (hJ9 _ _ ?_)
                    (repeat apply Exists.intro)
                    refine ⟨?rel, rfl⟩
                    case rel =>
                      first
                        | (refine ⟨v1.heap.size, kq4, nq4, xq4, aq4, lq4, cq4, dq4, by with_reducible rfl, by with_reducible rfl, ?_, ?_, ?_, ?_⟩
                           · exact blk0 v1 _
                           · exact (hrd.later (Ext.alloc _ _)).mono (fun _ _ _ => trivial)
                           · exact Ext.trans Y1 (Ext.alloc _ _)
                           · exact Below.size Y1)
                        | (refine ⟨Mq3.heap.size, kq4, nq4, xq4, aq4, lq4, cq4, dq4, by with_reducible rfl, by with_reducible rfl, ?_, ?_, ?_, ?_⟩
                           · exact four_set bC
                           · exact (hrd.keep ((Kp.set4 v1 Mq3.heap.size 0 _ _ _ _).mono (fun q _ hq e => by have e' : q = Mq3.heap.size := e; simp at hq; omega))).mono (fun _ _ _ => trivial)
                           · exact Kp.extOf Y1 (Kp.set4 v1 Mq3.heap.size 0 _ _ _ _) (Nat.le_refl _)
                           · exact Nat.le_refl _)
              case rest =>
                obtain ⟨bq4, kq4, nq4, xq4, aq4, lq4, cq4, dq4, rfl, rfl, hbq4, hrq4, hxq4, hlq4⟩ := hcut
                obtain ⟨Mq4, rfl⟩ : ∃ Mq4, Mq4 = wc := ⟨wc, rfl⟩
                have HBq4 := hid hbq4
                have HRq4 := hid hrq4
                have HXq4 := hid hxq4
                clear hbq4 hrq4 hxq4 HSK HSS SK0
                have HX4 := hid (((HXq1.out.trans HXq2.out).trans HXq3.out).trans HXq4.out)
                obtain ⟨m0, m1, m2, m3⟩ := four_of (HXq4.out.block HBq3.out)
                obtain ⟨o0, o1, o2, o3⟩ := four_of (HX4.out.block HBZ.out.2.1)
                go_wp2_with fail
                refine (same_face Mq4 (HRq3.out.later HXq4.out) (HUZ.out.later HX4.out)).mono ?_
                rintro e M5 ⟨rfl, hx5⟩
                rw [decide_eq_true HS'.out, T.beq_refl]
                simp only [Bool.and_self]
                have HX5 := hid (HX4.out.trans hx5)
                have HB5 := hid (hx5.block HBq4.out)
                have HR5 := hid (HRq4.out.later hx5)
                clear m0 m1 m2 m3 o0 o1 o2 o3 hx5
                obtain ⟨m0, m1, m2, m3⟩ := four_of HB5.out
                obtain ⟨o0, o1, o2, o3⟩ := four_of (HX5.out.block HBZ.out.1)
                go_wp2_with fail
                refine (same_face M5 HR5.out (HTZ.out.later HX5.out)).mono ?_
                rintro e M6 ⟨rfl, hx6⟩
                rw [decide_eq_true HS.out, T.beq_refl]
                simp only [Bool.and_self]
                have HX6 := hid (HX5.out.trans hx6)
                clear m0 m1 m2 m3 o0 o1 o2 o3 hx6
                have rc := cell_of (i := 0) ((HX6.out).block HBZ.out.2.2.1) rfl
                have rf := frozen_of (i := 0) ((HX6.out).block HBZ.out.2.2.1)
                simp only [List.getElem_toArray, List.getElem_cons_zero] at rc
                go_wp2_with fail
                have hdne : D ≠ w.heap.size + 1 + 1 := by omega
                have hd2 := set_other (i := 0) ((HX6.out).block HD.out) hdne (.bool true)
                have hk6 := Kp.putObj (M6.setCell ⟨w.heap.size + 1 + 1, 0, none⟩ (.bool true)) D (.deferred none)
                have hb6 := hk6.block' (set_one (u := .bool true) ((HX6.out).block HBZ.out.2.2.1)) (Ne.symm hdne)
                have z0 := cell_of (i := 0) hb6 rfl
                simp only [List.getElem_toArray, List.getElem_cons_zero] at z0
                refine ⟨by simp, .inl ⟨_, _, rfl, run_takeDeferred hd2, ?_⟩⟩
                exact ⟨.bool true, by simp [results, Try.results4, go_sem, z0], rfl, Kp.extOf (Kp.extOf (HXZ.out.trans (HX6.out)) (Kp.set M6 (w.heap.size + 1 + 1) 0 (.bool true) (fun h => h rfl)) (by omega)) hk6 (by omega)⟩
        · have CB := hid (show ∀ W', Ext Mq1 W' → Calls Try.prog 19 #[.agg #[.string k, .int .i64 n, .string x, .slice a kt c], .slice ya ey.1.length yc, .agg #[.string k', .int .i64 n', .string x', .slice a' ku c']] W' fun e w' => ∃ k1 n1 x1 a1 l1 c1 d1, e = .returned (.tuple #[.agg #[.string k1, .int .i64 n1, .string x1, .slice a1 l1 c1], .int .i64 2]) ∧ Rd (fun q => W'.heap.size ≤ q) w' d1 (.agg #[.string k1, .int .i64 n1, .string x1, .slice a1 l1 c1]) (tZero) ∧ Ext W' w' from fun W' Y => by
            refine (put_over W' ya yc ey.1 (HTZ.out.later (HXq1.out.trans Y)) (HUZ.out.later (HXq1.out.trans Y)) (HPY.out.ints.later (HXq1.out.trans Y)) (by omega) HS.out HS'.out HAT.out hput).mono ?_
            rintro e w' ⟨rfl, hx⟩
            exact ⟨⟨#[]⟩, 0, ⟨#[]⟩, none, 0, 0, 1, rfl, ⟨none, 0, rfl, by decide, by decide, by decide, .inl rfl⟩, hx⟩)
          clear hput
          have HSK := hid (show ∀ W', Ext Mq1 W' → W'.cell? ⟨w.heap.size, 0, none⟩ = some (.string k) ∧ W'.cell? ⟨w.heap.size, 1, none⟩ = some (.int .i64 n) ∧ W'.cell? ⟨w.heap.size, 2, none⟩ = some (.string x) ∧ W'.cell? ⟨w.heap.size, 3, none⟩ = some (.slice a kt c) ∧ W'.cell? ⟨w.heap.size + 1, 0, none⟩ = some (.string k') ∧ W'.cell? ⟨w.heap.size + 1, 1, none⟩ = some (.int .i64 n') ∧ W'.cell? ⟨w.heap.size + 1, 2, none⟩ = some (.string x') ∧ W'.cell? ⟨w.heap.size + 1, 3, none⟩ = some (.slice a' ku c') ∧ W'.cell? ⟨w2.heap.size, 0, none⟩ = some (.slice (some ⟨g, 0, none⟩) S cv) ∧ W'.cell? ⟨g, m, none⟩ = some (.slice ya ey.1.length yc) from fun W' Y => by
            obtain ⟨t0, t1, t2, t3⟩ := four_of ((HXq1.out.trans Y).block HBZ.out.1)
            obtain ⟨y0, y1, y2, y3⟩ := four_of ((HXq1.out.trans Y).block HBZ.out.2.1)
            exact ⟨t0, t1, t2, t3, y0, y1, y2, y3, cell_of (i := 0) ((HXq1.out.trans Y).block HBZ.out.2.2.2.2) rfl, (((HXq1.out.trans Y)).kp (fun _ => True)).cell HCM.out trivial⟩)
          have HSS := hid (show ∀ W' b a0 a1 a2 a3, Ext Mq1 W' → Mq1.heap.size ≤ b → ((((W'.setCell ⟨b, 0, none⟩ a0).setCell ⟨b, 1, none⟩ a1).setCell ⟨b, 2, none⟩ a2).setCell ⟨b, 3, none⟩ a3).cell? ⟨w.heap.size, 0, none⟩ = some (.string k) ∧ ((((W'.setCell ⟨b, 0, none⟩ a0).setCell ⟨b, 1, none⟩ a1).setCell ⟨b, 2, none⟩ a2).setCell ⟨b, 3, none⟩ a3).cell? ⟨w.heap.size, 1, none⟩ = some (.int .i64 n) ∧ ((((W'.setCell ⟨b, 0, none⟩ a0).setCell ⟨b, 1, none⟩ a1).setCell ⟨b, 2, none⟩ a2).setCell ⟨b, 3, none⟩ a3).cell? ⟨w.heap.size, 2, none⟩ = some (.string x) ∧ ((((W'.setCell ⟨b, 0, none⟩ a0).setCell ⟨b, 1, none⟩ a1).setCell ⟨b, 2, none⟩ a2).setCell ⟨b, 3, none⟩ a3).cell? ⟨w.heap.size, 3, none⟩ = some (.slice a kt c) ∧ ((((W'.setCell ⟨b, 0, none⟩ a0).setCell ⟨b, 1, none⟩ a1).setCell ⟨b, 2, none⟩ a2).setCell ⟨b, 3, none⟩ a3).cell? ⟨w.heap.size + 1, 0, none⟩ = some (.string k') ∧ ((((W'.setCell ⟨b, 0, none⟩ a0).setCell ⟨b, 1, none⟩ a1).setCell ⟨b, 2, none⟩ a2).setCell ⟨b, 3, none⟩ a3).cell? ⟨w.heap.size + 1, 1, none⟩ = some (.int .i64 n') ∧ ((((W'.setCell ⟨b, 0, none⟩ a0).setCell ⟨b, 1, none⟩ a1).setCell ⟨b, 2, none⟩ a2).setCell ⟨b, 3, none⟩ a3).cell? ⟨w.heap.size + 1, 2, none⟩ = some (.string x') ∧ ((((W'.setCell ⟨b, 0, none⟩ a0).setCell ⟨b, 1, none⟩ a1).setCell ⟨b, 2, none⟩ a2).setCell ⟨b, 3, none⟩ a3).cell? ⟨w.heap.size + 1, 3, none⟩ = some (.slice a' ku c') ∧ ((((W'.setCell ⟨b, 0, none⟩ a0).setCell ⟨b, 1, none⟩ a1).setCell ⟨b, 2, none⟩ a2).setCell ⟨b, 3, none⟩ a3).cell? ⟨w2.heap.size, 0, none⟩ = some (.slice (some ⟨g, 0, none⟩) S cv) ∧ ((((W'.setCell ⟨b, 0, none⟩ a0).setCell ⟨b, 1, none⟩ a1).setCell ⟨b, 2, none⟩ a2).setCell ⟨b, 3, none⟩ a3).cell? ⟨g, m, none⟩ = some (.slice ya ey.1.length yc) from fun W' b a0 a1 a2 a3 Y hb => HSK.out _ (Kp.extOf Y (Kp.set4 W' b 0 a0 a1 a2 a3) hb))
          have SK0 := HSK.out Mq1 (Ext.refl _)
          go_upto_region 25 with fail
          go_cut [21, 22] from 30 (fun s21 s22 wx => ∃ bq2 kq2 nq2 xq2 aq2 lq2 cq2 dq2, s21 = .pointer (some ⟨bq2, 0, none⟩) ∧ s22 = .int .i64 2 ∧ wx.heap[bq2]? = some (.cells #[.string kq2, .int .i64 nq2, .string xq2, .slice aq2 lq2 cq2] 26) ∧ Rd (fun _ => True) wx dq2 (.agg #[.string kq2, .int .i64 nq2, .string xq2, .slice aq2 lq2 cq2]) (tZero) ∧ Ext Mq1 wx ∧ Mq1.heap.size ≤ bq2)
          case first =>
            rename_i J9 K9 hJ9 hK9
            have HK8 := hid (show ∀ a w, J9 a w → K9 a w from fun a w h => hK9 a w (Met.intro h))
            go_light
            as_aux_lemma =>
              go_region_held3 (fun W' => W'.cell? ⟨w.heap.size, 0, none⟩ = some (.string k) ∧ W'.cell? ⟨w.heap.size, 1, none⟩ = some (.int .i64 n) ∧ W'.cell? ⟨w.heap.size, 2, none⟩ = some (.string x) ∧ W'.cell? ⟨w.heap.size, 3, none⟩ = some (.slice a kt c) ∧ W'.cell? ⟨w.heap.size + 1, 0, none⟩ = some (.string k') ∧ W'.cell? ⟨w.heap.size + 1, 1, none⟩ = some (.int .i64 n') ∧ W'.cell? ⟨w.heap.size + 1, 2, none⟩ = some (.string x') ∧ W'.cell? ⟨w.heap.size + 1, 3, none⟩ = some (.slice a' ku c') ∧ W'.cell? ⟨w2.heap.size, 0, none⟩ = some (.slice (some ⟨g, 0, none⟩) S cv) ∧ W'.cell? ⟨g, m, none⟩ = some (.slice ya ey.1.length yc)) (first | with_reducible exact SK1 | with_reducible exact SK0 | with_reducible exact HSS.out _ _ _ _ _ _ (by repeat (first | with_reducible exact Y1 | with_reducible exact Ext.refl _ | with_reducible refine Ext.drew ?_ | with_reducible refine Ext.more ?_ _)) (by first | exact Nat.le_refl _ | (have := Below.size Y1; omega) | (simp; have := Below.size Y1; omega)) | with_reducible exact HSK.out _ (by repeat (first | with_reducible exact Y1 | with_reducible exact Ext.refl _ | with_reducible refine Ext.drew ?_ | with_reducible refine Ext.more ?_ _)) | go_keep) ((go_at_call 19; refine (CB.out _ (by repeat (first | with_reducible exact Ext.refl _ | with_reducible refine Ext.drew ?_ | with_reducible refine Ext.more ?_ _))).mono ?_; rintro r v1 ⟨kq2, nq2, xq2, aq2, lq2, cq2, dq2, rfl, hrd, hv1⟩; have Y1 : Ext Mq1 v1 := Ext.trans (by repeat (first | with_reducible exact Ext.refl _ | with_reducible refine Ext.drew ?_ | with_reducible refine Ext.more ?_ _)) hv1; have SK1 := HSK.out v1 Y1; (try have bC : v1.heap[Mq1.heap.size]? = some (.cells #[.string ⟨#[]⟩, .int .i64 0, .string ⟨#[]⟩, .slice none 0 0] 26) := hv1.block (blk0 Mq1 _)); (try have bC0 := cell_of (i := 0) bC rfl); (try have bC1 := cell_of (i := 1) bC rfl); (try have bC2 := cell_of (i := 2) bC rfl); (try have bC3 := cell_of (i := 3) bC rfl); (try have bD0 := frozen_of (i := 0) bC); (try have bD1 := frozen_of (i := 1) bC); (try have bD2 := frozen_of (i := 2) bC); (try have bD3 := frozen_of (i := 3) bC); (try simp only [List.getElem_toArray, List.getElem_cons_zero, List.getElem_cons_succ] at bC0 bC1 bC2 bC3)))
              all_goals
                go_wp2_with fail
                refine HK8.out _ _ (hJ9 _ _ ?_)
                (repeat apply Exists.intro)
                refine ⟨?rel, rfl⟩
                case rel =>
                  first
                    | (refine ⟨v1.heap.size, kq2, nq2, xq2, aq2, lq2, cq2, dq2, by with_reducible rfl, by with_reducible rfl, ?_, ?_, ?_, ?_⟩
                       · exact blk0 v1 _
                       · exact (hrd.later (Ext.alloc _ _)).mono (fun _ _ _ => trivial)
                       · exact Ext.trans Y1 (Ext.alloc _ _)
                       · exact Below.size Y1)
                    | (refine ⟨Mq1.heap.size, kq2, nq2, xq2, aq2, lq2, cq2, dq2, by with_reducible rfl, by with_reducible rfl, ?_, ?_, ?_, ?_⟩
                       · exact four_set bC
                       · exact (hrd.keep ((Kp.set4 v1 Mq1.heap.size 0 _ _ _ _).mono (fun q _ hq e => by have e' : q = Mq1.heap.size := e; simp at hq; omega))).mono (fun _ _ _ => trivial)
                       · exact Kp.extOf Y1 (Kp.set4 v1 Mq1.heap.size 0 _ _ _ _) (Nat.le_refl _)
                       · exact Nat.le_refl _)
          case rest =>
            obtain ⟨bq2, kq2, nq2, xq2, aq2, lq2, cq2, dq2, rfl, rfl, hbq2, hrq2, hxq2, hlq2⟩ := hcut
            obtain ⟨Mq2, rfl⟩ : ∃ Mq2, Mq2 = wc := ⟨wc, rfl⟩
            have HBq2 := hid hbq2
            have HRq2 := hid hrq2
            have HXq2 := hid hxq2
            clear hbq2 hrq2 hxq2 HSK HSS SK0
            obtain ⟨rfl, rfl, rfl, rfl⟩ : kq2 = ⟨#[]⟩ ∧ nq2 = 0 ∧ xq2 = ⟨#[]⟩ ∧ lq2 = 0 := by
              have h := HRq2.out
              cases dq2 with
              | zero => exact h.elim
              | succ dd =>
                obtain ⟨a7, c7, h7, _⟩ := h
                simp only [Value.agg.injEq, Array.mk.injEq, List.cons.injEq, and_true, Value.string.injEq, Value.int.injEq, true_and, Value.slice.injEq, List.length_nil] at h7
                exact ⟨h7.1, h7.2.1, h7.2.2.1, h7.2.2.2.2.1⟩
            have CD := hid (show Calls Try.prog 14 #[.agg #[.string ⟨#[]⟩, .int .i64 0, .string ⟨#[]⟩, .slice aq2 0 cq2]] Mq2 fun e w' => e = .returned (.tuple #[.int .i64 1, .int .i64 1, .int .i64 0]) ∧ Ext Mq2 w' from by
              have h := size_any Mq2 HRq2.out
              rw [show sizeV tZero = .tuple #[.int .i64 1, .int .i64 1, .int .i64 0] by unfold sizeV; rw [if_pos (by decide)]; rfl] at h
              exact h)
            obtain ⟨m0, m1, m2, m3⟩ := four_of HBq2.out
            go_wp2_with fail
            refine CD.out.mono ?_
            rintro e M5 ⟨rfl, hx5⟩
            have HX5 := hid ((HXq1.out.trans HXq2.out).trans hx5)
            have HB5 := hid (hx5.block HBq2.out)
            clear m0 m1 m2 m3 hx5
            obtain ⟨m0, m1, m2, m3⟩ := four_of HB5.out
            have rc := cell_of (i := 0) ((HX5.out).block HBZ.out.2.2.1) rfl
            have rf := frozen_of (i := 0) ((HX5.out).block HBZ.out.2.2.1)
            simp only [List.getElem_toArray, List.getElem_cons_zero] at rc
            go_wp2_with fail
            have hdne : D ≠ w.heap.size + 1 + 1 := by omega
            have hd2 := set_other (i := 0) ((HX5.out).block HD.out) hdne (.bool true)
            have hk6 := Kp.putObj (M5.setCell ⟨w.heap.size + 1 + 1, 0, none⟩ (.bool true)) D (.deferred none)
            have hb6 := hk6.block' (set_one (u := .bool true) ((HX5.out).block HBZ.out.2.2.1)) (Ne.symm hdne)
            have z0 := cell_of (i := 0) hb6 rfl
            simp only [List.getElem_toArray, List.getElem_cons_zero] at z0
            refine ⟨by simp, .inl ⟨_, _, rfl, run_takeDeferred hd2, ?_⟩⟩
            exact ⟨.bool true, by simp [results, Try.results4, go_sem, z0], rfl, Kp.extOf (Kp.extOf (HXZ.out.trans (HX5.out)) (Kp.set M5 (w.heap.size + 1 + 1) 0 (.bool true) (fun h => h rfl)) (by omega)) hk6 (by omega)⟩
  case stop =>
    intro D Z c' M' hD h
    exact h.elim
theorem paths_true {d d' : Nat} {v v' : Value} {t u : T} (pick : Int) (w : World) (hr : Rd (fun _ => True) w d v t) (hr' : Rd (fun _ => True) w d' v' u) : CallsIn Fence.wide 0 Try.prog 4 #[v, v', .int .i64 pick] w fun e w' => e = .returned (.bool true) ∧ Ext w w' := by
  by_cases hs : t.small
  · by_cases hs' : u.small
    · exact paths_main pick w hr hr' hs hs'
    · exact paths_over pick w hr hr' hs hs'
  · exact paths_big pick w hr hr' hs
end Go.Proofs.Ythdmoghooaccgaa
