/-
  NodeSized's walk: it returns true.
-/
import Derived.Test.YtdikcdefpoolfaaNSizedM
import Derived.Test.YtdikcdefpoolfaaNBegun
import Derived.Deep.Cut
namespace Go.Proofs.Ytdikcdefpoolfaa
open Go.RowKit
attribute [local go_sem] isLitLiteral isLitStrict isLitWrapped isLitOrigin isLitFramed isOrgLiteral isOrgStrict isOrgWrapped isOrgOrigin isOrgFramed isCodCoded isCodLocated isCodRaised isCodLacking isLacCoded isLacLocated isLacRaised isLacLacking isFraLiteral isFraStrict isFraWrapped isFraOrigin isFraFramed isVarLiteral isVarStrict isVarWrapped isVarOrigin isVarFramed mCodCode mLacCode mLacWhere mLacLacks mLitWorth mLitKind mLitNum mLitText mLitLen mLitKid mFraFrames mFraKind mFraNum mFraText mFraLen mFraKid mOrgFrom
theorem hpInfo : (Try.prog.info? 23).map (fun i => (i.zero, i.size, i.bytes)) = some (some (.pointer none), 1, 8) := by kernel_rfl
/-- What Make of the frame left: its error, its handle. -/
def FrD (k : Nat) (u8 u11 : Value) (W : World) : Prop := (1 ≤ k ∧ k ≤ 65 ∧ ∃ b h qa qc, u8 = .nilIface ∧ u11 = .pointer (some ⟨h, 0, none⟩) ∧ HandAt W h (.iface 179 (.pointer (some ⟨b, 0, none⟩))) (.iface 179 (.pointer (some ⟨b, 0, none⟩))) ∧ FrameAt W b nFrame 0 ⟨#[]⟩ (.slice qa k qc)) ∨ (¬ (1 ≤ k ∧ k ≤ 65) ∧ ∃ b, u8 = ErrV b ∧ Fa.CodedAt W b 11)
theorem FrD.later {k : Nat} {u8 u11 : Value} {W W' : World} (h : FrD k u8 u11 W) (hx : Ext W W') : FrD k u8 u11 W' := by
  rcases h with ⟨h1, h2, b, h, qa, qc, e1, e2, h3, h4⟩ | ⟨h1, b, e1, h3⟩
  · exact .inl ⟨h1, h2, b, h, qa, qc, e1, e2, hx.block h3, hx.block h4⟩
  · exact .inr ⟨h1, b, e1, hx.block h3⟩
/-- What Make of the variable left. -/
def VrD (use : Int) (u8 : Value) : Prop := (1 ≤ use ∧ use ≤ 64 ∧ u8 = .nilIface) ∨ (¬ (1 ≤ use ∧ use ≤ 64) ∧ ∃ b, u8 = ErrV b)
/-- The unit's handle and node. -/
def UnitAt (W : World) (hu bu : Nat) : Prop := HandAt W hu (.iface 165 (.pointer (some ⟨bu, 0, none⟩))) (.iface 165 (.pointer (some ⟨bu, 0, none⟩))) ∧ LitAt W bu nUnit 0 ⟨#[]⟩ (.iface 173 (.agg #[]))
theorem UnitAt.later {W W' : World} {hu bu : Nat} (h : UnitAt W hu bu) (hx : Ext W W') : UnitAt W' hu bu := ⟨hx.block h.1, hx.block h.2⟩
/-- The chain so far. -/
def ChainAt (W : World) (j : Nat) (q : Value) : Prop := ∃ h v, q = .pointer (some ⟨h, 0, none⟩) ∧ W.cell? ⟨h, 0, none⟩ = some v ∧ Nd (fun _ => True) W (j + 1) v (chain j)
set_option maxRecDepth 100000 in
set_option maxHeartbeats 4000000 in
theorem sized_true (kids use deep : Int) (hu0 : -9223372036854775808 ≤ use) (hu1 : use ≤ 9223372036854775807) (w : World) : Calls Try.prog 3 #[.int .i64 kids, .int .i64 use, .int .i64 deep] w fun e w' => e = .returned (.bool true) ∧ Ext w w' := by
  have HU := hid (And.intro hu0 hu1)
  clear hu0 hu1
  go_enter Try.func3, Try.ntmps3
  go_wp2_with fail
  go_at_call 4
  refine (begun_any w).mono ?_
  rintro e w1 ⟨rfl, hx1⟩
  have X1 := hid hx1
  clear hx1
  by_cases a1 : kids < 0
  · go_wp2_with fail
    go_ret
    exact ⟨rfl, X1.out⟩
  by_cases a2 : 2000 < kids
  · go_wp2_with fail
    go_ret
    exact ⟨rfl, X1.out⟩
  by_cases a3 : deep < 0
  · go_wp2_with fail
    go_ret
    exact ⟨rfl, X1.out⟩
  by_cases a4 : 200 < deep
  · go_wp2_with fail
    go_ret
    exact ⟨rfl, X1.out⟩
  obtain ⟨k, rfl⟩ : ∃ k : Nat, kids = k := ⟨kids.toNat, by omega⟩
  obtain ⟨d, rfl⟩ : ∃ d : Nat, deep = d := ⟨deep.toNat, by omega⟩
  have hk : k ≤ 2000 := by omega
  have hd : d ≤ 200 := by omega
  go_wp2_with fail
  clear a1 a2 a3 a4
  go_at_call 5
  refine (make_unit w1).mono ?_
  rintro e w2 ⟨bu, hu, rfl, _, _, hh, hl, hx⟩
  have X2 := hid (X1.out.trans hx)
  have HUN := hid (show UnitAt w2 hu bu from ⟨hh, hl⟩)
  clear hx hh hl
  obtain ⟨i0, hi0, hz0, hz1, hz2⟩ := info_parts hpInfo
  go_wp2_with fail
  go_loopg [9, 10] k (fun g q9 q10 wr => ∃ j : Nat, j + g = k ∧ q10 = .int .i64 j ∧ wr.ownsRow w2.heap.size 23 1 q9 j (List.replicate j (.pointer (some ⟨hu, 0, none⟩))) ∧ Ext w2 wr ∧ (j = 0 → q9 = .slice none 0 0))
  case atStart => exact ⟨0, by omega, rfl, World.ownsRow_nil _ _ _ _, Ext.refl _, fun _ => rfl⟩
  case round =>
    obtain ⟨j, hj, rfl, hown, hx, hzero⟩ := hrel
    obtain ⟨a9, c9, rfl⟩ := ownsRow_slice hown
    have HOW := hid hown
    have XR := hid hx
    have HZ := hid hzero
    clear hown hx hzero
    by_cases hlt : j < k
    · have hlt' : (j : Int) < k := by omega
      have HO2 := hid (row_ext HOW.out (Ext.alloc wr (.cells #[.pointer (some ⟨hu, 0, none⟩)] 23)))
      have HN := hid (new_one wr (.pointer (some ⟨hu, 0, none⟩)) 23)
      have HUS := hid XR.out.size
      go_wp2_with (at_builtin; refine wpList_append_own_at _ rfl _ _ 31 rfl w2.heap.size 23 i0 (.pointer none) 1 8 Try.underlying31 hi0 hz0 hz1 hz2 rfl (by decide) _ _ _ rfl HO2.out ⟨wr.heap.size, 0, none⟩ 1 1 [.pointer (some ⟨hu, 0, none⟩)] rfl rfl HN.out (by simp [Value.oneCell']) (by unfold maxLen; omega) (by omega) (by have := HUS.out; simp; omega) ?_; intro v9 w9 hown9 hgrow9 _ _; have HO9 := hid hown9; have HG9 := hid hgrow9; clear hown9 hgrow9)
      go_roundg (k - (j + 1))
      case measure => omega
      case rel =>
        refine ⟨j + 1, by omega, by go_num, ?_, (XR.out.more _).grown HG9.out (by have := XR.out.size; simp; omega) (fun k hk => (HO2.out.lt k hk).1), fun h => by omega⟩
        rw [List.replicate_succ']
        exact HO9.out
    · have hje : j = k := by omega
      subst hje
      have HUR := hid (HUN.out.later XR.out)
      have X3 := hid (X2.out.trans XR.out)
      go_upto_region 13 with fail
      go_cut [8, 11] from 16 (fun q8 q11 wx => Ext w wx ∧ UnitAt wx hu bu ∧ FrD j q8 q11 wx)
      case first =>
        by_cases hj0 : j = 0
        · subst hj0
          have hsl := HZ.out rfl
          cases hsl
          go_wp2_with fail
          go_at_call 5
          refine (make_frame_nil wr).mono ?_
          rintro e w4 ⟨hx4, b, rfl, hc⟩
          have X4 := hid hx4
          have HC := hid hc
          clear hx4 hc
          go_wp2_with fail
          go_meet
          case rel => exact ⟨X3.out.trans X4.out, HUR.out.later X4.out, .inr ⟨by decide, b, rfl, HC.out⟩⟩
        · have h1j : 1 ≤ j := by omega
          obtain ⟨g, cap, e9, hcells⟩ : ∃ g cap, (Value.slice a9 j c9) = .slice (some ⟨g, 0, none⟩) j cap ∧ ∀ i, i < j → wr.cell? ⟨g, 0 + i, none⟩ = some (.pointer (some ⟨hu, 0, none⟩)) := by
            rcases HOW.out.2 with ⟨_, h0⟩ | ⟨g, cap, cur, e, _, h3, _, _, _, h6⟩
            · omega
            · refine ⟨g, cap, e, fun i hi => ?_⟩
              rw [Nat.zero_add]
              refine cell_of h3 ?_
              have : (cur.toList.take (j * 1))[i]? = some (.pointer (some ⟨hu, 0, none⟩)) := by rw [h6]; simp [hi]
              rw [List.getElem?_take_of_lt (by omega)] at this
              simpa using this
          cases e9
          have HHD := hid (show Hands wr g 0 j (fun _ => 165) (fun _ => .pointer (some ⟨bu, 0, none⟩)) from fun i hi => ⟨hu, hcells i hi, cell_of HUR.out.1 rfl, lt_of_cell (hcells i hi), lt_of_block HUR.out.1⟩)
          clear hcells
          go_wp2_with fail
          go_at_call 5
          refine (make_frame g 0 j c9 _ _ wr (by omega) HHD.out).mono ?_
          rintro e w4 ⟨hx4, hcase⟩
          have X4 := hid hx4
          clear hx4
          by_cases hok : 1 ≤ j ∧ j ≤ 65
          · rw [if_pos hok] at hcase
            obtain ⟨b, h, qa, qc, rfl, _, _, hh, hf, _⟩ := hcase
            have HH := hid hh
            have HF := hid hf
            clear hh hf
            go_wp2_with fail
            go_meet
            case rel => exact ⟨X3.out.trans X4.out, HUR.out.later X4.out, .inl ⟨hok.1, hok.2, b, h, qa, qc, rfl, rfl, HH.out, HF.out⟩⟩
          · rw [if_neg hok] at hcase
            obtain ⟨b, rfl, hc⟩ := hcase
            have HC := hid hc
            clear hc
            go_wp2_with fail
            go_meet
            case rel => exact ⟨X3.out.trans X4.out, HUR.out.later X4.out, .inr ⟨hok, b, rfl, HC.out⟩⟩
      case rest =>
        obtain ⟨hx, hun, hfr⟩ := hcut
        have X5 := hid hx
        have HU5 := hid hun
        have HF5 := hid hfr
        clear hx hun hfr
        obtain ⟨W5, hW5⟩ : ∃ V, V = wc := ⟨wc, rfl⟩
        subst hW5
        go_upto_region 14 with fail
        go_cut [71] from 16 (fun s71 wx => s71 = .bool false ∧ Ext W5 wx)
        case first =>
          rcases HF5.out with ⟨h1, h2, b, h, qa, qc, rfl, rfl, hh, hf⟩ | ⟨hno, b, rfl, hc⟩
          · have h1' : (1 : Int) ≤ j := by omega
            have h2' : (j : Int) ≤ 65 := by omega
            clear hh hf
            go_wp2_with fail
            go_meet
            case rel => exact ⟨rfl, Ext.refl _⟩
          · have HC := hid hc
            clear hc
            by_cases g1 : 1 ≤ j
            · have g2 : ¬ ((j : Int) ≤ 65) := by omega
              have g1' : (1 : Int) ≤ j := by omega
              have g3 : (65 : Int) < j := by omega
              clear hno g1
              go_wp2_with fail
              go_at_call 6
              refine (Fa.is_coded b 11 W5 HC.out rfl).mono ?_
              rintro e w6 ⟨rfl, hx6⟩
              go_wp2_with fail
              go_meet
              case rel => exact ⟨rfl, hx6⟩
            · have g2 : ¬ ((1 : Int) ≤ j) := by omega
              have g3 : (j : Int) < 1 := by omega
              clear hno g1
              go_wp2_with fail
              go_at_call 6
              refine (Fa.is_coded b 11 W5 HC.out rfl).mono ?_
              rintro e w6 ⟨rfl, hx6⟩
              go_wp2_with fail
              go_meet
              case rel => exact ⟨rfl, hx6⟩
        case rest =>
          obtain ⟨rfl, hx⟩ := hcut
          have X6 := hid hx
          obtain ⟨W6, hW6⟩ : ∃ V, V = wc := ⟨wc, rfl⟩
          subst hW6
          have HU6 := hid (HU5.out.later hx)
          have HF6 := hid (HF5.out.later hx)
          clear hx
          go_upto_region 16 with fail
          go_cut [73] from 16 (fun s73 wx => s73 = .bool (decide (1 ≤ j ∧ j ≤ 65)) ∧ wx = W6)
          case first =>
            rcases HF6.out with ⟨h1, h2, b, h, qa, qc, rfl, rfl, hh, hf⟩ | ⟨hno, b, rfl, hc⟩
            · clear hh hf
              go_wp2_with fail
              go_meet
              case rel => exact ⟨by rw [decide_eq_true (And.intro h1 h2)], rfl⟩
            · clear hc
              go_wp2_with fail
              go_meet
              case rel => exact ⟨by rw [decide_eq_false hno], rfl⟩
          case rest =>
            obtain ⟨h73, hw7⟩ := hcut
            have H73 := hid h73
            clear h73
            rw [hw7]
            clear hw7 wc
            go_upto_if 73 with fail
            go_cut [] from 16 (fun wx => wx = W6)
            case first =>
              rcases HF6.out with ⟨h1, h2, b, h, qa, qc, rfl, rfl, hh, hf⟩ | ⟨hno, b, rfl, hc⟩
              · have e73 := H73.out
                rw [decide_eq_true (And.intro h1 h2)] at e73
                subst e73
                have HF := hid hf
                have c0 : W6.cell? ⟨h, 0, none⟩ = some (.iface 179 (.pointer (some ⟨b, 0, none⟩))) := cell_of hh rfl
                have h1' : (1 : Int) ≤ j := by omega
                clear hh hf
                go_wp2_with fail
                go_at_call 7
                refine (node_cell h _ W6 c0).mono ?_
                rintro e w' ⟨rfl, hw'⟩
                rw [hw']
                clear hw' w'
                go_wp2_with fail
                go_at_call 107
                refine (frames_of b nFrame ⟨#[]⟩ 0 qa j qc W6 h2 HF.out).mono ?_
                rintro e w' ⟨rfl, hw'⟩
                rw [hw']
                clear hw' w'
                go_wp2_with fail
                go_meet
                case rel => exact rfl
              · have e73 := H73.out
                rw [decide_eq_false hno] at e73
                subst e73
                clear hc
                go_wp2_with fail
                go_meet
                case rel => exact rfl
            case rest =>
              rw [hcut]
              clear hcut wc
              have X8 := hid (X5.out.trans X6.out)
              clear HF5 HF6 H73 HOW HZ
              go_upto_region 20 with fail
              go_cut [8] from 16 (fun q8 wx => Ext w wx ∧ UnitAt wx hu bu ∧ VrD use q8)
              case first =>
                go_wp2_with fail
                go_at_call 8
                refine (digits_any use HU.out.1 HU.out.2 W6).mono ?_
                rintro e w9 ⟨rfl, hx9⟩
                have X9 := hid hx9
                have HSZ := hid (itoaS_size use HU.out.1 HU.out.2)
                have HUI := hid (use_itoa use)
                clear hx9
                generalize itoaS use = xs at *
                go_wp2_with fail
                go_at_call 5
                refine (makeVar_any 0 xs none 0 0 w9 (by have := HSZ.out; omega)).mono ?_
                rintro e w10 ⟨hx10, hcase⟩
                have X10 := hid (X9.out.trans hx10)
                clear hx10
                rcases hcase with ⟨hok, b, h, rfl, _⟩ | ⟨hno, b, c, rfl, _⟩
                · have HOK := hid (show 1 ≤ use ∧ use ≤ 64 by
                    rcases hok.2.2 with ⟨h, _⟩ | h | ⟨_, h⟩
                    · exact absurd h (by decide)
                    · exact absurd h (by decide)
                    · exact HUI.out.1 h)
                  clear hok
                  go_wp2_with fail
                  go_meet
                  case rel => exact ⟨X8.out.trans X10.out, HU6.out.later X10.out, .inl ⟨HOK.out.1, HOK.out.2, rfl⟩⟩
                · have HNO := hid (show ¬ (1 ≤ use ∧ use ≤ 64) from fun h => hno ⟨by have := HSZ.out; omega, .inl rfl, .inr (.inr ⟨rfl, HUI.out.2 h⟩)⟩)
                  clear hno
                  go_wp2_with fail
                  go_meet
                  case rel => exact ⟨X8.out.trans X10.out, HU6.out.later X10.out, .inr ⟨HNO.out, b, rfl⟩⟩
              case rest =>
                obtain ⟨hx, hun, hvr⟩ := hcut
                have X9 := hid hx
                have HU9 := hid hun
                have HV9 := hid hvr
                clear hx hun hvr
                obtain ⟨W9, hW9⟩ : ∃ V, V = wc := ⟨wc, rfl⟩
                subst hW9
                go_upto_region 21 with fail
                go_cut [104] from 16 (fun s104 wx => s104 = .bool false ∧ wx = W9)
                case first =>
                  rcases HV9.out with ⟨h1, h2, rfl⟩ | ⟨hno, b, rfl⟩
                  · go_wp2_with fail
                    go_meet
                    case rel => exact ⟨rfl, rfl⟩
                  · by_cases g1 : 1 ≤ use
                    · have g2 : ¬ (use ≤ 64) := fun h => hno ⟨g1, h⟩
                      have g3 : 64 < use := by omega
                      clear hno
                      go_wp2_with fail
                      go_meet
                      case rel => exact ⟨rfl, rfl⟩
                    · have g3 : use < 1 := by omega
                      clear hno
                      go_wp2_with fail
                      go_meet
                      case rel => exact ⟨rfl, rfl⟩
                case rest =>
                  obtain ⟨rfl, hw⟩ := hcut
                  rw [hw]
                  clear hw wc HV9
                  go_wp2_with fail
                  go_loopg [8, 11, 14] d (fun g q8 q11 q14 wr => ∃ i : Nat, i + g = d ∧ q14 = .int .i64 i ∧ ChainAt wr i q11 ∧ Ext w wr)
                  case atStart => exact ⟨0, by omega, rfl, ⟨hu, _, rfl, cell_of HU9.out.1 rfl, nd_lit HU9.out.2 (by decide) (by decide) 0⟩, X9.out⟩
                  case round =>
                    obtain ⟨i, hi, rfl, ⟨h, v, rfl, hc, hn⟩, hx⟩ := hrel
                    obtain ⟨ty, p, rfl⟩ : ∃ ty p, v = .iface ty (.pointer (some ⟨p, 0, none⟩)) := by
                      revert hn
                      cases hch : chain i
                      rintro ⟨ty, p, _, _, _, _, h, _⟩
                      exact ⟨ty, p, h⟩
                    have HC := hid hc
                    have HN := hid hn
                    have XR := hid hx
                    clear hc hn hx
                    by_cases hlt : i < d
                    · have hlt' : (i : Int) < d := by omega
                      have HHD := hid (show Hands (wr.alloc (.cells #[.pointer (some ⟨h, 0, none⟩)] 23)) wr.heap.size 0 1 (fun _ => ty) (fun _ => .pointer (some ⟨p, 0, none⟩)) from fun q hq => by
                        have : q = 0 := by omega
                        subst this
                        have hc' := ((Ext.alloc wr (.cells #[.pointer (some ⟨h, 0, none⟩)] 23)).kp (fun _ => True)).cell HC.out trivial
                        exact ⟨h, cell_of (blk0 _ _) rfl, hc', lt_of_block (blk0 _ _), lt_of_cell hc'⟩)
                      go_wp2_with fail
                      go_at_call 5
                      refine (make_frame wr.heap.size 0 1 1 (fun _ => ty) (fun _ => .pointer (some ⟨p, 0, none⟩)) _ (by decide) HHD.out).mono ?_
                      rintro e w4 ⟨hx4, hcase⟩
                      rw [if_pos (by decide)] at hcase
                      obtain ⟨b, h', qa, qc, rfl, _, _, hh, hf, hrow⟩ := hcase
                      have X4 := hid ((Ext.alloc wr _).trans hx4)
                      have HH := hid hh
                      have HF := hid hf
                      have HR := hid (show w4.ownsRow _ _ 1 (.slice qa 1 qc) 1 [.iface ty (.pointer (some ⟨p, 0, none⟩))] from hrow)
                      clear hx4 hh hf hrow
                      go_wp2_with fail
                      go_roundg (d - (i + 1))
                      case measure => omega
                      case rel => exact ⟨i + 1, by omega, by go_num, ⟨h', _, rfl, cell_of HH.out rfl, nd_fra HF.out HR.out (by decide) (by decide) (HN.out.keep (X4.out.kp _))⟩, XR.out.trans X4.out⟩
                    · have hie : i = d := by omega
                      subst hie
                      have HSM := hid (chain_small i hd)
                      have HKD := hid (chain_kind i)
                      have hd' : (i : Int) ≤ 200 := by omega
                      go_wp2_with fail
                      go_at_call 9
                      refine (plainF_any (i + 1) h _ (chain i) (fun _ => True) wr HN.out HC.out).mono ?_
                      rintro e w5 ⟨hx5, hcase⟩
                      have X5 := hid (XR.out.trans hx5)
                      clear hx5
                      rcases hcase with ⟨hs, v', bs, rfl, hown, _⟩ | ⟨hs, b, rfl, hc⟩
                      · have hs1 := HSM.out.1 hs
                        have hs2 : (i : Int) + 1 ≤ 64 := by omega
                        obtain ⟨a, kk, n, x, l, c, rfl, hkk⟩ : ∃ a kk n x l c, v' = .agg #[.string kk, .int .i64 n, .string x, .slice a l c] ∧ kk = (chain i).kind := by
                          revert hown
                          cases hch : chain i with
                          | node k n x ks =>
                            rintro ⟨a, h, _⟩
                            exact ⟨a, k, n, x, _, _, h, rfl⟩
                        obtain ⟨e1, e2⟩ := nonempty_list (x := kk) (hkk ▸ HKD.out)
                        clear hown hs hs1 hkk
                        go_wp2_with fail
                        go_ret
                        exact ⟨rfl, X5.out.trans (Ext.alloc _ _)⟩
                      · have hs1 : ¬ (i + 1 ≤ 64) := fun h => hs (HSM.out.2 h)
                        have hs2 : ¬ ((i : Int) + 1 ≤ 64) := by omega
                        have hs3 : (64 : Int) < (i : Int) + 1 := by omega
                        have HC5 := hid hc
                        clear hc hs hs1
                        go_wp2_with fail
                        go_at_call 6
                        refine (Fa.is_coded b 2 _ (blkOld _ HC5.out) rfl).mono ?_
                        rintro e w6 ⟨rfl, hx6⟩
                        go_wp2_with fail
                        go_ret
                        exact ⟨rfl, X5.out.trans ((Ext.alloc _ _).trans hx6)⟩
end Go.Proofs.Ytdikcdefpoolfaa
