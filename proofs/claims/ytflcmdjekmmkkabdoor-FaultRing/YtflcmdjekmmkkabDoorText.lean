/-
  The texts that the statements' first calls ask: of the error 22 at f:0.1, and of the notes around it.
-/
import Derived.Test.YtflcmdjekmmkkabDoorSpell
import Derived.Test.YtflcmdjekmmkkabDoorMade
import Derived.Deep.RegionWith
import Derived.WalkSmall
namespace Go.Proofs.YtflcmdjekmmkkabDoor
open Go.RowKit Go.Shelf
attribute [local go_sem] isNCoded isNLocated isNRaised isNLacking isNUnw isNAsI isNUnws isNNoted isGCoded isGLocated isGRaised isGLacking isGUnw isGAsI isGUnws isGNoted isCCoded isCLocated isCRaised isCLacking isCUnw isCAsI isCUnws isCNoted isLCoded isLLocated isLRaised isLLacking isLUnw isLAsI isLUnws isLNoted isRCoded isRLocated isRRaised isRLacking isRUnw isRAsI isRUnws isRNoted isHCoded isHLocated isHRaised isHLacking isHUnw isHAsI isHUnws isHNoted isOCoded isOLocated isORaised isOLacking isOUnw isOAsI isOUnws isONoted toCodedCoded toCodedLocated toCodedRaised toCodedLacking toCodedNoted toLocatedCoded toLocatedLocated toLocatedRaised toLocatedLacking toLocatedNoted toRaisedCoded toRaisedLocated toRaisedRaised toRaisedLacking toRaisedNoted toLackingCoded toLackingLocated toLackingRaised toLackingLacking toLackingNoted toNotedCoded toNotedLocated toNotedRaised toNotedLacking toNotedNoted mNUnwrap mNError mCCode mCError mLCode mLWhere mLError mRCode mRWhere mRSaid mRError mOUnwrap mGUnwrap mGError mHAs mHUnwrap
theorem Ext.trans' {a b c : World} (h : Ext a b) (k : Below a.heap.size b c) : Ext a c := Below.trans h k

theorem dec0 : Lib.decDigits 0 = [48] := by kernel_rfl
theorem dec1 : Lib.decDigits 1 = [49] := by kernel_rfl
theorem dec22 : Lib.decDigits 22 = [50, 50] := by kernel_rfl
theorem itoa0 (w : World) : Calls Tryd.prog 81 #[.int .i64 0] w fun e w' => e = .returned (.string ⟨#[48]⟩) ∧ w' = w := by
  have h := Tryd.strconv_Itoa_small 0 (by decide) w
  rw [dec0] at h
  exact h
theorem itoa1 (w : World) : Calls Tryd.prog 81 #[.int .i64 1] w fun e w' => e = .returned (.string ⟨#[49]⟩) ∧ w' = w := by
  have h := Tryd.strconv_Itoa_small 1 (by decide) w
  rw [dec1] at h
  exact h
theorem itoa22 (w : World) : Calls Tryd.prog 81 #[.int .i64 22] w fun e w' => e = .returned (.string ⟨#[50, 50]⟩) ∧ w' = w := by
  have h := Tryd.strconv_Itoa_small 22 (by decide) w
  rw [dec22] at h
  exact h
set_option maxRecDepth 100000 in
set_option maxHeartbeats 2000000 in
theorem digits01 (g off cap : Nat) (w : World) (h0 : w.cell? ⟨g, off, none⟩ = some (.int .i64 0)) (h1 : w.cell? ⟨g, off + 1, none⟩ = some (.int .i64 1)) :
    Calls Tryd.prog 82 #[.slice (some ⟨g, off, none⟩) 2 cap] w fun r w' => r = .returned (.string ⟨#[48, 46, 49]⟩) ∧ Ext w w' := by
  have hlt : g < w.heap.size := lt_of_cell h0
  have HI : Hid (Lib.IsBuilderF 166 5 w.heap.size w.heap.size [] (w.alloc (.cells #[.pointer none, .slice none 0 0] 166))) := Lib.IsBuilderF.of (Lib.fresh_isBuilder 166 5 w)
  have c0 : (w.alloc (.cells #[.pointer none, .slice none 0 0] 166)).cell? ⟨g, off, none⟩ = some (.int .i64 0) := (Below.cell (Ext.alloc w _) hlt).trans h0
  have H1 : Hid (w.cell? ⟨g, off + 1, none⟩ = some (.int .i64 1)) := h1
  clear h0 h1
  go_enter Tryd.func82, Tryd.ntmps82
  go_wp2
  refine wp_loop_rounds 3 ?_
  rw [rounds_succ]
  go_wp2_with fail
  refine (itoa0 _).mono ?_
  rintro e w' ⟨rfl, rfl⟩
  go_wp2_with fail
  refine (writeString_any w.heap.size w.heap.size [] _ _ HI.out (by decide) (by simp)).mono ?_
  rintro e w1 ⟨rfl, hI1, hx1⟩
  have HI1 : Hid (Lib.IsBuilderF 166 5 w.heap.size w.heap.size (Lib.byteCells [48]) w1) := hI1
  have HX1 : Hid (Ext w w1) := Below.trans (Ext.alloc w _) hx1
  have c1 : w1.cell? ⟨g, off + 1, none⟩ = some (.int .i64 1) := (Below.cell HX1.out hlt).trans H1.out
  clear hI1 hx1 HI c0
  go_wp2_with fail
  rw [rounds_succ]
  go_wp2_with fail
  refine (writeByte_any w.heap.size w.heap.size _ _ _ HI1.out (by decide) HX1.out.size).mono ?_
  rintro e w2 ⟨rfl, hI2, hx2⟩
  have HI2 : Hid (Lib.IsBuilderF 166 5 w.heap.size w.heap.size (Lib.byteCells [48, 46]) w2) := hI2
  have HX2 : Hid (Ext w w2) := HX1.out.trans' hx2
  clear hI2 hx2 c1
  go_wp2_with fail
  refine (itoa1 _).mono ?_
  rintro e w' ⟨rfl, rfl⟩
  go_wp2_with fail
  refine (writeString_any w.heap.size w.heap.size _ _ _ HI2.out (by decide) HX2.out.size).mono ?_
  rintro e w3 ⟨rfl, hI3, hx3⟩
  have HI3 : Hid (Lib.IsBuilderF 166 5 w.heap.size w.heap.size (Lib.byteCells [48, 46, 49]) w3) := hI3
  have HX3 : Hid (Ext w w3) := HX2.out.trans' hx3
  clear hI3 hx3
  go_wp2_with fail
  rw [rounds_succ]
  go_wp2_with fail
  refine (Tryd.Builder_String_any_k w.heap.size w.heap.size [48, 46, 49] _ HI3.out HX3.out.size).mono ?_
  rintro e w4 ⟨rfl, _, hx4, _⟩
  go_wp2
  go_ret
  exact ⟨rfl, HX3.out.trans' hx4⟩
set_option maxRecDepth 100000 in
set_option maxHeartbeats 2000000 in
theorem spelt01 (g off cap : Nat) (w : World) (h0 : w.cell? ⟨g, off, none⟩ = some (.int .i64 0)) (h1 : w.cell? ⟨g, off + 1, none⟩ = some (.int .i64 1)) :
    Calls Tryd.prog 80 #[.agg #[.string ⟨#[102]⟩, .slice (some ⟨g, off, none⟩) 2 cap]] w fun r w' => r = .returned (.string ⟨#[102, 58, 48, 46, 49]⟩) ∧ Ext w w' := by
  have hlt : g < w.heap.size := lt_of_cell h0
  have HD : Hid (Calls Tryd.prog 82 #[.slice (some ⟨g, off, none⟩) 2 cap] (w.alloc (.cells #[.string ⟨#[102]⟩, .slice (some ⟨g, off, none⟩) 2 cap] 34)) fun r w' => r = .returned (.string ⟨#[48, 46, 49]⟩) ∧ Ext (w.alloc (.cells #[.string ⟨#[102]⟩, .slice (some ⟨g, off, none⟩) 2 cap] 34)) w') := digits01 g off cap _ ((Below.cell (Ext.alloc w _) hlt).trans h0) ((Below.cell (Ext.alloc w _) hlt).trans h1)
  clear h0 h1
  go_enter Tryd.func80, Tryd.ntmps80
  go_wp2_with fail
  refine HD.out.mono ?_
  rintro r w1 ⟨rfl, hx1⟩
  have b0 := hx1.block (blk0 w (.cells #[.string ⟨#[102]⟩, .slice (some ⟨g, off, none⟩) 2 cap] 34))
  have c0 : w1.cell? ⟨w.heap.size, 0, none⟩ = some (.string ⟨#[102]⟩) := cell_of b0 rfl
  have HX : Hid (Ext w w1) := (Ext.alloc w _).trans hx1
  clear hx1 b0
  go_wp2
  go_ret
  exact ⟨rfl, HX.out⟩
set_option maxRecDepth 100000 in
theorem coded_text (b : Nat) (w : World) (h : w.cell? ⟨b, 0, none⟩ = some (.int .i64 22)) :
    Calls Tryd.prog 79 #[.pointer (some ⟨b, 0, none⟩)] w fun r w' => r = .returned (.string ⟨#[101, 114, 114, 111, 114, 32, 50, 50]⟩) ∧ w' = w := by
  go_enter Tryd.func79, Tryd.ntmps79
  go_wp2_with (go_at_call 81; refine (itoa22 _).mono ?_; rintro e w' ⟨rfl, rfl⟩)
  go_ret
  exact ⟨rfl, rfl⟩


set_option maxRecDepth 100000 in
set_option maxHeartbeats 2000000 in
theorem located_text (b g off cap : Nat) (w : World) (hb : LocatedAt w b 22 ⟨#[102]⟩ (.slice (some ⟨g, off, none⟩) 2 cap)) (h0 : w.cell? ⟨g, off, none⟩ = some (.int .i64 0)) (h1 : w.cell? ⟨g, off + 1, none⟩ = some (.int .i64 1)) :
    Calls Tryd.prog 77 #[.pointer (some ⟨b, 0, none⟩)] w fun r w' => r = .returned (.string ⟨#[101, 114, 114, 111, 114, 32, 50, 50, 32, 97, 116, 32, 102, 58, 48, 46, 49]⟩) ∧ Ext w w' := by
  have c0 : w.cell? ⟨b, 0, none⟩ = some (.int .i64 22) := cell_of hb rfl
  have c1 : w.cell? ⟨b, 1, none⟩ = some (.string ⟨#[102]⟩) := cell_of hb rfl
  have c2 : w.cell? ⟨b, 2, none⟩ = some (.slice (some ⟨g, off, none⟩) 2 cap) := cell_of hb rfl
  have H0 : Hid (w.cell? ⟨g, off, none⟩ = some (.int .i64 0)) := h0
  have H1 : Hid (w.cell? ⟨g, off + 1, none⟩ = some (.int .i64 1)) := h1
  clear h0 h1 hb
  go_enter Tryd.func77, Tryd.ntmps77
  go_wp2
  go_region_with (first
    | (go_at_call 79; refine (coded_text b _ (by simpa using c0)).mono ?_; rintro r w1 ⟨rfl, rfl⟩)
    | (go_at_call 80; refine (spelt01 g off cap _ (by simpa using H0.out) (by simpa using H1.out)).mono ?_; rintro r w1 ⟨rfl, hx⟩))
  all_goals
    have HX : Hid (Ext w w1) := Below.trans ((Ext.refl w).drew) hx
    clear hx
    go_wp2
    go_ret
    exact ⟨rfl, HX.out⟩


set_option maxRecDepth 100000 in
set_option maxHeartbeats 2000000 in
theorem noted_text_L (b b0 : Nat) (w : World) (hb : NotedAt w b (.iface 86 (.pointer (some ⟨b0, 0, none⟩))) ⟨#[120]⟩)
    (hc : ∀ w1, Ext w w1 → Calls Tryd.prog 77 #[.pointer (some ⟨b0, 0, none⟩)] w1 fun r w' => r = .returned (.string ⟨#[101, 114, 114, 111, 114, 32, 50, 50, 32, 97, 116, 32, 102, 58, 48, 46, 49]⟩) ∧ Ext w1 w') :
    Calls Tryd.prog 65 #[.pointer (some ⟨b, 0, none⟩)] w fun r w' => r = .returned (.string ⟨#[120, 58, 32, 101, 114, 114, 111, 114, 32, 50, 50, 32, 97, 116, 32, 102, 58, 48, 46, 49]⟩) ∧ Ext w w' := by
  have c0 : w.cell? ⟨b, 0, none⟩ = some (.iface 86 (.pointer (some ⟨b0, 0, none⟩))) := cell_of hb rfl
  have HB : Hid (NotedAt w b (.iface 86 (.pointer (some ⟨b0, 0, none⟩))) ⟨#[120]⟩) := hb
  have hna : ∀ (w : World), (nilAhead 301 86 (.pointer (some ⟨b0, 0, none⟩)) "Error").run Tryd.prog w = .ok (some false) w := fun w => by kernel_rfl
  have hmf : ∀ (fn : Fn) (first cap : Array Value) (w : World), (Instr.makeFunc fn first cap).run Tryd.prog w = .ok (.func fn first cap) w := fun _ _ _ _ => rfl
  have HG : Hid (Calls Tryd.prog 67 #[.func (.method "Error") #[.iface 86 (.pointer (some ⟨b0, 0, none⟩))] #[]] w fun e w' => e = .returned (.tuple #[.string ⟨#[101, 114, 114, 111, 114, 32, 50, 50, 32, 97, 116, 32, 102, 58, 48, 46, 49]⟩, .bool true]) ∧ Ext w w') := guarded_string_L b0 (.string ⟨#[101, 114, 114, 111, 114, 32, 50, 50, 32, 97, 116, 32, 102, 58, 48, 46, 49]⟩) w hc
  clear hc hb
  go_enter Tryd.func65, Tryd.ntmps65
  go_wp2_with (go_at_call 67; refine HG.out.mono ?_; rintro r w1 ⟨rfl, hx⟩; have c1 : w1.cell? ⟨b, 1, none⟩ = some (.string ⟨#[120]⟩) := cell_of (hx.block HB.out) rfl)
  go_ret
  exact ⟨rfl, hx⟩


set_option maxRecDepth 100000 in
set_option maxHeartbeats 2000000 in
theorem noted_text_N (b b0 : Nat) (w : World) (hb : NotedAt w b (.iface 53 (.pointer (some ⟨b0, 0, none⟩))) ⟨#[121]⟩)
    (hc : ∀ w1, Ext w w1 → Calls Tryd.prog 65 #[.pointer (some ⟨b0, 0, none⟩)] w1 fun r w' => r = .returned (.string ⟨#[120, 58, 32, 101, 114, 114, 111, 114, 32, 50, 50, 32, 97, 116, 32, 102, 58, 48, 46, 49]⟩) ∧ Ext w1 w') :
    Calls Tryd.prog 65 #[.pointer (some ⟨b, 0, none⟩)] w fun r w' => r = .returned (.string ⟨#[121, 58, 32, 120, 58, 32, 101, 114, 114, 111, 114, 32, 50, 50, 32, 97, 116, 32, 102, 58, 48, 46, 49]⟩) ∧ Ext w w' := by
  have c0 : w.cell? ⟨b, 0, none⟩ = some (.iface 53 (.pointer (some ⟨b0, 0, none⟩))) := cell_of hb rfl
  have HB : Hid (NotedAt w b (.iface 53 (.pointer (some ⟨b0, 0, none⟩))) ⟨#[121]⟩) := hb
  have hna : ∀ (w : World), (nilAhead 301 53 (.pointer (some ⟨b0, 0, none⟩)) "Error").run Tryd.prog w = .ok (some false) w := fun w => by kernel_rfl
  have hmf : ∀ (fn : Fn) (first cap : Array Value) (w : World), (Instr.makeFunc fn first cap).run Tryd.prog w = .ok (.func fn first cap) w := fun _ _ _ _ => rfl
  have HG : Hid (Calls Tryd.prog 67 #[.func (.method "Error") #[.iface 53 (.pointer (some ⟨b0, 0, none⟩))] #[]] w fun e w' => e = .returned (.tuple #[.string ⟨#[120, 58, 32, 101, 114, 114, 111, 114, 32, 50, 50, 32, 97, 116, 32, 102, 58, 48, 46, 49]⟩, .bool true]) ∧ Ext w w') := guarded_string_N b0 (.string ⟨#[120, 58, 32, 101, 114, 114, 111, 114, 32, 50, 50, 32, 97, 116, 32, 102, 58, 48, 46, 49]⟩) w hc
  clear hc hb
  go_enter Tryd.func65, Tryd.ntmps65
  go_wp2_with (go_at_call 67; refine HG.out.mono ?_; rintro r w1 ⟨rfl, hx⟩; have c1 : w1.cell? ⟨b, 1, none⟩ = some (.string ⟨#[121]⟩) := cell_of (hx.block HB.out) rfl)
  go_ret
  exact ⟨rfl, hx⟩


end Go.Proofs.YtflcmdjekmmkkabDoor
