/-
  espalierref3.small, digit, Word, Kind, each by a contract: the document's words and names of kinds.
-/
import Derived.Test.YthdmoghooaccgaaMay
import Derived.Test.YthdmoghooaccgaaRefSize
import Derived.WalkMore
namespace Go.Proofs.Ythdmoghooaccgaa
open Go.RowKit Go.Shelf
def smallI (r : Int) : Bool := decide (97 ≤ r ∧ r ≤ 122)
theorem small_ref (r : Int) (w : World) : Calls Try.prog 75 #[.int .u8 r] w fun e w' => e = .returned (.bool (smallI r)) ∧ w' = w := by
  by_cases h1 : 97 ≤ r
  · have h1' : decide (97 ≤ r) = true := by simpa using h1
    go_enter Try.func75, Try.ntmps75
    go_wp2
    go_ret
    exact ⟨ret_bool (by simp [smallI, h1]), rfl⟩
  · have h1' : decide (97 ≤ r) = false := by simpa using h1
    go_enter Try.func75, Try.ntmps75
    go_wp2
    go_ret
    exact ⟨ret_bool (by simp [smallI]; omega), rfl⟩
theorem digit_ref (r : Int) (w : World) : Calls Try.prog 76 #[.int .u8 r] w fun e w' => e = .returned (.bool (digI r)) ∧ w' = w := by
  by_cases h1 : 48 ≤ r
  · have h1' : decide (48 ≤ r) = true := by simpa using h1
    go_enter Try.func76, Try.ntmps76
    go_wp2
    go_ret
    exact ⟨ret_bool (by simp [digI, h1]), rfl⟩
  · have h1' : decide (48 ≤ r) = false := by simpa using h1
    go_enter Try.func76, Try.ntmps76
    go_wp2
    go_ret
    exact ⟨ret_bool (by simp [digI]; omega), rfl⟩
theorem wordI_eq (r : Int) : wordI r = (smallI r || digI r) := rfl
theorem small_digit {r : Int} (h : smallI r = true) : digI r = false := by
  simp [smallI, digI] at h ⊢; omega
set_option maxRecDepth 100000 in
set_option maxHeartbeats 2000000 in
theorem word_ref (s : ByteArray) (w : World) : Calls Try.prog 72 #[.string s] w fun e w' => e = .returned (.bool (speltB wordI 16 s.data.toList)) ∧ w' = w := by
  have HL := hid (size_list s)
  by_cases h0 : s.size = 0
  · have h0' : (s.size : Int) < 1 := by omega
    have HR := hid (show speltB wordI 16 s.data.toList = false by
      have e : s.data.toList = [] := List.eq_nil_of_length_eq_zero (by rw [HL.out]; exact h0)
      rw [e]; rfl)
    clear h0
    go_enter Try.func72, Try.ntmps72
    go_wp2
    go_ret
    exact ⟨ret_bool HR.out.symm, rfl⟩
  have h1 : ¬ (s.size : Int) < 1 := by omega
  by_cases h2 : 16 < s.size
  · have h2' : 16 < (s.size : Int) := by omega
    have HR := hid (show speltB wordI 16 s.data.toList = false from speltB_long (by rw [HL.out]; exact h2))
    go_enter Try.func72, Try.ntmps72
    go_wp2
    go_ret
    exact ⟨ret_bool HR.out.symm, rfl⟩
  have h2' : ¬ 16 < (s.size : Int) := by omega
  have hp0 : 0 < s.size := by omega
  obtain ⟨hq0, hc0⟩ := at_list s 0 hp0
  by_cases hs : smallI ((s.data[0]'hp0).toNat : Int) = true
  · have hs' : smallI ((s[0]'hp0).toNat : Int) = true := hs
    have HD := hid (show digI s.data.toList[0].toNat = false by rw [← hc0]; exact small_digit hs)
    clear hc0
    go_enter Try.func72, Try.ntmps72
    go_wp2_with (go_at_call 75; refine (small_ref _ _).mono ?_; rintro e w' ⟨rfl, rfl⟩)
    go_loop [3] (fun i => ∃ k : Nat, k ≤ s.size ∧ i = .int .i64 k ∧ ∀ j, (h : j < s.data.toList.length) → j < k → wordI s.data.toList[j].toNat = true) (fun i => s.size - (intOf i).toNat)
    case atStart => exact ⟨0, Nat.zero_le _, rfl, fun j _ h => absurd h (Nat.not_lt_zero _)⟩
    case round =>
      obtain ⟨k, hk, rfl, hall⟩ := hrel
      have HA := hid hall
      clear hall
      by_cases hlt : k < s.size
      · have hlt' : (k : Int) < s.size := by omega
        obtain ⟨hq, hc⟩ := at_list s k hlt
        have HC := hid (show (s.data[k]'hlt) = s.data.toList[k] from hc)
        clear hc
        by_cases ha : smallI ((s.data[k]'hlt).toNat : Int) = true
        · have ha' : smallI ((s[k]'hlt).toNat : Int) = true := ha
          have HN := hid (show wordI s.data.toList[k].toNat = true by rw [← HC.out, wordI_eq, ha]; rfl)
          go_wp2_with (go_at_call 75; refine (small_ref _ _).mono ?_; rintro e w' ⟨rfl, rfl⟩)
          go_round
          case rel => exact ⟨k + 1, hlt, by go_num, fun j h hj => by
              rcases Nat.lt_or_eq_of_le (Nat.le_of_lt_succ hj) with h' | h'
              · exact HA.out j h h'
              · subst h'; exact HN.out⟩
          case measure => simp [intOf]; omega
        · have hb : smallI ((s.data[k]'hlt).toNat : Int) = false := by simpa using ha
          have hb' : smallI ((s[k]'hlt).toNat : Int) = false := hb
          clear ha
          by_cases hd : digI ((s.data[k]'hlt).toNat : Int) = true
          · have hd' : digI ((s[k]'hlt).toNat : Int) = true := hd
            have HN := hid (show wordI s.data.toList[k].toNat = true by rw [← HC.out, wordI_eq, hd]; simp)
            go_wp2_with (first | (go_at_call 75; refine (small_ref _ _).mono ?_; rintro e w' ⟨rfl, rfl⟩) | (go_at_call 76; refine (digit_ref _ _).mono ?_; rintro e w' ⟨rfl, rfl⟩))
            go_round
            case rel => exact ⟨k + 1, hlt, by go_num, fun j h hj => by
                rcases Nat.lt_or_eq_of_le (Nat.le_of_lt_succ hj) with h' | h'
                · exact HA.out j h h'
                · subst h'; exact HN.out⟩
            case measure => simp [intOf]; omega
          · have he : digI ((s.data[k]'hlt).toNat : Int) = false := by simpa using hd
            have he' : digI ((s[k]'hlt).toNat : Int) = false := he
            have HR := hid (show speltB wordI 16 s.data.toList = false from speltB_bad hq (by rw [← HC.out, wordI_eq, hb, he]; rfl))
            clear hd
            go_wp2_with (first | (go_at_call 75; refine (small_ref _ _).mono ?_; rintro e w' ⟨rfl, rfl⟩) | (go_at_call 76; refine (digit_ref _ _).mono ?_; rintro e w' ⟨rfl, rfl⟩))
            go_ret
            exact ⟨ret_bool HR.out.symm, rfl⟩
      · have HR := hid (show speltB wordI 16 s.data.toList = true from speltB_good hq0 (by rw [HL.out]; omega) (fun j h => HA.out j h (by rw [HL.out] at h; omega)) HD.out)
        go_wp2
        go_ret
        exact ⟨ret_bool HR.out.symm, rfl⟩
  · have hb : smallI ((s.data[0]'hp0).toNat : Int) = false := by simpa using hs
    have hb' : smallI ((s[0]'hp0).toNat : Int) = false := hb
    have HR := hid (show speltB wordI 16 s.data.toList = false by
      by_cases hd : digI s.data.toList[0].toNat = true
      · exact speltB_digit hq0 hd
      · refine speltB_bad hq0 ?_
        have hd' : digI s.data.toList[0].toNat = false := by simpa using hd
        have hb2 : smallI s.data.toList[0].toNat = false := by rw [← hc0]; exact hb
        rw [wordI_eq, hb2, hd']; rfl)
    clear hs hc0
    go_enter Try.func72, Try.ntmps72
    go_wp2_with (go_at_call 75; refine (small_ref _ _).mono ?_; rintro e w' ⟨rfl, rfl⟩)
    go_ret
    exact ⟨ret_bool HR.out.symm, rfl⟩
theorem word_ref_list (l : List UInt8) (w : World) : Calls Try.prog 72 #[.string ⟨l.toArray⟩] w fun e w' => e = .returned (.bool (speltB wordI 16 l)) ∧ w' = w := by
  have := word_ref ⟨l.toArray⟩ w
  simpa using this
theorem not_sign {s : ByteArray} {k : Nat} (hk : k < s.size) (hq : k < s.data.toList.length) {c : UInt8} (h : s.data.toList[k] ≠ c) : (((s.data[k]'hk).toNat : Int) == (c.toNat : Int)) = false := by
  rw [beq_eq_false_iff_ne]
  intro e
  refine h ?_
  have h1 : s.data.toList[k] = s.data[k]'hk := by simp
  rw [h1]
  exact UInt8.toNat_inj.1 (by omega)
theorem is_sign {s : ByteArray} {k : Nat} (hk : k < s.size) (hq : k < s.data.toList.length) {c : UInt8} (h : s.data.toList[k] = c) : (((s.data[k]'hk).toNat : Int) == (c.toNat : Int)) = true := by
  have h1 : s.data.toList[k] = s.data[k]'hk := by simp
  rw [← h1, h]
  simp
set_option maxRecDepth 100000 in
theorem kind_ref_none (s : ByteArray) (w : World) (hb : s.size ≤ 140737488355328) (h : 46 ∉ s.data.toList) :
    Calls Try.prog 68 #[.string s] w fun e w' => e = .returned (.tuple #[.string ⟨#[]⟩, .string ⟨#[]⟩, .bool false]) ∧ Ext w w' := by
  have HL := hid (size_list s)
  have HH := hid h
  clear h
  go_enter Try.func68, Try.ntmps68
  go_wp2
  go_loop [5] (fun i => ∃ k : Nat, k ≤ s.size ∧ i = .int .i64 k) (fun i => s.size - (intOf i).toNat)
  case atStart => exact ⟨0, Nat.zero_le _, rfl⟩
  case round =>
    obtain ⟨k, hk, rfl⟩ := hrel
    by_cases hlt : k < s.size
    · have hlt' : (k : Int) < s.size := by omega
      have hk' : (k : Int) ≤ 140737488355328 := by omega
      obtain ⟨hq, hc⟩ := at_list s k hlt
      have hz : (((s.data[k]'hlt).toNat : Int) == 46) = false := not_sign hlt hq (c := 46) (fun e => HH.out (by rw [← e]; exact List.getElem_mem hq))
      have hz' : (((s[k]'hlt).toNat : Int) == 46) = false := hz
      clear hc
      go_wp2
      go_round
      case rel => exact ⟨k + 1, hlt, by go_num⟩
      case measure => simp [intOf]; omega
    · go_wp2
      go_ret3
      exact ⟨rfl, Ext.refl _⟩
set_option maxRecDepth 100000 in
set_option maxHeartbeats 1000000 in
theorem kind_ref_found (s : ByteArray) (pre post : List UInt8) (w : World) (hs : s.data.toList = pre ++ 46 :: post) (h : 46 ∉ pre) (hb : s.size ≤ 140737488355328) :
    Calls Try.prog 68 #[.string s] w fun e w' => e = .returned (kindV pre post) ∧ Ext w w' := by
  have HL := hid (size_list s)
  have hl : s.size = pre.length + (post.length + 1) := by rw [← size_list, hs]; simp
  have H1 := hid (show s.extract 0 pre.length = ⟨pre.toArray⟩ from data_inj (by rw [Lib.extract_data, hs]; simp))
  have H2 := hid (show s.extract (pre.length + 1) s.size = ⟨post.toArray⟩ from data_inj (by rw [Lib.extract_data, hs, show pre ++ 46 :: post = (pre ++ [46]) ++ post by simp, List.drop_left' (by simp), List.take_of_length_le (by omega)]))
  have HS := hid hs
  have HH := hid h
  have hsl : (s.size : Int) ≤ 140737488355328 := by omega
  have hpl : pre.length < s.size := by omega
  clear hs h hl
  go_enter Try.func68, Try.ntmps68
  go_wp2
  go_loop [5] (fun i => ∃ k : Nat, k ≤ pre.length ∧ i = .int .i64 k) (fun i => s.size - (intOf i).toNat)
  case atStart => exact ⟨0, Nat.zero_le _, rfl⟩
  case round =>
    obtain ⟨k, hk, rfl⟩ := hrel
    have hlt : k < s.size := by omega
    have hlt' : (k : Int) < s.size := by omega
    obtain ⟨hq, hc⟩ := at_list s k hlt
    clear hc
    by_cases hkl : k < pre.length
    · have hz : (((s.data[k]'hlt).toNat : Int) == 46) = false := not_sign hlt hq (c := 46) (fun e => HH.out (by
        have h2 : s.data.toList[k]? = some 46 := by rw [List.getElem?_eq_getElem hq, e]
        rw [HS.out, List.getElem?_append_left hkl, List.getElem?_eq_getElem hkl] at h2
        rw [← Option.some.inj h2]; exact List.getElem_mem hkl))
      have hz' : (((s[k]'hlt).toNat : Int) == 46) = false := hz
      go_wp2
      go_round
      case rel => exact ⟨k + 1, hkl, by go_num⟩
      case measure => simp [intOf]; omega
    · obtain rfl : k = pre.length := by omega
      have hz : (((s.data[pre.length]'hlt).toNat : Int) == 46) = true := is_sign hlt hq (c := 46) (by
        have h2 : s.data.toList[pre.length]? = some 46 := by rw [HS.out, List.getElem?_append_right (Nat.le_refl _)]; simp
        rw [List.getElem?_eq_getElem hq] at h2
        exact Option.some.inj h2)
      have hz' : (((s[pre.length]'hlt).toNat : Int) == 46) = true := hz
      have hi2 : (pre.length : Int) + 1 ≤ s.size := by omega
      have hi3 : (pre.length : Int) ≤ s.size := by omega
      by_cases hw : speltB wordI 16 pre = true
      · by_cases hv : speltB wordI 16 post = true
        · have HR := hid (show kindV pre post = .tuple #[.string ⟨pre.toArray⟩, .string ⟨post.toArray⟩, .bool true] by simp [kindV, hw, hv])
          go_wp2_with fail
          rw [H1.out]
          refine (word_ref_list pre _).mono ?_
          rintro e w1 ⟨rfl, rfl⟩
          go_wp2_with fail
          rw [H2.out]
          refine (word_ref_list post _).mono ?_
          rintro e w2 ⟨rfl, rfl⟩
          go_wp2
          go_quiet (fail)
          go_wp2
          go_ret3
          exact ⟨by rw [HR.out, H1.out, H2.out]; rfl, (Ext.refl _).drewN _⟩
        · have hv' : speltB wordI 16 post = false := by simpa using hv
          have HR := hid (show kindV pre post = .tuple #[.string ⟨#[]⟩, .string ⟨#[]⟩, .bool false] by simp [kindV, hv'])
          clear hv
          go_wp2_with fail
          rw [H1.out]
          refine (word_ref_list pre _).mono ?_
          rintro e w1 ⟨rfl, rfl⟩
          go_wp2_with fail
          rw [H2.out]
          refine (word_ref_list post _).mono ?_
          rintro e w2 ⟨rfl, rfl⟩
          go_wp2
          go_ret3
          exact ⟨by rw [HR.out]; rfl, Ext.refl _⟩
      · have hw' : speltB wordI 16 pre = false := by simpa using hw
        have HR := hid (show kindV pre post = .tuple #[.string ⟨#[]⟩, .string ⟨#[]⟩, .bool false] by simp [kindV, hw'])
        clear hw
        go_wp2_with fail
        rw [H1.out]
        refine (word_ref_list pre _).mono ?_
        rintro e w1 ⟨rfl, rfl⟩
        go_wp2
        go_ret3
        exact ⟨by rw [HR.out]; rfl, Ext.refl _⟩
end Go.Proofs.Ythdmoghooaccgaa
/-
  The reference's May by a contract.
-/
namespace Go.Proofs.Ythdmoghooaccgaa
open Go.RowKit Go.Shelf
theorem kind_rany (s : ByteArray) (w : World) (hb : s.size ≤ 140737488355328) : Calls Try.prog 68 #[.string s] w fun e w' => ∃ a b, e = .returned (.tuple #[.string a, .string b, .bool (kindOk s.data.toList)]) ∧ Ext w w' := by
  by_cases h : (46 : UInt8) ∈ s.data.toList
  · obtain ⟨h1, h2⟩ := kind_split _ h
    refine (kind_ref_found s _ _ w h1 h2 hb).mono (fun e w' hh => ?_)
    obtain ⟨rfl, hx⟩ := hh
    unfold kindOk kindV
    rw [decide_eq_true h]
    by_cases hq : (speltB wordI 16 (s.data.toList.takeWhile (· != 46)) && speltB wordI 16 (s.data.toList.dropWhile (· != 46)).tail) = true
    · rw [if_pos hq, hq]; exact ⟨_, _, rfl, hx⟩
    · have hq' : (speltB wordI 16 (s.data.toList.takeWhile (· != 46)) && speltB wordI 16 (s.data.toList.dropWhile (· != 46)).tail) = false := by simpa using hq
      rw [if_neg hq, hq']; exact ⟨_, _, rfl, hx⟩
  · refine (kind_ref_none s w hb h).mono (fun e w' hh => ?_)
    obtain ⟨rfl, hx⟩ := hh
    unfold kindOk
    rw [decide_eq_false h]
    exact ⟨_, _, rfl, hx⟩
mutual
/-- Whether all kinds are names of kinds. -/
def namedB : T → Bool | .node k _ _ ks => kindOk k.data.toList && namedL ks
def namedL : List T → Bool | [] => true | t :: r => namedB t && namedL r
end
theorem namedL_append (l r : List T) : namedL (l ++ r) = (namedL l && namedL r) := by
  induction l with
  | nil => simp [namedL]
  | cons t q ih => simp only [List.cons_append, namedL, ih, Bool.and_assoc]
theorem namedL_take (l : List T) (i : Nat) (h : i < l.length) : namedL (l.take (i + 1)) = (namedL (l.take i) && namedB l[i]) := by
  rw [T.take_succ' l i h, namedL_append]
  simp [namedL]
mutual
theorem named_all : ∀ (t : T) (p : List Int), (∀ y ∈ T.all p t, kindOk y.2.kind.data.toList = true) ↔ namedB t = true
  | .node k n x ks, p => by
    have h := named_allL ks p 0
    simp only [T.all, namedB, List.mem_cons, Bool.and_eq_true]
    constructor
    · intro hh
      exact ⟨hh _ (.inl rfl), h.1 (fun y hy => hh y (.inr hy))⟩
    · rintro ⟨h1, h2⟩ y (rfl | hy)
      · exact h1
      · exact h.2 h2 y hy
theorem named_allL : ∀ (l : List T) (p : List Int) (i : Nat), (∀ y ∈ T.allL p i l, kindOk y.2.kind.data.toList = true) ↔ namedL l = true
  | [], p, i => by simp [T.allL, namedL]
  | t :: r, p, i => by
    have h1 := named_all t (p ++ [(i : Int)])
    have h2 := named_allL r p (i + 1)
    simp only [T.allL, namedL, List.mem_append, Bool.and_eq_true]
    constructor
    · intro hh
      exact ⟨h1.1 (fun y hy => hh y (.inl hy)), h2.1 (fun y hy => hh y (.inr hy))⟩
    · rintro ⟨g1, g2⟩ y (hy | hy)
      · exact h1.2 g1 y hy
      · exact h2.2 g2 y hy
end
theorem mayN_eq (t : T) : mayN t = if t.small then (if namedB t = true then 0 else 10) else 2 := by
  unfold mayN
  by_cases h : namedB t = true
  · have h' : t.named := (named_all t []).2 h
    simp [h, h']
  · have h' : ¬ t.named := fun hh => h ((named_all t []).1 hh)
    simp [h, h']
set_option maxRecDepth 100000 in
set_option maxHeartbeats 2000000 in
theorem named_any : ∀ (d : Nat) (v : Value) (t : T) (K : Nat → Prop) (w : World), Rd K w d v t →
    Calls Try.prog 58 #[v] w fun e w' => e = .returned (.bool (namedB t)) ∧ Ext w w' := by
  intro d
  induction d with
  | zero => intro v t K w h; exact h.elim
  | succ d ih =>
    intro v t K w hr
    obtain ⟨k, n, x, ks⟩ := t
    obtain ⟨a, c, rfl, hkl⟩ := hr.kidsL
    have hks : k.size ≤ 140737488355328 := by obtain ⟨_, _, _, h, _⟩ := hr; omega
    have hl' : (ks.length : Int) ≤ 140737488355328 := by have := hkl.1; omega
    have HK := hid hkl
    have HIH := hid ih
    have HKS := hid hks
    clear hr hkl ih hks
    have HE := hid (show namedB (.node k n x ks) = (kindOk k.data.toList && namedL ks) from rfl)
    go_enter Try.func58, Try.ntmps58
    go_wp2_with fail
    refine (kind_rany k _ HKS.out).mono ?_
    rintro e w1 ⟨n1, n2, rfl, hx1⟩
    have HX1 := hid ((Ext.alloc w _).trans hx1)
    have HB1 := hid (hx1.block (blk0 w _))
    clear hx1
    generalize hk0 : kindOk k.data.toList = k0
    rw [hk0] at HE
    clear hk0
    go_wp2_with fail
    go_loopw [5, 6] (fun ok i wr => ∃ j : Nat, j ≤ ks.length ∧ i = .int .i64 j ∧ ok = .bool (k0 && namedL (ks.take j)) ∧ wr.heap[w.heap.size]? = some (.cells #[.string k, .int .i64 n, .string x, .slice a ks.length c] 26) ∧ Ext w wr) (fun _ i _ => ks.length - (intOf i).toNat)
    case atStart => exact ⟨0, Nat.zero_le _, rfl, by simp [namedL], HB1.out, HX1.out⟩
    case round =>
      obtain ⟨j, hj, rfl, rfl, hbt, hx⟩ := hrel
      have HX := hid hx
      have HBT := hid hbt
      obtain ⟨t0, t1, t2, t3⟩ := four_of hbt
      clear hx hbt
      generalize hr : (k0 && namedL (ks.take j)) = r
      have HRR := hid hr
      clear hr
      by_cases hlt : j < ks.length
      · have hlt' : (j : Int) < ks.length := by omega
        cases r with
        | true =>
          obtain ⟨g, off, k', n', x', a', l', c', rfl, hg, h4, hrd⟩ := HK.out.kid hlt
          obtain ⟨m0, m1, m2, m3⟩ := h4.keep (HX.out.kp K) hg
          have hgl := lt_of_cell m0
          have HC := hid (HIH.out _ ks[j] K wr (hrd.later HX.out))
          clear h4 hrd hg
          go_wp2_with fail
          refine HC.out.mono ?_
          rintro e w2 ⟨rfl, hy⟩
          have HY := hid hy
          clear hy m0 m1 m2 m3 t0 t1 t2 t3 HC
          go_wp2_with fail
          go_roundw
          case rel => exact ⟨j + 1, hlt, by go_num, by rw [namedL_take ks j hlt, ← Bool.and_assoc, HRR.out, Bool.true_and], HY.out.block HBT.out, HX.out.trans HY.out⟩
          case measure => simp [intOf]; omega
        | false =>
          have HN := hid (show (k0 && namedL ks) = false by
            have := namedL_append (ks.take j) (ks.drop j)
            rw [List.take_append_drop] at this
            rw [this, ← Bool.and_assoc, HRR.out, Bool.false_and])
          go_wp2_with fail
          go_ret
          exact ⟨by rw [HE.out, HN.out]; rfl, HX.out⟩
      · have HN := hid (show (k0 && namedL ks) = r by rw [← HRR.out, show j = ks.length by omega, List.take_length])
        go_wp2_with fail
        go_ret
        exact ⟨by rw [HE.out, HN.out]; rfl, HX.out⟩
set_option maxRecDepth 100000 in
theorem refMay_any {K : Nat → Prop} {d : Nat} {v : Value} {t : T} (w : World) (hr : Rd K w d v t) : Calls Try.prog 34 #[v] w fun e w' => e = .returned (.int .i64 (mayN t)) ∧ Ext w w' := by
  obtain ⟨u0, u1, u2, u3, rfl⟩ := hr.agg
  obtain ⟨k, n, x, a, c, rfl, rfl, rfl, rfl⟩ := hr.shape
  have C1 := hid (fun w1 (h : Ext w w1) => refSmall_any w1 (hr.later h))
  have C2 := hid (fun w1 (h : Ext w w1) => named_any d _ t K w1 (hr.later h))
  have HM := hid (mayN_eq t)
  clear hr
  generalize (T.kids t).length = kt at *
  by_cases h1 : t.small
  · rw [decide_eq_true h1] at C1
    rw [if_pos h1] at HM
    clear h1
    go_enter Try.func34, Try.ntmps34
    go_wp2_with fail
    refine (C1.out _ (Ext.alloc _ _)).mono ?_
    rintro e w1 ⟨rfl, hx1⟩
    obtain ⟨p0, p1, p2, p3⟩ := four_of (hx1.block (blk0 w _))
    have hX1 := (Ext.alloc w _).trans hx1
    clear hx1
    go_wp2_with fail
    refine (C2.out _ hX1).mono ?_
    rintro e w2 ⟨rfl, hx2⟩
    have HX2 := hid (hX1.trans hx2)
    clear hx2 p0 p1 p2 p3
    generalize hb : namedB t = b
    rw [hb] at HM
    clear hb
    cases b with
    | true =>
      go_wp2_with fail
      go_ret
      exact ⟨by rw [HM.out]; rfl, HX2.out⟩
    | false =>
      go_wp2_with fail
      go_ret
      exact ⟨by rw [HM.out]; rfl, HX2.out⟩
  · rw [decide_eq_false h1] at C1
    rw [if_neg h1] at HM
    clear h1
    go_enter Try.func34, Try.ntmps34
    go_wp2_with fail
    refine (C1.out _ (Ext.alloc _ _)).mono ?_
    rintro e w1 ⟨rfl, hx1⟩
    have HX := hid ((Ext.alloc w _).trans hx1)
    clear hx1
    go_wp2_with fail
    go_ret
    exact ⟨by rw [HM.out]; rfl, HX.out⟩
end Go.Proofs.Ythdmoghooaccgaa
