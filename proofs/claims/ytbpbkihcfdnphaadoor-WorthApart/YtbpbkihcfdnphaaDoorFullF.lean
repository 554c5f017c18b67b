/-
  Full of the statements, by a contract: only the value's own lists are written over.
-/
import Derived.Test.YtbpbkihcfdnphaaDoorAsv
import Derived.Test.YtbpbkihcfdnphaaDoorItems
namespace Go.Proofs.YtbpbkihcfdnphaaDoor
open Go.RowKit
theorem app_room {ops : Array Oper} {rest : List Oper} {o : Oper} {a : Act} {Q : Exit → Act → World → Prop} {w : World} {ty : TypeId} (hgd : o.guard = none) (s x : Operand)
    (ho : o.op = .call { callee := .builtin .append, args := #[s, x], argTypes := #[61, 61] }) (hty : o.type = 61) (g m c : Nat) (cur : Array Value) (u : Value) (h1 : u.oneCell' = true) (hs : a.eval s = .slice (some ⟨g, 0, none⟩) m c) (hx : a.eval x = .slice (some ⟨w.heap.size, 0, none⟩) 1 1)
    (hg : w.heap[g]? = some (.cells cur 30)) (hroom : m + 1 ≤ c) (hfit : m + 1 ≤ cur.size)
    (h : ∀ cur' w', cur'.size = cur.size → w'.heap[g]? = some (.cells cur' 30) → Kp (· ≠ g) w w' → wpList Tryd.prog ops Q rest (a.put o.dst (.slice (some ⟨g, 0, none⟩) (m + 1) c)) w') : wpList Tryd.prog ops Q (o :: rest) a (w.alloc (.cells #[u] ty)) := by
  refine wpList_plain hgd fun K hK => ?_
  obtain ⟨ii, hii, hz0, hz1, hz2⟩ := info_parts valueInfo
  have hr := run_append_room (P := Tryd.prog) (w.alloc (.cells #[u] ty)) 61 61 30 ii Tryd.underlying61 hii g m c cur (blkOld _ hg) ⟨w.heap.size, 0, none⟩ 1 1 [u] (by rw [hz1]; rfl) (cell_one_new _ _ _) (fun v hv => by simp at hv; subst hv; exact h1) hroom (by rw [hz1]; simpa using hfit)
  rw [hz1] at hr
  unfold Oper.wp execOp
  simp only [ho, hty, resolve, invoke, builtin, Sem.run_bind, Sem.run_pure, Result.andThen_ok, List.map_toArray, List.map_cons, List.map_nil, hs, hx, hr]
  refine hK _ _ (h _ _ ?_ (setRow_heap _ g cur _ 30 (0, 0) (blkOld _ hg)) ⟨rfl, rfl, rfl, by simp, fun k hk hne => (setRow_other _ g k _ hne).trans (heap_alloc_old w _ hk)⟩)
  simp
  omega
/-- But for these blocks what lay there lies as it lay. -/
def KpOff (bs : List Nat) (w w' : World) : Prop := Kp (· ∉ bs) w w'
theorem not_before {bss : List (List Nat)} {j : Nat} {b : List Nat} (hn : bss.flatten.Nodup) (hb : bss[j]? = some b) {q : Nat} (hq : q ∈ b) : q ∉ (bss.take j).flatten := fun h => by
  have hj : j < bss.length := by
    rcases Nat.lt_or_ge j bss.length with h | h
    · exact h
    · rw [List.getElem?_eq_none h] at hb; cases hb
  have e : bss = bss.take j ++ bss.drop j := (List.take_append_drop j bss).symm
  rw [e, List.flatten_append, List.nodup_append] at hn
  refine hn.2.2 q h q (List.mem_flatten.2 ⟨b, ?_, hq⟩) rfl
  rw [List.getElem?_eq_getElem hj] at hb
  cases hb
  rw [List.drop_eq_getElem_cons hj]
  exact List.mem_cons_self
theorem nodup_at {bss : List (List Nat)} {j : Nat} {b : List Nat} (hn : bss.flatten.Nodup) (hb : bss[j]? = some b) : b.Nodup := by
  have hj : j < bss.length := by
    rcases Nat.lt_or_ge j bss.length with h | h
    · exact h
    · rw [List.getElem?_eq_none h] at hb; cases hb
  have e : bss = bss.take j ++ bss.drop j := (List.take_append_drop j bss).symm
  rw [e, List.flatten_append, List.nodup_append, List.drop_eq_getElem_cons hj, List.flatten_cons, List.nodup_append] at hn
  rw [List.getElem?_eq_getElem hj] at hb
  cases hb
  exact hn.2.1.1
theorem take_flat {bss : List (List Nat)} {j : Nat} {b : List Nat} (hb : bss[j]? = some b) {q : Nat} : q ∈ (bss.take (j + 1)).flatten ↔ q ∈ (bss.take j).flatten ∨ q ∈ b := by
  rw [List.take_add_one, hb, List.flatten_append, List.mem_append]
  simp
attribute [local go_sem] as_un_li as_tu_li as_in_li as_tx_li as_li_li
set_option maxRecDepth 100000 in
set_option maxHeartbeats 4000000 in
theorem full_any : ∀ (d : Nat) (v : Value) (t : T) (bs : List Nat) (w : World) (m : Int), VOwn w d v t bs → bs.Nodup → t.size ≤ 65536 →
    Calls Tryd.prog 26 #[v, .int .i64 m] w fun e w' => (∃ u, e = .returned u) ∧ KpOff bs w w' := by
  intro d
  induction d with
  | zero => intro v t bs w m h; exact h.elim
  | succ d ih =>
    intro v t bs w m h hnd hsz
    obtain ⟨k, n, x, ks⟩ := t
    rcases h with ⟨rfl, rfl, rfl, rfl, rfl, rfl⟩ | ⟨rfl, rfl, rfl, rfl, B, hn, rfl⟩ | ⟨rfl, rfl, rfl, rfl, rfl⟩ | ⟨rfl, rfl, rfl, rfl, hxs, rfl⟩ | ⟨rfl, rfl, rfl, hll, g, c, cs, bss, rfl, hlc, hg, hcs, rfl, hbl, hks⟩
    · clear ih hsz hnd
      go_enter Tryd.func26, Tryd.ntmps26
      go_wp2_with fail
      (try simp only [Exit.inBlock, Exit.then])
      refine bodyPost_ret (results_none rfl _ _ _) rfl ?_
      exact ⟨⟨_, rfl⟩, Kp.refl _ _⟩
    · clear ih hsz hnd hn
      go_enter Tryd.func26, Tryd.ntmps26
      go_wp2_with fail
      (try simp only [Exit.inBlock, Exit.then])
      refine bodyPost_ret (results_none rfl _ _ _) rfl ?_
      exact ⟨⟨_, rfl⟩, Kp.refl _ _⟩
    · clear ih hsz hnd
      go_enter Tryd.func26, Tryd.ntmps26
      go_wp2_with fail
      (try simp only [Exit.inBlock, Exit.then])
      refine bodyPost_ret (results_none rfl _ _ _) rfl ?_
      exact ⟨⟨_, rfl⟩, Kp.refl _ _⟩
    · clear ih hsz hnd
      go_enter Tryd.func26, Tryd.ntmps26
      go_wp2_with fail
      (try simp only [Exit.inBlock, Exit.then])
      refine bodyPost_ret (results_none rfl _ _ _) rfl ?_
      exact ⟨⟨_, rfl⟩, Kp.refl _ _⟩
    · obtain ⟨hgn, hfn⟩ := List.nodup_cons.1 hnd
      have HIH := hid ih
      have HKS := hid hks
      have HGN := hid hgn
      have HFN := hid hfn
      have HCS := hid hcs
      have HG := hid hg
      have HLC := hid hlc
      have HBL := hid hbl
      have HSZ := hid (show ∀ u ∈ ks, u.size ≤ 65536 from fun u hu => by have := T.sizeL_mem hu; simp only [T.size] at hsz; omega)
      have hl : ks.length ≤ 65536 := by have := T.sizeL_len ks; simp only [T.size] at hsz; omega
      clear ih hks hgn hfn hcs hg hlc hbl hsz hnd
      go_enter Tryd.func26, Tryd.ntmps26
      go_wp2_with fail
      go_loopw [6] (fun i wr => ∃ (j : Nat) (cs' : Array Value), j ≤ ks.length ∧ i = .int .i64 j ∧ Kp (fun q => q ≠ g ∧ q ∉ (bss.take j).flatten) w wr ∧ wr.heap[g]? = some (.cells cs' 30) ∧ cs'.size = c ∧ ∀ i, j ≤ i → cs'[i]? = cs[i]?) (fun i _ => ks.length - (intOf i).toNat)
      case atStart => exact ⟨0, cs, Nat.zero_le _, rfl, Kp.refl _ _, HG.out, HCS.out, fun _ _ => rfl⟩
      case round =>
        obtain ⟨j, cs', hj, rfl, hkp, hb, hc', hsame⟩ := hrel
        have HKP := hid hkp
        have HB := hid hb
        have HC' := hid hc'
        have HSA := hid hsame
        clear hkp hb hc' hsame
        by_cases hlt : j < ks.length
        · have hlt' : (j : Int) < ks.length := by omega
          obtain ⟨u, b, hu, hbj, hown⟩ := HKS.out j hlt
          obtain ⟨τ, p, rfl⟩ := hown.rd.iface
          have HBJ := hid hbj
          have hgb : g ∉ b := fun h => HGN.out (List.mem_flatten.2 ⟨b, List.mem_of_getElem? hbj, h⟩)
          have HGB := hid hgb
          have c0 : wr.cell? ⟨g, j, none⟩ = some (.iface τ p) := cell_of HB.out ((HSA.out j (Nat.le_refl _)).trans hu)
          have HC := hid (HIH.out _ ks[j] b wr m (hown.keep (HKP.out.mono (fun q _ hq => ⟨fun e => hgb (e ▸ hq), not_before HFN.out hbj hq⟩))) (nodup_at HFN.out hbj) (HSZ.out _ (List.getElem_mem hlt)))
          clear hown hgb hbj hu
          go_wp2_with fail
          refine HC.out.mono ?_
          rintro e w2 ⟨⟨u2, rfl⟩, hk2'⟩
          have hk2 : Kp (· ∉ b) wr w2 := hk2'
          clear hk2'
          have hb2 := hk2.block' HB.out HGB.out
          have HB2 := hid hb2
          have HK2 := hid hk2
          have hjc : j < cs'.size := by rw [HC'.out]; have := HLC.out; omega
          have d0 := cell_of (i := j) hb2 (Array.getElem?_eq_getElem hjc)
          have f0 := frozen_of (i := j) hb2
          clear hk2 hb2 c0
          go_wp2_with fail
          go_roundw
          case rel =>
            refine ⟨j + 1, cs'.setIfInBounds j (.iface 58 (.int .i64 m)), hlt, by go_num, ?_, set_at HB2.out j _, by rw [Array.size_setIfInBounds]; exact HC'.out, fun i hi => ?_⟩
            · refine ((HKP.out.mono (fun q _ h => ⟨h.1, fun e => h.2 ((take_flat HBJ.out).2 (.inl e))⟩)).trans (HK2.out.mono (fun q _ h e => h.2 ((take_flat HBJ.out).2 (.inr e))))).trans (Kp.set w2 g j _ (fun h => h.1 rfl))
            · rw [set_get_other _ (by omega)]
              exact HSA.out i (by omega)
          case measure => simp [intOf]; omega
        · have hje : j = ks.length := by omega
          have HK := hid (show Kp (· ∉ g :: bss.flatten) w wr from HKP.out.mono (fun q _ h => ⟨fun e => h (by rw [e]; exact List.mem_cons_self), fun e => h (List.mem_cons_of_mem _ (by rw [hje, ← HBL.out, List.take_length] at e; exact e))⟩))
          clear hje
          go_wp2_with fail
          · have HH := hid h
            have HL := hid hl
            clear h hl hll
            go_loopw [4] (fun lv wq => ∃ (m : Nat) (cs2 : Array Value), lv = .slice (some ⟨g, 0, none⟩) m c ∧ m ≤ c ∧ Kp (· ∉ g :: bss.flatten) w wq ∧ wq.heap[g]? = some (.cells cs2 30) ∧ cs2.size = c) (fun lv _ => c - (match lv with | .slice _ m _ => m | _ => 0))
            case atStart => exact ⟨ks.length, cs', rfl, HLC.out, HK.out, HB.out, HC'.out⟩
            case round =>
              obtain ⟨q, cs2, rfl, hqc, hk2, hb2, hc2⟩ := hrel
              have HK2 := hid hk2
              have HB2 := hid hb2
              have HC2 := hid hc2
              clear hk2 hb2 hc2
              by_cases hlt2 : (q : Int) < (ks.length : Int) + 70000
              · have hqc' : q + 1 ≤ c := by have := HH.out; omega
                have HQ := hid hqc'
                clear hqc hqc' 
                go_wp2_with (at_builtin; refine app_room rfl _ _ rfl rfl g q c cs2 (.iface 58 (.int .i64 m)) rfl rfl rfl HB2.out HQ.out (by rw [HC2.out]; exact HQ.out) ?_; intro cs3 w3 hs3 hb3 hk3)
                go_roundw
                case rel => exact ⟨q + 1, cs3, rfl, HQ.out, HK2.out.trans (hk3.mono (fun z _ hz e => hz (by rw [e]; exact List.mem_cons_self))), hb3, hs3.trans HC2.out⟩
                case measure => simp; have := HQ.out; omega
              · clear hqc
                go_wp2_with fail
                go_end0
                exact ⟨⟨_, rfl⟩, show KpOff _ w _ from HK2.out⟩
          · have HH := hid h
            have HL := hid hl
            clear h hl hll
            go_loopw [4] (fun lv wq => ∃ (m : Nat) (cs2 : Array Value), lv = .slice (some ⟨g, 0, none⟩) m c ∧ m ≤ c ∧ Kp (· ∉ g :: bss.flatten) w wq ∧ wq.heap[g]? = some (.cells cs2 30) ∧ cs2.size = c) (fun lv _ => c - (match lv with | .slice _ m _ => m | _ => 0))
            case atStart => exact ⟨ks.length, cs', rfl, HLC.out, HK.out, HB.out, HC'.out⟩
            case round =>
              obtain ⟨q, cs2, rfl, hqc, hk2, hb2, hc2⟩ := hrel
              have HK2 := hid hk2
              have HB2 := hid hb2
              have HC2 := hid hc2
              clear hk2 hb2 hc2
              by_cases hlt2 : (q : Int) < c
              · have hqc' : q + 1 ≤ c := by have := HH.out; omega
                have HQ := hid hqc'
                clear hqc hqc' 
                go_wp2_with (at_builtin; refine app_room rfl _ _ rfl rfl g q c cs2 (.iface 58 (.int .i64 m)) rfl rfl rfl HB2.out HQ.out (by rw [HC2.out]; exact HQ.out) ?_; intro cs3 w3 hs3 hb3 hk3)
                go_roundw
                case rel => exact ⟨q + 1, cs3, rfl, HQ.out, HK2.out.trans (hk3.mono (fun z _ hz e => hz (by rw [e]; exact List.mem_cons_self))), hb3, hs3.trans HC2.out⟩
                case measure => simp; have := HQ.out; omega
              · clear hqc
                go_wp2_with fail
                go_end0
                exact ⟨⟨_, rfl⟩, show KpOff _ w _ from HK2.out⟩
end Go.Proofs.YtbpbkihcfdnphaaDoor
