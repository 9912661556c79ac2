/- The reference's With. -/
import Derived.Test.YtpbhndmfmnfeoaaGreatMg39
import Derived.Test.YtpbhndmfmnfeoaaGreatMg15
import Derived.Deep.AppendLies
import Derived.Outline
namespace Go.Proofs.YtpbhndmfmnfeoaaGreat.Ug
open Go.RowKit

theorem srcV_forms {w : World} {v : Value} {xs : List Value} (h : SrcV w v xs) : ∃ A c, v = .slice A xs.length c ∧ xs.length ≤ c ∧ ∀ (j : Nat) q, xs[j]? = some q → ∃ g o, A = some ⟨g, o, none⟩ ∧ w.cell? ⟨g, o + j, none⟩ = some q := by
  rcases h with ⟨rfl, rfl⟩ | ⟨ad, c, rfl, hc, hm⟩
  · exact ⟨none, 0, rfl, Nat.le_refl _, fun j q hq => by simp at hq⟩
  · refine ⟨some ad, c, rfl, hc, fun j q hq => ?_⟩
    have h0 : 0 < xs.length := by have := (List.getElem?_eq_some_iff.1 hq).1; omega
    obtain ⟨x0, hx0⟩ : ∃ x0, xs[0]? = some x0 := ⟨_, List.getElem?_eq_getElem h0⟩
    have h4 := hm 0 x0 hx0
    have h3 := hm j q hq
    obtain ⟨g, o, sp⟩ := ad
    have hsp : sp = none := World.cell?_spot (a := ⟨g, o, sp⟩) h4
    subst hsp
    refine ⟨g, o, rfl, ?_⟩
    have e : (⟨g, o, none⟩ : Addr).add j = ⟨g, o + j, none⟩ := by unfold Addr.add; split <;> simp_all
    rw [← e]
    exact h3
/-- Numbers that are read. -/
def IntsR (w : World) (v : Value) (L : List Int) : Prop := SrcV w v (L.map (Value.int .i64)) ∧ ∀ x ∈ L, i64ok x
theorem IntsR.keep {w w' : World} {v : Value} {L : List Int} (h : IntsR w v L) (hk : ∀ g, g < w.heap.size → w'.heap[g]? = w.heap[g]?) : IntsR w' v L := ⟨h.1.keep hk, h.2⟩
theorem IntsR.later {w w' : World} {v : Value} {L : List Int} (h : IntsR w v L) (hb : Below w.heap.size w w') : IntsR w' v L := h.keep hb.block
theorem IntsR.form {w : World} {v : Value} {L : List Int} (h : IntsR w v L) : ∃ A c, v = .slice A L.length c ∧ L.length ≤ c ∧ ∀ (j : Nat) x, L[j]? = some x → i64ok x ∧ ∃ g o, A = some ⟨g, o, none⟩ ∧ w.cell? ⟨g, o + j, none⟩ = some (.int .i64 x) := by
  obtain ⟨A, c, h1, h2, h3⟩ := srcV_forms h.1
  rw [List.length_map] at h1 h2
  exact ⟨A, c, h1, h2, fun j x hx => ⟨h.2 x (List.mem_of_getElem? hx), h3 j _ (by rw [List.getElem?_map, hx]; rfl)⟩⟩
theorem IntsR.nil (w : World) : IntsR w (.slice none 0 0) [] := ⟨.inl ⟨rfl, rfl⟩, fun x h => by simp at h⟩
theorem IntsR.one {w : World} {v : Value} {L : List Int} (h : IntsR w v L) : ∃ A n c, v = .slice A n c := by
  obtain ⟨A, c, h, _⟩ := h.form
  exact ⟨_, _, _, h⟩
theorem info_int (_ : True) : (Tryz.prog.info? 3).map (fun i => (i.zero, i.size, i.bytes)) = some (some (.int .i64 0), 1, 8) := by kernel_rfl
set_option maxRecDepth 100000 in
set_option maxHeartbeats 4000000 in
theorem with_any (v : Value) (L : List Int) (n : Int) (w : World) (hv : IntsR w v L) (hn : i64ok n) (hL : L.length ≤ 10000000) :
    Calls Tryz.prog 51 #[v, .int .i64 n] w fun e w' => ∃ v', e = .returned v' ∧ IntsR w' v' (withL L n) ∧ Below w.heap.size w w' := by
  obtain ⟨i0, hi, hz0, hz1, hz2⟩ := info_parts (info_int trivial)
  obtain ⟨A, c, rfl, hc, hm⟩ := hv.form
  have HV := Lib.hid hv
  have HM := Lib.hid (fun (j : Nat) x (h : L[j]? = some x) => hm j x h)
  obtain ⟨N, hN⟩ : ∃ N, N = L.length := ⟨_, rfl⟩
  have HN := Lib.hid hN
  rw [← hN] at HV hL hc ⊢
  clear hN hv hm
  go_enter Tryz.func51, Tryz.ntmps51
  go_wp2
  go_loopw [5] (fun i wr => ∃ k : Nat, k ≤ N ∧ i = .int .i64 k ∧ Below w.heap.size w wr ∧ ∀ (j : Nat) x, j < k → L[j]? = some x → x ≠ n) (fun i _ => N - (intOf i).toNat)
  case atStart => exact ⟨0, Nat.zero_le _, rfl, Below.refl _ _, fun j x h => by omega⟩
  case round =>
    obtain ⟨k, hk, rfl, hB, hne⟩ := hrel
    have HB := Lib.hid hB
    have HNE := Lib.hid hne
    clear hne
    by_cases hlt : k < N
    · obtain ⟨x, hx⟩ : ∃ x, L[k]? = some x := ⟨_, List.getElem?_eq_getElem (by have := HN.out; omega)⟩
      obtain ⟨hx64, g, o, rfl, h6⟩ := HM.out k x hx
      have z6 := (hB.cell (p := ⟨g, o + k, none⟩) (World.block_lt_of_cell? w _ h6)).trans h6
      have HX := Lib.hid hx
      have hlti : (k : Int) < (N : Int) := by omega
      have hkc : k < c := by omega
      clear h6 hx hB hx64
      by_cases hxn : x = n
      · subst hxn
        go_wp2
        go_ret
        refine ⟨_, rfl, ?_, HB.out⟩
        rw [show withL L x = L from if_pos (List.mem_of_getElem? HX.out)]
        exact HV.out.later HB.out
      · go_wp2
        go_roundw
        case rel => exact ⟨k + 1, by omega, by go_num, HB.out, fun j y hj hy => by
          by_cases hjk : j = k
          · subst hjk; rw [HX.out] at hy; injection hy with hy; rw [← hy]; exact hxn
          · exact HNE.out j y (by omega) hy⟩
        case measure => simp [intOf]; omega
    · obtain rfl : k = N := by omega
      have hni : n ∉ L := by
        intro h
        obtain ⟨j, hj, he⟩ := List.getElem_of_mem h
        exact HNE.out j n (by have := HN.out; omega) (by rw [List.getElem?_eq_getElem hj, he]) rfl
      have HE := Lib.hid (show withL L n = L ++ [n] from if_neg hni)
      have HS := Lib.hid (HV.out.later HB.out)
      clear hni hB
      have hb1 : Below w.heap.size w (wr.alloc (.cells #[] 3)) := HB.out.alloc (HB.out.size) _
      have HO := Lib.hid (show (wr.alloc (.cells #[] 3)).ownsRow w.heap.size 3 1 (.slice (some ⟨wr.heap.size, 0, none⟩) 0 0) 0 [] from ⟨rfl, .inr ⟨wr.heap.size, 0, #[], rfl, HB.out.size, Lies.new _ _ _, Nat.le_refl _, Nat.zero_le _, rfl, rfl⟩⟩)
      have HSR := Lib.hid (HS.out.1.later (below_new wr (.cells #[] 3)))
      have HB1 := Lib.hid hb1
      have HONE := Lib.hid (show ∀ q ∈ L.map (Value.int .i64), q.oneCell' = true from fun q hq => by obtain ⟨x, _, rfl⟩ := List.mem_map.1 hq; rfl)
      have HLEN := Lib.hid (show 0 + (L.map (Value.int .i64)).length ≤ 10000000 by rw [List.length_map]; have := HN.out; omega)
      clear hb1
      go_wp2_with (at_builtin; go_loud (refine wpList_append_srcV rfl (.tmp 19) (.tmp 20) 56 rfl w.heap.size 3 i0 _ 8 Tryz.underlying56 hi hz0 hz1 hz2 rfl _ 0 [] rfl HO.out _ (L.map (Value.int .i64)) rfl HSR.out HONE.out (by have := HLEN.out; unfold maxLen; omega) (by have := HLEN.out; omega) HB1.out.size ?_))
      intro v1 w1 ho1 hg1
      rw [← HN.out] at ho1
      obtain ⟨A1, k1, c1, rfl⟩ := own_slice ho1
      have hbw1 : Below w.heap.size w w1 := ⟨hg1.os.trans HB1.out.os, hg1.tape.trans HB1.out.tape, hg1.output.trans HB1.out.output, Nat.le_trans HB1.out.size hg1.size, fun i hi => (hg1.block i (Nat.lt_of_lt_of_le hi HB1.out.size) (fun e => by have := (own_block HO.out i e.symm).1; omega)).trans (HB1.out.block i hi)⟩
      have HBW1 := Lib.hid hbw1
      have HO1 := Lib.hid (own_later ho1 (below_new w1 (.cells #[.int .i64 n] 3)))
      have hsz1 : w.heap.size ≤ (w1.alloc (.cells #[.int .i64 n] 3)).heap.size := by rw [World.size_alloc]; have := hbw1.size; omega
      have HSZ1 := Lib.hid hsz1
      clear ho1 hg1 hbw1 hsz1
      go_wp2_with (at_builtin; go_loud (refine wpList_append_lies _ rfl (.tmp 21) (.tmp 23) 56 rfl w.heap.size 3 i0 (.int .i64 0) 1 8 Tryz.underlying56 hi hz0 hz1 hz2 rfl (by decide) _ k _ rfl HO1.out ⟨w1.heap.size, 0, none⟩ 1 1 [.int .i64 n] rfl rfl (World.news_of_block (Lies.new w1 3 #[.int .i64 n])) (by simp [Value.oneCell']) (by decide) (by unfold maxLen; omega) (by omega) HSZ1.out _ rfl ?_))
      intro g c2 w2 ho2 hg2 _ _
      have hbw2 : Below w.heap.size w w2 := ⟨hg2.os.trans HBW1.out.os, hg2.tape.trans HBW1.out.tape, hg2.output.trans HBW1.out.output, Nat.le_trans HSZ1.out hg2.size, fun i hi => (hg2.block i (Nat.lt_of_lt_of_le hi HSZ1.out) (fun e => by have := (own_block HO1.out i e.symm).1; omega)).trans ((below_new w1 (.cells #[.int .i64 n] 3)).block i (Nat.lt_of_lt_of_le hi HBW1.out.size) |>.trans (HBW1.out.block i hi))⟩
      have HB2 := Lib.hid hbw2
      have HO2 := Lib.hid ho2
      clear ho2 hg2 hbw2
      go_wp2
      go_ret
      refine ⟨_, rfl, ⟨?_, withL_all HV.out.2 hn⟩, HB2.out⟩
      rw [HE.out, List.map_append]
      exact own_row_src HO2.out
end Go.Proofs.YtpbhndmfmnfeoaaGreat.Ug
