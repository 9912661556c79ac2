/- Two rows are unified. -/
import Derived.Test.YtpbhndmfmnfeoaaGreatMg25
import Derived.Test.YtpbhndmfmnfeoaaGreatRgB
import Derived.Deep.CutRange
import Derived.Outline
namespace Go.Proofs.YtpbhndmfmnfeoaaGreat
open Go.RowKit

/-- What two rows are unified to: what is said then, and the next number; nothing if they can't be. -/
def rowsRes (la lb : List Str) (va vb nx : Int) : Option (RowF × Int) :=
  if moreL la lb = [] ∧ moreL lb la = [] then some (endsF va vb, nx)
  else if (moreL la lb ≠ [] ∧ vb = 0) ∨ (moreL lb la ≠ [] ∧ va = 0) ∨ va = vb then none
  else if moreL lb la = [] then some (setF R0 vb (moreL la lb, va), nx)
  else if moreL la lb = [] then some (setF R0 va (moreL lb la, vb), nx)
  else some (thenF (setF R0 va (moreL lb la, nx)) (setF R0 vb (moreL la lb, nx)), nx + 1)
theorem grown_trans {a b c : World} {row : Option Nat} (h : a.grownBy b row) (g : b.grownBy c row) : a.grownBy c row :=
  ⟨g.os.trans h.os, g.tape.trans h.tape, g.output.trans h.output, Nat.le_trans h.size g.size, fun k hk hn => (g.block k (Nat.lt_of_lt_of_le hk h.size) hn).trans (h.block k hk hn)⟩
def RowsEnd (w : World) (bu m : Nat) (o : Option (RowF × Int)) (e : Ending) (w' : World) : Prop :=
  (match o with | none => e = .returned (.int .i64 5) | some p => e = .returned (.int .i64 0) ∧ UnV w' bu (m + 4) p.1 p.2) ∧ w.grownBy w' (some bu)
set_option maxRecDepth 100000 in
set_option maxHeartbeats 8000000 in
theorem rows_any (w : World) (bu m : Nat) (nx : Int) (hu : UnV w bu m R0 nx) (hm : m ≤ 900) (lva lvb : Value) (la lb : List Str) (va vb : Int) (hra : StrR w lva la) (hrb : StrR w lvb lb) (hsa : ∀ s ∈ la, s.length ≤ maxLen) (hsb : ∀ s ∈ lb, s.length ≤ maxLen)
    (hva : i64ok va) (hvb : i64ok vb) (hnx : 0 < nx ∧ nx ≤ 1000000) (hna : va ≠ nx) (hnb : vb ≠ nx) :
    Calls Tryz.prog 18 #[.pointer (some ⟨bu, 0, none⟩), .agg #[lva, .int .i64 va], .agg #[lvb, .int .i64 vb]] w (RowsEnd w bu m (rowsRes la lb va vb nx)) := by
  have hu0 := hu
  obtain ⟨B1, d1, e1, B2, d2, e2, hl, hs⟩ := hu
  have hbu := hl.lt
  obtain ⟨A3, n3, c3, rfl⟩ : ∃ A n c, lva = .slice A n c := by rcases hra.1 with ⟨rfl, _⟩ | ⟨_, _, rfl, _⟩ <;> exact ⟨_, _, _, rfl⟩
  obtain ⟨A4, n4, c4, rfl⟩ : ∃ A n c, lvb = .slice A n c := by rcases hrb.1 with ⟨rfl, _⟩ | ⟨_, _, rfl, _⟩ <;> exact ⟨_, _, _, rfl⟩
  obtain ⟨W, hW⟩ : ∃ W, W = ((w.alloc (.cells #[.pointer (some ⟨bu, 0, none⟩)] 65)).alloc (.cells #[.slice A3 n3 c3, .int .i64 va] 24)).alloc (.cells #[.slice A4 n4 c4, .int .i64 vb] 24) := ⟨_, rfl⟩
  have hb : Below w.heap.size w W := by rw [hW]; exact (((Below.refl _ w).alloc (Nat.le_refl _) _).alloc (by simp) _).alloc (by simp; omega) _
  have kx : Lies W w.heap.size 65 #[.pointer (some ⟨bu, 0, none⟩)] := by rw [hW]; exact ((Lies.new _ _ _).alloc _).alloc _
  have ka : Lies W (w.heap.size + 1) 24 #[.slice A3 n3 c3, .int .i64 va] := by rw [hW]; exact (Lies.new' _ _ _ (by simp)).alloc _
  have kb : Lies W (w.heap.size + 1 + 1) 24 #[.slice A4 n4 c4, .int .i64 vb] := by rw [hW]; exact Lies.new' _ _ _ (by simp)
  have hwz : W.heap.size = w.heap.size + 3 := by rw [hW]; simp
  have hlu := hl.later hb
  have HK := Lib.hid (show ∀ X : World, Below W.heap.size W X → (X.cell? ⟨w.heap.size, 0, none⟩ = some (.pointer (some ⟨bu, 0, none⟩))) ∧ (X.cell? ⟨bu, 0, none⟩ = some (.slice B1 d1 e1) ∧ X.cell? ⟨bu, 1, none⟩ = some (.slice B2 d2 e2)) ∧ (X.cell? ⟨w.heap.size + 1, 0, none⟩ = some (.slice A3 n3 c3) ∧ X.cell? ⟨w.heap.size + 1, 1, none⟩ = some (.int .i64 va)) ∧ X.cell? ⟨w.heap.size + 1 + 1, 0, none⟩ = some (.slice A4 n4 c4) ∧ X.cell? ⟨w.heap.size + 1 + 1, 1, none⟩ = some (.int .i64 vb) from fun X hx => ⟨(kx.later hx).cell 0, ⟨(hlu.later hx).cell 0, (hlu.later hx).cell 1⟩, ⟨(ka.later hx).cell 0, (ka.later hx).cell 1⟩, (kb.later hx).cell 0, (kb.later hx).cell 1⟩)
  have HCA := Lib.hid (show ∀ X : World, Below W.heap.size W X → _ from fun X hx => applyRow_any X _ m T0 R0 (hs.keepL (blank_self (hb.trans (hx.mono hb.size)))) (by omega) _ la va (hra.keep (hb.trans (hx.mono hb.size)).block) hva (by unfold insR; split <;> rfl))
  have HCB := Lib.hid (show ∀ X : World, Below W.heap.size W X → _ from fun X hx => applyRow_any X _ m T0 R0 (hs.keepL (blank_self (hb.trans (hx.mono hb.size)))) (by omega) _ lb vb (hrb.keep (hb.trans (hx.mono hb.size)).block) hvb (by unfold insR; split <;> rfl))
  have HW := Lib.hid hW
  have HB := Lib.hid hb
  have HU := Lib.hid hu0
  have HKX := Lib.hid kx
  have HKA := Lib.hid ka
  have HKB := Lib.hid kb
  have HWZ := Lib.hid hwz
  have HLA := Lib.hid hra.2
  have HLB := Lib.hid hrb.2
  have HSA := Lib.hid hsa
  have HSB := Lib.hid hsb
  have HVA := Lib.hid hva
  have HVB := Lib.hid hvb
  have HNX := Lib.hid hnx
  have HNA := Lib.hid hna
  have HNB := Lib.hid hnb
  clear hW hb hu0 kx ka kb hwz hlu hl hs hra hrb hsa hsb hva hvb hnx hna hnb
  go_enter Tryz.func18, Tryz.ntmps18
  go_wp2_with fail
  rw [← HW.out]
  go_upto_region 1 with fail
  refine TillLast.start (S := fun X => (X.cell? ⟨w.heap.size, 0, none⟩ = some (.pointer (some ⟨bu, 0, none⟩))) ∧ (X.cell? ⟨bu, 0, none⟩ = some (.slice B1 d1 e1) ∧ X.cell? ⟨bu, 1, none⟩ = some (.slice B2 d2 e2)) ∧ (X.cell? ⟨w.heap.size + 1, 0, none⟩ = some (.slice A3 n3 c3) ∧ X.cell? ⟨w.heap.size + 1, 1, none⟩ = some (.int .i64 va)) ∧ X.cell? ⟨w.heap.size + 1 + 1, 0, none⟩ = some (.slice A4 n4 c4) ∧ X.cell? ⟨w.heap.size + 1 + 1, 1, none⟩ = some (.int .i64 vb)) (z := 12) (by kernel_rfl) ?_
  have hHeld : (W.drew.cell? ⟨w.heap.size, 0, none⟩ = some (.pointer (some ⟨bu, 0, none⟩))) ∧ (W.drew.cell? ⟨bu, 0, none⟩ = some (.slice B1 d1 e1) ∧ W.drew.cell? ⟨bu, 1, none⟩ = some (.slice B2 d2 e2)) ∧ (W.drew.cell? ⟨w.heap.size + 1, 0, none⟩ = some (.slice A3 n3 c3) ∧ W.drew.cell? ⟨w.heap.size + 1, 1, none⟩ = some (.int .i64 va)) ∧ W.drew.cell? ⟨w.heap.size + 1 + 1, 0, none⟩ = some (.slice A4 n4 c4) ∧ W.drew.cell? ⟨w.heap.size + 1 + 1, 1, none⟩ = some (.int .i64 vb) := HK.out _ (Below.refl _ _).drew
  refine TillLast.takeT (i := 0) 12 (oi := ⟨some 10, _, _, _, _, _⟩) (v := ?_) rfl (by kernel_rfl) (by kernel_rfl) (by kernel_rfl) (by kernel_rfl) (by kernel_rfl) (by decide) (by kernel_rfl) (fun _ _ _ h => h) (Or.inl ⟨by kernel_rfl, ?_⟩) (by assumption) ?_
  rotate_left
  · (intro w' hSw; (try dsimp only at hSw); go_split_ands; go_simp; first | done | with_reducible rfl)
  try simp only [Act.put, List.setIfInBounds_toArray, List.set_cons_zero, List.set_cons_succ]
  refine TillLast.takeT (i := 1) 12 (oi := ⟨some 11, _, _, _, _, _⟩) (v := ?_) rfl (by kernel_rfl) (by kernel_rfl) (by kernel_rfl) (by kernel_rfl) (by kernel_rfl) (by decide) (by kernel_rfl) (fun _ _ _ h => h) (Or.inl ⟨by kernel_rfl, ?_⟩) (by assumption) ?_
  rotate_left
  · (intro w' hSw; (try dsimp only at hSw); go_split_ands; go_simp; first | done | with_reducible rfl)
  try simp only [Act.put, List.setIfInBounds_toArray, List.set_cons_zero, List.set_cons_succ]
  refine TillLast.takeT (i := 2) 12 (oi := ⟨some 12, _, _, _, _, _⟩) (v := ?_) rfl (by kernel_rfl) (by kernel_rfl) (by kernel_rfl) (by kernel_rfl) (by kernel_rfl) (by decide) (by kernel_rfl) (fun _ _ _ h => h) (Or.inl ⟨by kernel_rfl, ?_⟩) (by assumption) ?_
  rotate_left
  · (intro w' hSw; (try dsimp only at hSw); go_split_ands; go_simp; first | done | with_reducible rfl)
  try simp only [Act.put, List.setIfInBounds_toArray, List.set_cons_zero, List.set_cons_succ]
  refine TillLast.takeT (i := 3) 12 (oi := ⟨some 13, _, _, _, _, _⟩) (v := ?_) rfl (by kernel_rfl) (by kernel_rfl) (by kernel_rfl) (by kernel_rfl) (by kernel_rfl) (by decide) (by kernel_rfl) (fun _ _ _ h => h) (Or.inl ⟨by kernel_rfl, ?_⟩) (by assumption) ?_
  rotate_left
  · (intro w' hSw; (try dsimp only at hSw); go_split_ands; go_simp; first | done | with_reducible rfl)
  try simp only [Act.put, List.setIfInBounds_toArray, List.set_cons_zero, List.set_cons_succ]
  refine TillLast.takeT (i := 4) 12 (oi := ⟨some 14, _, _, _, _, _⟩) (v := ?_) rfl (by kernel_rfl) (by kernel_rfl) (by kernel_rfl) (by kernel_rfl) (by kernel_rfl) (by decide) (by kernel_rfl) (fun _ _ _ h => h) (Or.inl ⟨by kernel_rfl, ?_⟩) (by assumption) ?_
  rotate_left
  · (intro w' hSw; (try dsimp only at hSw); go_split_ands; go_simp; first | done | with_reducible rfl)
  try simp only [Act.put, List.setIfInBounds_toArray, List.set_cons_zero, List.set_cons_succ]
  refine TillLast.takeT (i := 6) 12 (oi := ⟨some 16, _, _, _, _, _⟩) (v := ?_) rfl (by kernel_rfl) (by kernel_rfl) (by kernel_rfl) (by kernel_rfl) (by kernel_rfl) (by decide) (by kernel_rfl) (fun _ _ _ h => h) (Or.inl ⟨by kernel_rfl, ?_⟩) (by assumption) ?_
  rotate_left
  · (intro w' hSw; (try dsimp only at hSw); go_split_ands; go_simp; first | done | with_reducible rfl)
  try simp only [Act.put, List.setIfInBounds_toArray, List.set_cons_zero, List.set_cons_succ]
  refine TillLast.takeT (i := 7) 12 (oi := ⟨some 17, _, _, _, _, _⟩) (v := ?_) rfl (by kernel_rfl) (by kernel_rfl) (by kernel_rfl) (by kernel_rfl) (by kernel_rfl) (by decide) (by kernel_rfl) (fun _ _ _ h => h) (Or.inl ⟨by kernel_rfl, ?_⟩) (by assumption) ?_
  rotate_left
  · (intro w' hSw; (try dsimp only at hSw); go_split_ands; go_simp; first | done | with_reducible rfl)
  try simp only [Act.put, List.setIfInBounds_toArray, List.set_cons_zero, List.set_cons_succ]
  refine TillLast.takeT (i := 8) 12 (oi := ⟨some 18, _, _, _, _, _⟩) (v := ?_) rfl (by kernel_rfl) (by kernel_rfl) (by kernel_rfl) (by kernel_rfl) (by kernel_rfl) (by decide) (by kernel_rfl) (fun _ _ _ h => h) (Or.inl ⟨by kernel_rfl, ?_⟩) (by assumption) ?_
  rotate_left
  · (intro w' hSw; (try dsimp only at hSw); go_split_ands; go_simp; first | done | with_reducible rfl)
  try simp only [Act.put, List.setIfInBounds_toArray, List.set_cons_zero, List.set_cons_succ]
  refine TillLast.takeT (i := 9) 12 (oi := ⟨some 19, _, _, _, _, _⟩) (v := ?_) rfl (by kernel_rfl) (by kernel_rfl) (by kernel_rfl) (by kernel_rfl) (by kernel_rfl) (by decide) (by kernel_rfl) (fun _ _ _ h => h) (Or.inl ⟨by kernel_rfl, ?_⟩) (by assumption) ?_
  rotate_left
  · (intro w' hSw; (try dsimp only at hSw); go_split_ands; go_simp; first | done | with_reducible rfl)
  try simp only [Act.put, List.setIfInBounds_toArray, List.set_cons_zero, List.set_cons_succ]
  refine TillLast.takeT (i := 10) 12 (oi := ⟨some 20, _, _, _, _, _⟩) (v := ?_) rfl (by kernel_rfl) (by kernel_rfl) (by kernel_rfl) (by kernel_rfl) (by kernel_rfl) (by decide) (by kernel_rfl) (fun _ _ _ h => h) (Or.inl ⟨by kernel_rfl, ?_⟩) (by assumption) ?_
  rotate_left
  · (intro w' hSw; (try dsimp only at hSw); go_split_ands; go_simp; first | done | with_reducible rfl)
  try simp only [Act.put, List.setIfInBounds_toArray, List.set_cons_zero, List.set_cons_succ]
  refine TillLast.ready (rs := [5]) (by kernel_rfl) (by simp) ?_
  refine NextAll.cons (o := ⟨some 15, _, _, _, _, _⟩) rfl (fun K hK => ?_) NextAll.nil
  go_simp
  go_at_call 28
  refine (HCA.out _ (Below.refl _ _).drew).mono ?_
  rintro e x4 ⟨v5, rfl, ho5, hba⟩
  obtain ⟨A5, n5, c5, rfl⟩ := own_slice ho5
  have hb4 : Below W.heap.size W x4 := (Below.refl _ _).drew.trans hba
  have HO5 := Lib.hid (own_mono ho5 (Nat.le_refl W.heap.size))
  refine hK.out _ _ (fun _ => HK.out _ hb4) ?_
  clear hK K hHeld ho5 hba
  try simp only [Act.put, List.setIfInBounds_toArray, List.set_cons_zero, List.set_cons_succ]
  refine TillLast.ready (rs := [11]) (by kernel_rfl) (by simp) ?_
  refine NextAll.cons (o := ⟨some 21, _, _, _, _, _⟩) rfl (fun K hK => ?_) NextAll.nil
  go_simp
  go_at_call 28
  refine (HCB.out _ hb4).mono ?_
  rintro e x5 ⟨v6, rfl, ho6, hba⟩
  obtain ⟨A6, n6, c6, rfl⟩ := own_slice ho6
  have hb5 : Below W.heap.size W x5 := hb4.trans (hba.mono hb4.size)
  have HO5 := Lib.hid (own_later HO5.out hba)
  have HO6 := Lib.hid (own_mono ho6 hb4.size)
  have HB5 := Lib.hid hb5
  refine hK.out _ _ (fun _ => HK.out _ hb5) ?_
  clear hK K ho6 hba hb4 hb5
  try simp only [Act.put, List.setIfInBounds_toArray, List.set_cons_zero, List.set_cons_succ]
  refine TillLast.ready (rs := [12]) (by kernel_rfl) (by simp) ?_
  refine NextAll.cons (o := ⟨none, _, _, _, _, _⟩) rfl (fun K hK => ?_) NextAll.nil
  rw [if_pos (by kernel_rfl)]
  refine wp_store_row _ _ _ rfl (w.heap.size + 1) #[.slice A5 n5 c5, .int .i64 va] rfl rfl 24 #[.slice A3 n3 c3, .int .i64 va] (HKA.out.later HB5.out) (by kernel_rfl) rfl (by simp [Value.oneCell']) ?_
  obtain ⟨x6, hx6⟩ : ∃ X, X = x5.setRow (w.heap.size + 1) #[.slice A5 n5 c5, .int .i64 va] := ⟨_, rfl⟩
  rw [← hx6]
  have HX6 := Lib.hid hx6
  clear hx6
  refine hK.out _ _ (fun h => absurd (h.symm.trans (by kernel_rfl : _ = true)) (by decide)) ?_
  clear hK K
  try simp only [Act.put]
  refine TillLast.ready (rs := [13]) (by kernel_rfl) (by simp) ?_
  refine NextAll.cons (o := ⟨none, _, _, _, _, _⟩) rfl (fun K hK => ?_) NextAll.nil
  rw [if_pos (by kernel_rfl)]
  refine wp_store_row _ _ _ rfl (w.heap.size + 1 + 1) #[.slice A6 n6 c6, .int .i64 vb] rfl rfl 24 #[.slice A4 n4 c4, .int .i64 vb] (by rw [HX6.out]; exact (Sb.setRow_far (HKB.out.later HB5.out) _ (by omega))) (by kernel_rfl) rfl (by simp [Value.oneCell']) ?_
  obtain ⟨x7, hx7⟩ : ∃ X, X = x6.setRow (w.heap.size + 1 + 1) #[.slice A6 n6 c6, .int .i64 vb] := ⟨_, rfl⟩
  rw [← hx7]
  have HX7 := Lib.hid hx7
  clear hx7
  refine hK.out _ _ (fun h => absurd (h.symm.trans (by kernel_rfl : _ = true)) (by decide)) ?_
  clear hK K
  try simp only [Act.put]
  refine TillLast.done (by kernel_rfl) ?_ _
  have hf7 : ∀ i, i ≠ w.heap.size + 1 → i ≠ w.heap.size + 1 + 1 → x7.heap[i]? = x5.heap[i]? := fun i h1 h2 => by
    rw [HX7.out, HX6.out]
    exact (Sb.setRow_other _ _ _ _ h2).trans (Sb.setRow_other _ _ _ _ h1)
  have hws := HB.out.size
  have hw5 := HB5.out.size
  have hwz := HWZ.out
  have hz7 : x7.heap.size = x5.heap.size := by rw [HX7.out, HX6.out]; simp [World.setRow]
  have HKX := Lib.hid (show Lies x7 w.heap.size _ _ from (hf7 _ (by omega) (by omega)).trans (HKX.out.later HB5.out))
  have HKA := Lib.hid (show Lies x7 (w.heap.size + 1) 24 #[.slice A5 n5 c5, .int .i64 va] from by rw [HX7.out]; exact Sb.setRow_far (by rw [HX6.out]; exact Sb.setRow_at (HKA.out.later HB5.out) _) _ (by omega))
  have HKB := Lib.hid (show Lies x7 (w.heap.size + 1 + 1) 24 #[.slice A6 n6 c6, .int .i64 vb] from by rw [HX7.out]; exact Sb.setRow_at (by rw [HX6.out]; exact Sb.setRow_far (HKB.out.later HB5.out) _ (by omega)) _)
  have HB7 := Lib.hid (show Below w.heap.size w x7 from by
    have h0 := HB.out.trans (HB5.out.mono HB.out.size)
    exact ⟨by rw [HX7.out, HX6.out]; exact h0.os, by rw [HX7.out, HX6.out]; exact h0.tape, by rw [HX7.out, HX6.out]; exact h0.output, by rw [hz7]; exact h0.size, fun i hi => (hf7 i (by omega) (by omega)).trans (h0.block i hi)⟩)
  have HR5 := Lib.hid (OwnL.str (own_same HO5.out (w' := x7) fun i hi _ => hf7 i (by omega) (by omega)) HLA.out)
  have HR6 := Lib.hid (OwnL.str (own_same HO6.out (w' := x7) fun i hi _ => hf7 i (by omega) (by omega)) HLB.out)
  have HU := Lib.hid (HU.out.later HB7.out)
  have HZ7 := Lib.hid (show w.heap.size + 3 ≤ x7.heap.size by omega)
  clear hf7 hws hw5 hwz hz7 HX6 HX7 HO5 HO6 HB5
  go_upto_region 2 with fail
  go_cut [7, 8] from 22 to 31 (fun p q wx => ∃ (g7 g8 : Nat) (A7 : Option Addr) (n7 c7 : Nat) (A8 : Option Addr) (n8 c8 : Nat), p = .pointer (some ⟨g7, 0, none⟩) ∧ q = .pointer (some ⟨g8, 0, none⟩) ∧ g7 ≠ g8 ∧ x7.heap.size ≤ g7 ∧ x7.heap.size ≤ g8 ∧
    Lies wx g7 22 #[.slice A7 n7 c7] ∧ Lies wx g8 22 #[.slice A8 n8 c8] ∧ StrR (blank (fun b => b = bu) wx) (.slice A7 n7 c7) (moreL la lb) ∧ StrR (blank (fun b => b = bu) wx) (.slice A8 n8 c8) (moreL lb la) ∧ Below x7.heap.size x7 wx)
  case first =>
    have HKS := Lib.hid (show ∀ X : World, Below x7.heap.size x7 X → (X.cell? ⟨w.heap.size + 1, 0, none⟩ = some (.slice A5 n5 c5)) ∧ X.cell? ⟨w.heap.size + 1 + 1, 0, none⟩ = some (.slice A6 n6 c6) from fun X hx => ⟨(HKA.out.later hx).cell 0, (HKB.out.later hx).cell 0⟩)
    have HM1 := Lib.hid (show ∀ X : World, Below x7.heap.size x7 X → _ from fun X hx => more_any X _ _ la lb (HR5.out.keep hx.block) (HR6.out.keep hx.block) HSA.out HSB.out)
    have HM2 := Lib.hid (show ∀ X : World, Below x7.heap.size x7 X → _ from fun X hx => more_any X _ _ lb la (HR6.out.keep hx.block) (HR5.out.keep hx.block) HSB.out HSA.out)
    refine wp_region_held_drew (S := fun X => (X.cell? ⟨w.heap.size + 1, 0, none⟩ = some (.slice A5 n5 c5)) ∧ X.cell? ⟨w.heap.size + 1 + 1, 0, none⟩ = some (.slice A6 n6 c6)) (by kernel_rfl) ?_ (fun hHeld => ?_)
    · exact HKS.out _ (Below.refl x7.heap.size x7).drew
    refine wpAnyH_take (i := 0) (oi := ⟨some 22, _, _, _, _, _⟩) (v := ?_) rfl (by kernel_rfl) (by kernel_rfl) (by kernel_rfl) (fun _ _ _ h => h) (Or.inl ⟨by kernel_rfl, ?_⟩) (by assumption) ?_
    rotate_left
    · (intro w' hSw; (try dsimp only at hSw); go_split_ands; go_simp; first | done | with_reducible rfl)
    try simp only [Act.put, List.setIfInBounds_toArray, List.set_cons_zero, List.set_cons_succ]
    refine wpAnyH_take (i := 1) (oi := ⟨some 23, _, _, _, _, _⟩) (v := ?_) rfl (by kernel_rfl) (by kernel_rfl) (by kernel_rfl) (fun _ _ _ h => h) (Or.inl ⟨by kernel_rfl, ?_⟩) (by assumption) ?_
    rotate_left
    · (intro w' hSw; (try dsimp only at hSw); go_split_ands; go_simp; first | done | with_reducible rfl)
    try simp only [Act.put, List.setIfInBounds_toArray, List.set_cons_zero, List.set_cons_succ]
    refine wpAnyH_take (i := 2) (oi := ⟨some 24, _, _, _, _, _⟩) (v := ?_) rfl (by kernel_rfl) (by kernel_rfl) (by kernel_rfl) (fun _ _ _ h => h) (Or.inl ⟨by kernel_rfl, ?_⟩) (by assumption) ?_
    rotate_left
    · (intro w' hSw; (try dsimp only at hSw); go_split_ands; go_simp; first | done | with_reducible rfl)
    try simp only [Act.put, List.setIfInBounds_toArray, List.set_cons_zero, List.set_cons_succ]
    refine wpAnyH_take (i := 3) (oi := ⟨some 25, _, _, _, _, _⟩) (v := ?_) rfl (by kernel_rfl) (by kernel_rfl) (by kernel_rfl) (fun _ _ _ h => h) (Or.inl ⟨by kernel_rfl, ?_⟩) (by assumption) ?_
    rotate_left
    · (intro w' hSw; (try dsimp only at hSw); go_split_ands; go_simp; first | done | with_reducible rfl)
    try simp only [Act.put, List.setIfInBounds_toArray, List.set_cons_zero, List.set_cons_succ]
    refine wpAnyH_take (i := 5) (oi := ⟨some 27, _, _, _, _, _⟩) (v := ?_) rfl (by kernel_rfl) (by kernel_rfl) (by kernel_rfl) (fun _ _ _ h => h) (Or.inl ⟨by kernel_rfl, ?_⟩) (by assumption) ?_
    rotate_left
    · (intro w' hSw; (try dsimp only at hSw); go_split_ands; go_simp; first | done | with_reducible rfl)
    try simp only [Act.put, List.setIfInBounds_toArray, List.set_cons_zero, List.set_cons_succ]
    refine wpAnyH_take (i := 6) (oi := ⟨some 28, _, _, _, _, _⟩) (v := ?_) rfl (by kernel_rfl) (by kernel_rfl) (by kernel_rfl) (fun _ _ _ h => h) (Or.inl ⟨by kernel_rfl, ?_⟩) (by assumption) ?_
    rotate_left
    · (intro w' hSw; (try dsimp only at hSw); go_split_ands; go_simp; first | done | with_reducible rfl)
    try simp only [Act.put, List.setIfInBounds_toArray, List.set_cons_zero, List.set_cons_succ]
    refine wpAnyH_take (i := 7) (oi := ⟨some 29, _, _, _, _, _⟩) (v := ?_) rfl (by kernel_rfl) (by kernel_rfl) (by kernel_rfl) (fun _ _ _ h => h) (Or.inl ⟨by kernel_rfl, ?_⟩) (by assumption) ?_
    rotate_left
    · (intro w' hSw; (try dsimp only at hSw); go_split_ands; go_simp; first | done | with_reducible rfl)
    try simp only [Act.put, List.setIfInBounds_toArray, List.set_cons_zero, List.set_cons_succ]
    refine wpAnyH_take (i := 8) (oi := ⟨some 30, _, _, _, _, _⟩) (v := ?_) rfl (by kernel_rfl) (by kernel_rfl) (by kernel_rfl) (fun _ _ _ h => h) (Or.inl ⟨by kernel_rfl, ?_⟩) (by assumption) ?_
    rotate_left
    · (intro w' hSw; (try dsimp only at hSw); go_split_ands; go_simp; first | done | with_reducible rfl)
    try simp only [Act.put, List.setIfInBounds_toArray, List.set_cons_zero, List.set_cons_succ]
    refine wpAnyH_ready (rs := [4, 10, 11]) (by kernel_rfl) (by simp) ?_
    refine AllReadyH.cons (o := ⟨some 26, _, _, _, _, _⟩) rfl (fun K hK => ?_) (AllReadyH.cons (o := ⟨some 7, _, _, _, _, _⟩) rfl (fun K hK => ?_) (AllReadyH.cons (o := ⟨some 8, _, _, _, _, _⟩) rfl (fun K hK => ?_) (AllReadyH.nil)))
    · go_simp
      go_at_call 29
      refine (HM1.out _ (((Below.refl x7.heap.size x7)).drew)).mono ?_
      rintro e x8 ⟨v7, rfl, ho, hba⟩
      obtain ⟨A7, n7, c7, rfl⟩ := own_slice ho
      have hbx8 : Below x7.heap.size x7 x8 := (((Below.refl x7.heap.size x7)).drew).trans (hba.mono (((Below.refl x7.heap.size x7)).drew).size)
      have HS8 := Lib.hid (show x7.heap.size + 0 ≤ x8.heap.size from by first | exact hba.size | (have := hba.size; simp at this; omega))
      have HO7 := Lib.hid (own_mono ho (show x7.heap.size + 0 ≤ _ from by first | exact Nat.le_refl _ | simp))
      clear ho hba
      refine hK.out _ _ ?_ (fun hHeld => ?_)
      · exact HKS.out _ hbx8
      clear hK K
      try simp only [Act.put, List.setIfInBounds_toArray, List.set_cons_zero, List.set_cons_succ]
      refine wpAnyH_ready (rs := [9, 10, 11]) (by kernel_rfl) (by simp) ?_
      refine AllReadyH.cons (o := ⟨some 31, _, _, _, _, _⟩) rfl (fun K hK => ?_) (AllReadyH.cons (o := ⟨some 7, _, _, _, _, _⟩) rfl (fun K hK => ?_) (AllReadyH.cons (o := ⟨some 8, _, _, _, _, _⟩) rfl (fun K hK => ?_) (AllReadyH.nil)))
      · go_simp
        go_at_call 29
        refine (HM2.out _ (hbx8)).mono ?_
        rintro e x9 ⟨v8, rfl, ho, hba⟩
        obtain ⟨A8, n8, c8, rfl⟩ := own_slice ho
        have hbx9 : Below x7.heap.size x7 x9 := (hbx8).trans (hba.mono (hbx8).size)
        have HS9 := Lib.hid (show x8.heap.size + 0 ≤ x9.heap.size from by first | exact hba.size | (have := hba.size; simp at this; omega))
        have HO8 := Lib.hid (own_mono ho (show x8.heap.size + 0 ≤ _ from by first | exact Nat.le_refl _ | simp))
        have HB89 := Lib.hid (show ∀ i, i < x8.heap.size → x9.heap[i]? = x8.heap[i]? from fun i hlt => (hba.block i (by first | exact hlt | (simp; omega))).trans (((Below.refl x8.heap.size x8)).block i hlt))
        clear ho hba
        refine hK.out _ _ ?_ (fun hHeld => ?_)
        · exact HKS.out _ hbx9
        clear hK K
        try simp only [Act.put, List.setIfInBounds_toArray, List.set_cons_zero, List.set_cons_succ]
        refine wpAnyH_ready (rs := [10, 11]) (by kernel_rfl) (by simp) ?_
        refine AllReadyH.cons (o := ⟨some 7, _, _, _, _, _⟩) rfl (fun K hK => ?_) (AllReadyH.cons (o := ⟨some 8, _, _, _, _, _⟩) rfl (fun K hK => ?_) (AllReadyH.nil))
        · go_simp
          refine hK.out _ _ ?_ (fun hHeld => ?_)
          · exact HKS.out _ (((hbx9).alloc (hbx9).size _))
          clear hK K
          try simp only [Act.put, List.setIfInBounds_toArray, List.set_cons_zero, List.set_cons_succ]
          refine wpAnyH_ready (rs := [11]) (by kernel_rfl) (by simp) ?_
          refine AllReadyH.cons (o := ⟨some 8, _, _, _, _, _⟩) rfl (fun K hK => ?_) (AllReadyH.nil)
          go_simp
          refine hK.out _ _ ?_ (fun hHeld => ?_)
          · exact HKS.out _ (((((hbx9).alloc (hbx9).size _)).alloc (((hbx9).alloc (hbx9).size _)).size _))
          clear hK K
          try simp only [Act.put, List.setIfInBounds_toArray, List.set_cons_zero, List.set_cons_succ]
          refine wpAnyH_ready (rs := [12]) (by kernel_rfl) (by simp) ?_
          refine AllReadyH.cons (o := ⟨none, _, _, _, _, _⟩) rfl (fun K hK => ?_) (AllReadyH.nil)
          rw [if_pos (by kernel_rfl)]
          refine wp_store_strs _ _ rfl (x9.heap.size) A7 n7 c7 rfl rfl 22 (.slice none 0 0) (show Lies (((x9.alloc (.cells #[.slice none 0 0] 22)).alloc (.cells #[.slice none 0 0] 22))) (x9.heap.size) 22 #[.slice none 0 0] from (Lies.new' _ 22 #[.slice none 0 0] (by simp)).alloc _) ?_
          obtain ⟨z1, hz1⟩ : ∃ X, X = (((x9.alloc (.cells #[.slice none 0 0] 22)).alloc (.cells #[.slice none 0 0] 22))).setCell ⟨x9.heap.size, 0, none⟩ (.slice A7 n7 c7) := ⟨_, rfl⟩
          rw [← hz1]
          have HZ1 := Lib.hid hz1
          clear hz1
          refine hK.out _ _ ?_ (fun hHeld => ?_)
          · exact HKS.out _ (by rw [HZ1.out]; exact (((((hbx9).alloc (hbx9).size _)).alloc (((hbx9).alloc (hbx9).size _)).size _)).setCell (p := ⟨x9.heap.size, 0, none⟩) ((by have h8 := HS8.out; have h9 := HS9.out; (try dsimp only); omega)) _)
          clear hK K
          try simp only [Act.put]
          refine wpAnyH_ready (rs := [13]) (by kernel_rfl) (by simp) ?_
          refine AllReadyH.cons (o := ⟨none, _, _, _, _, _⟩) rfl (fun K hK => ?_) (AllReadyH.nil)
          rw [if_pos (by kernel_rfl)]
          refine wp_store_strs _ _ rfl (x9.heap.size + 1) A8 n8 c8 rfl rfl 22 (.slice none 0 0) (by rw [HZ1.out]; exact ((show Lies (((x9.alloc (.cells #[.slice none 0 0] 22)).alloc (.cells #[.slice none 0 0] 22))) (x9.heap.size + 1) 22 #[.slice none 0 0] from Lies.new' _ 22 #[.slice none 0 0] (by simp))).far (p := ⟨x9.heap.size, 0, none⟩) ((by have h8 := HS8.out; have h9 := HS9.out; (try dsimp only); omega)) _) ?_
          obtain ⟨z2, hz2⟩ : ∃ X, X = z1.setCell ⟨x9.heap.size + 1, 0, none⟩ (.slice A8 n8 c8) := ⟨_, rfl⟩
          rw [← hz2]
          have HZ2 := Lib.hid hz2
          clear hz2
          refine hK.out _ _ ?_ (fun hHeld => ?_)
          · exact HKS.out _ (by rw [HZ2.out, HZ1.out]; exact ((((((hbx9).alloc (hbx9).size _)).alloc (((hbx9).alloc (hbx9).size _)).size _)).setCell (p := ⟨x9.heap.size, 0, none⟩) ((by have h8 := HS8.out; have h9 := HS9.out; (try dsimp only); omega)) _).setCell (p := ⟨x9.heap.size + 1, 0, none⟩) ((by have h8 := HS8.out; have h9 := HS9.out; (try dsimp only); omega)) _)
          clear hK K
          try simp only [Act.put]
          refine wpAnyH_done (by kernel_rfl) ?_ _
          go_wp2_with fail
          go_meet
          have h8s := HS8.out
          have h9s := HS9.out
          have h7w := HZ7.out
          have hfz : ∀ i, i ≠ (x9.heap.size) → i ≠ (x9.heap.size + 1) → z2.heap[i]? = (((x9.alloc (.cells #[.slice none 0 0] 22)).alloc (.cells #[.slice none 0 0] 22))).heap[i]? := fun i h1 h2 => by
            rw [HZ2.out, HZ1.out]
            exact (Below.heap_setCell _ ⟨x9.heap.size + 1, 0, none⟩ _ i h2).trans (Below.heap_setCell _ ⟨x9.heap.size, 0, none⟩ _ i h1)
          have hold : ∀ i, i < x9.heap.size → (((x9.alloc (.cells #[.slice none 0 0] 22)).alloc (.cells #[.slice none 0 0] 22))).heap[i]? = x9.heap[i]? := fun i hi => ((((((Below.refl x9.heap.size x9)).alloc ((Below.refl x9.heap.size x9)).size _)).alloc ((((Below.refl x9.heap.size x9)).alloc ((Below.refl x9.heap.size x9)).size _)).size _)).block i hi
          refine ⟨x9.heap.size, x9.heap.size + 1, A7, n7, c7, A8, n8, c8, rfl, rfl, ((by have h8 := HS8.out; have h9 := HS9.out; (try dsimp only); omega)), (by have h8 := HS8.out; have h9 := HS9.out; (try dsimp only); omega), (by have h8 := HS8.out; have h9 := HS9.out; (try dsimp only); omega), ?_, ?_, ?_, ?_, ?_⟩
          · rw [HZ2.out, HZ1.out]
            exact (((show Lies (((x9.alloc (.cells #[.slice none 0 0] 22)).alloc (.cells #[.slice none 0 0] 22))) (x9.heap.size) 22 #[.slice none 0 0] from (Lies.new' _ 22 #[.slice none 0 0] (by simp)).alloc _)).set 0 _).far (p := ⟨x9.heap.size + 1, 0, none⟩) (((by have h8 := HS8.out; have h9 := HS9.out; (try dsimp only); omega))) _
          · rw [HZ2.out, HZ1.out]
            exact (((show Lies (((x9.alloc (.cells #[.slice none 0 0] 22)).alloc (.cells #[.slice none 0 0] 22))) (x9.heap.size + 1) 22 #[.slice none 0 0] from Lies.new' _ 22 #[.slice none 0 0] (by simp))).far (p := ⟨x9.heap.size, 0, none⟩) (Ne.symm ((by have h8 := HS8.out; have h9 := HS9.out; (try dsimp only); omega))) _).set 0 _
          · exact OwnL.str (own_same HO7.out fun i hi hlt => (blank_at (X := fun b => b = bu) (show ¬ i = bu from by omega)).trans (((hfz i (by omega) (by omega)).trans (hold i (by omega))).trans (HB89.out i hlt))) (by have := moreL_len la lb; have := HLA.out; omega)
          · exact OwnL.str (own_same HO8.out fun i hi hlt => (blank_at (X := fun b => b = bu) (show ¬ i = bu from by omega)).trans ((hfz i (by omega) (by omega)).trans (hold i hlt))) (by have := moreL_len lb la; have := HLB.out; omega)
          · rw [HZ2.out, HZ1.out]
            exact ((((((hbx9).alloc (hbx9).size _)).alloc (((hbx9).alloc (hbx9).size _)).size _)).setCell (p := ⟨x9.heap.size, 0, none⟩) ((by have h8 := HS8.out; have h9 := HS9.out; (try dsimp only); omega)) _).setCell (p := ⟨x9.heap.size + 1, 0, none⟩) ((by have h8 := HS8.out; have h9 := HS9.out; (try dsimp only); omega)) _
        · go_simp
          refine hK.out _ _ ?_ (fun hHeld => ?_)
          · exact HKS.out _ (((hbx9).alloc (hbx9).size _))
          clear hK K
          try simp only [Act.put, List.setIfInBounds_toArray, List.set_cons_zero, List.set_cons_succ]
          refine wpAnyH_ready (rs := [10]) (by kernel_rfl) (by simp) ?_
          refine AllReadyH.cons (o := ⟨some 7, _, _, _, _, _⟩) rfl (fun K hK => ?_) (AllReadyH.nil)
          go_simp
          refine hK.out _ _ ?_ (fun hHeld => ?_)
          · exact HKS.out _ (((((hbx9).alloc (hbx9).size _)).alloc (((hbx9).alloc (hbx9).size _)).size _))
          clear hK K
          try simp only [Act.put, List.setIfInBounds_toArray, List.set_cons_zero, List.set_cons_succ]
          refine wpAnyH_ready (rs := [12]) (by kernel_rfl) (by simp) ?_
          refine AllReadyH.cons (o := ⟨none, _, _, _, _, _⟩) rfl (fun K hK => ?_) (AllReadyH.nil)
          rw [if_pos (by kernel_rfl)]
          refine wp_store_strs _ _ rfl (x9.heap.size + 1) A7 n7 c7 rfl rfl 22 (.slice none 0 0) (show Lies (((x9.alloc (.cells #[.slice none 0 0] 22)).alloc (.cells #[.slice none 0 0] 22))) (x9.heap.size + 1) 22 #[.slice none 0 0] from Lies.new' _ 22 #[.slice none 0 0] (by simp)) ?_
          obtain ⟨z1, hz1⟩ : ∃ X, X = (((x9.alloc (.cells #[.slice none 0 0] 22)).alloc (.cells #[.slice none 0 0] 22))).setCell ⟨x9.heap.size + 1, 0, none⟩ (.slice A7 n7 c7) := ⟨_, rfl⟩
          rw [← hz1]
          have HZ1 := Lib.hid hz1
          clear hz1
          refine hK.out _ _ ?_ (fun hHeld => ?_)
          · exact HKS.out _ (by rw [HZ1.out]; exact (((((hbx9).alloc (hbx9).size _)).alloc (((hbx9).alloc (hbx9).size _)).size _)).setCell (p := ⟨x9.heap.size + 1, 0, none⟩) ((by have h8 := HS8.out; have h9 := HS9.out; (try dsimp only); omega)) _)
          clear hK K
          try simp only [Act.put]
          refine wpAnyH_ready (rs := [13]) (by kernel_rfl) (by simp) ?_
          refine AllReadyH.cons (o := ⟨none, _, _, _, _, _⟩) rfl (fun K hK => ?_) (AllReadyH.nil)
          rw [if_pos (by kernel_rfl)]
          refine wp_store_strs _ _ rfl (x9.heap.size) A8 n8 c8 rfl rfl 22 (.slice none 0 0) (by rw [HZ1.out]; exact ((show Lies (((x9.alloc (.cells #[.slice none 0 0] 22)).alloc (.cells #[.slice none 0 0] 22))) (x9.heap.size) 22 #[.slice none 0 0] from (Lies.new' _ 22 #[.slice none 0 0] (by simp)).alloc _)).far (p := ⟨x9.heap.size + 1, 0, none⟩) ((by have h8 := HS8.out; have h9 := HS9.out; (try dsimp only); omega)) _) ?_
          obtain ⟨z2, hz2⟩ : ∃ X, X = z1.setCell ⟨x9.heap.size, 0, none⟩ (.slice A8 n8 c8) := ⟨_, rfl⟩
          rw [← hz2]
          have HZ2 := Lib.hid hz2
          clear hz2
          refine hK.out _ _ ?_ (fun hHeld => ?_)
          · exact HKS.out _ (by rw [HZ2.out, HZ1.out]; exact ((((((hbx9).alloc (hbx9).size _)).alloc (((hbx9).alloc (hbx9).size _)).size _)).setCell (p := ⟨x9.heap.size + 1, 0, none⟩) ((by have h8 := HS8.out; have h9 := HS9.out; (try dsimp only); omega)) _).setCell (p := ⟨x9.heap.size, 0, none⟩) ((by have h8 := HS8.out; have h9 := HS9.out; (try dsimp only); omega)) _)
          clear hK K
          try simp only [Act.put]
          refine wpAnyH_done (by kernel_rfl) ?_ _
          go_wp2_with fail
          go_meet
          have h8s := HS8.out
          have h9s := HS9.out
          have h7w := HZ7.out
          have hfz : ∀ i, i ≠ (x9.heap.size + 1) → i ≠ (x9.heap.size) → z2.heap[i]? = (((x9.alloc (.cells #[.slice none 0 0] 22)).alloc (.cells #[.slice none 0 0] 22))).heap[i]? := fun i h1 h2 => by
            rw [HZ2.out, HZ1.out]
            exact (Below.heap_setCell _ ⟨x9.heap.size, 0, none⟩ _ i h2).trans (Below.heap_setCell _ ⟨x9.heap.size + 1, 0, none⟩ _ i h1)
          have hold : ∀ i, i < x9.heap.size → (((x9.alloc (.cells #[.slice none 0 0] 22)).alloc (.cells #[.slice none 0 0] 22))).heap[i]? = x9.heap[i]? := fun i hi => ((((((Below.refl x9.heap.size x9)).alloc ((Below.refl x9.heap.size x9)).size _)).alloc ((((Below.refl x9.heap.size x9)).alloc ((Below.refl x9.heap.size x9)).size _)).size _)).block i hi
          refine ⟨x9.heap.size + 1, x9.heap.size, A7, n7, c7, A8, n8, c8, rfl, rfl, ((by have h8 := HS8.out; have h9 := HS9.out; (try dsimp only); omega)), (by have h8 := HS8.out; have h9 := HS9.out; (try dsimp only); omega), (by have h8 := HS8.out; have h9 := HS9.out; (try dsimp only); omega), ?_, ?_, ?_, ?_, ?_⟩
          · rw [HZ2.out, HZ1.out]
            exact (((show Lies (((x9.alloc (.cells #[.slice none 0 0] 22)).alloc (.cells #[.slice none 0 0] 22))) (x9.heap.size + 1) 22 #[.slice none 0 0] from Lies.new' _ 22 #[.slice none 0 0] (by simp))).set 0 _).far (p := ⟨x9.heap.size, 0, none⟩) (((by have h8 := HS8.out; have h9 := HS9.out; (try dsimp only); omega))) _
          · rw [HZ2.out, HZ1.out]
            exact (((show Lies (((x9.alloc (.cells #[.slice none 0 0] 22)).alloc (.cells #[.slice none 0 0] 22))) (x9.heap.size) 22 #[.slice none 0 0] from (Lies.new' _ 22 #[.slice none 0 0] (by simp)).alloc _)).far (p := ⟨x9.heap.size + 1, 0, none⟩) (Ne.symm ((by have h8 := HS8.out; have h9 := HS9.out; (try dsimp only); omega))) _).set 0 _
          · exact OwnL.str (own_same HO7.out fun i hi hlt => (blank_at (X := fun b => b = bu) (show ¬ i = bu from by omega)).trans (((hfz i (by omega) (by omega)).trans (hold i (by omega))).trans (HB89.out i hlt))) (by have := moreL_len la lb; have := HLA.out; omega)
          · exact OwnL.str (own_same HO8.out fun i hi hlt => (blank_at (X := fun b => b = bu) (show ¬ i = bu from by omega)).trans ((hfz i (by omega) (by omega)).trans (hold i hlt))) (by have := moreL_len lb la; have := HLB.out; omega)
          · rw [HZ2.out, HZ1.out]
            exact ((((((hbx9).alloc (hbx9).size _)).alloc (((hbx9).alloc (hbx9).size _)).size _)).setCell (p := ⟨x9.heap.size + 1, 0, none⟩) ((by have h8 := HS8.out; have h9 := HS9.out; (try dsimp only); omega)) _).setCell (p := ⟨x9.heap.size, 0, none⟩) ((by have h8 := HS8.out; have h9 := HS9.out; (try dsimp only); omega)) _
      · go_simp
        refine hK.out _ _ ?_ (fun hHeld => ?_)
        · exact HKS.out _ (((hbx8).alloc (hbx8).size _))
        clear hK K
        try simp only [Act.put, List.setIfInBounds_toArray, List.set_cons_zero, List.set_cons_succ]
        refine wpAnyH_ready (rs := [9, 11]) (by kernel_rfl) (by simp) ?_
        refine AllReadyH.cons (o := ⟨some 31, _, _, _, _, _⟩) rfl (fun K hK => ?_) (AllReadyH.cons (o := ⟨some 8, _, _, _, _, _⟩) rfl (fun K hK => ?_) (AllReadyH.nil))
        · go_simp
          go_at_call 29
          refine (HM2.out _ (((hbx8).alloc (hbx8).size _))).mono ?_
          rintro e x9 ⟨v8, rfl, ho, hba⟩
          obtain ⟨A8, n8, c8, rfl⟩ := own_slice ho
          have hbx9 : Below x7.heap.size x7 x9 := (((hbx8).alloc (hbx8).size _)).trans (hba.mono (((hbx8).alloc (hbx8).size _)).size)
          have HS9 := Lib.hid (show x8.heap.size + 1 ≤ x9.heap.size from by first | exact hba.size | (have := hba.size; simp at this; omega))
          have HO8 := Lib.hid (own_mono ho (show x8.heap.size + 1 ≤ _ from by first | exact Nat.le_refl _ | simp))
          have HB89 := Lib.hid (show ∀ i, i < x8.heap.size → x9.heap[i]? = x8.heap[i]? from fun i hlt => (hba.block i (by first | exact hlt | (simp; omega))).trans (((((Below.refl x8.heap.size x8)).alloc ((Below.refl x8.heap.size x8)).size _)).block i hlt))
          have HQ7b := Lib.hid (((show Lies ((x8.alloc (.cells #[.slice none 0 0] 22))) (x8.heap.size) 22 #[.slice none 0 0] from Lies.new' _ 22 #[.slice none 0 0] (by simp))).later hba)
          clear ho hba
          refine hK.out _ _ ?_ (fun hHeld => ?_)
          · exact HKS.out _ hbx9
          clear hK K
          try simp only [Act.put, List.setIfInBounds_toArray, List.set_cons_zero, List.set_cons_succ]
          refine wpAnyH_ready (rs := [11]) (by kernel_rfl) (by simp) ?_
          refine AllReadyH.cons (o := ⟨some 8, _, _, _, _, _⟩) rfl (fun K hK => ?_) (AllReadyH.nil)
          go_simp
          refine hK.out _ _ ?_ (fun hHeld => ?_)
          · exact HKS.out _ (((hbx9).alloc (hbx9).size _))
          clear hK K
          try simp only [Act.put, List.setIfInBounds_toArray, List.set_cons_zero, List.set_cons_succ]
          refine wpAnyH_ready (rs := [12]) (by kernel_rfl) (by simp) ?_
          refine AllReadyH.cons (o := ⟨none, _, _, _, _, _⟩) rfl (fun K hK => ?_) (AllReadyH.nil)
          rw [if_pos (by kernel_rfl)]
          refine wp_store_strs _ _ rfl (x8.heap.size) A7 n7 c7 rfl rfl 22 (.slice none 0 0) (show Lies ((x9.alloc (.cells #[.slice none 0 0] 22))) (x8.heap.size) 22 #[.slice none 0 0] from (HQ7b.out).alloc _) ?_
          obtain ⟨z1, hz1⟩ : ∃ X, X = ((x9.alloc (.cells #[.slice none 0 0] 22))).setCell ⟨x8.heap.size, 0, none⟩ (.slice A7 n7 c7) := ⟨_, rfl⟩
          rw [← hz1]
          have HZ1 := Lib.hid hz1
          clear hz1
          refine hK.out _ _ ?_ (fun hHeld => ?_)
          · exact HKS.out _ (by rw [HZ1.out]; exact (((hbx9).alloc (hbx9).size _)).setCell (p := ⟨x8.heap.size, 0, none⟩) ((by have h8 := HS8.out; have h9 := HS9.out; (try dsimp only); omega)) _)
          clear hK K
          try simp only [Act.put]
          refine wpAnyH_ready (rs := [13]) (by kernel_rfl) (by simp) ?_
          refine AllReadyH.cons (o := ⟨none, _, _, _, _, _⟩) rfl (fun K hK => ?_) (AllReadyH.nil)
          rw [if_pos (by kernel_rfl)]
          refine wp_store_strs _ _ rfl (x9.heap.size) A8 n8 c8 rfl rfl 22 (.slice none 0 0) (by rw [HZ1.out]; exact ((show Lies ((x9.alloc (.cells #[.slice none 0 0] 22))) (x9.heap.size) 22 #[.slice none 0 0] from Lies.new' _ 22 #[.slice none 0 0] (by simp))).far (p := ⟨x8.heap.size, 0, none⟩) ((by have h8 := HS8.out; have h9 := HS9.out; (try dsimp only); omega)) _) ?_
          obtain ⟨z2, hz2⟩ : ∃ X, X = z1.setCell ⟨x9.heap.size, 0, none⟩ (.slice A8 n8 c8) := ⟨_, rfl⟩
          rw [← hz2]
          have HZ2 := Lib.hid hz2
          clear hz2
          refine hK.out _ _ ?_ (fun hHeld => ?_)
          · exact HKS.out _ (by rw [HZ2.out, HZ1.out]; exact ((((hbx9).alloc (hbx9).size _)).setCell (p := ⟨x8.heap.size, 0, none⟩) ((by have h8 := HS8.out; have h9 := HS9.out; (try dsimp only); omega)) _).setCell (p := ⟨x9.heap.size, 0, none⟩) ((by have h8 := HS8.out; have h9 := HS9.out; (try dsimp only); omega)) _)
          clear hK K
          try simp only [Act.put]
          refine wpAnyH_done (by kernel_rfl) ?_ _
          go_wp2_with fail
          go_meet
          have h8s := HS8.out
          have h9s := HS9.out
          have h7w := HZ7.out
          have hfz : ∀ i, i ≠ (x8.heap.size) → i ≠ (x9.heap.size) → z2.heap[i]? = ((x9.alloc (.cells #[.slice none 0 0] 22))).heap[i]? := fun i h1 h2 => by
            rw [HZ2.out, HZ1.out]
            exact (Below.heap_setCell _ ⟨x9.heap.size, 0, none⟩ _ i h2).trans (Below.heap_setCell _ ⟨x8.heap.size, 0, none⟩ _ i h1)
          have hold : ∀ i, i < x9.heap.size → ((x9.alloc (.cells #[.slice none 0 0] 22))).heap[i]? = x9.heap[i]? := fun i hi => ((((Below.refl x9.heap.size x9)).alloc ((Below.refl x9.heap.size x9)).size _)).block i hi
          refine ⟨x8.heap.size, x9.heap.size, A7, n7, c7, A8, n8, c8, rfl, rfl, ((by have h8 := HS8.out; have h9 := HS9.out; (try dsimp only); omega)), (by have h8 := HS8.out; have h9 := HS9.out; (try dsimp only); omega), (by have h8 := HS8.out; have h9 := HS9.out; (try dsimp only); omega), ?_, ?_, ?_, ?_, ?_⟩
          · rw [HZ2.out, HZ1.out]
            exact (((show Lies ((x9.alloc (.cells #[.slice none 0 0] 22))) (x8.heap.size) 22 #[.slice none 0 0] from (HQ7b.out).alloc _)).set 0 _).far (p := ⟨x9.heap.size, 0, none⟩) (((by have h8 := HS8.out; have h9 := HS9.out; (try dsimp only); omega))) _
          · rw [HZ2.out, HZ1.out]
            exact (((show Lies ((x9.alloc (.cells #[.slice none 0 0] 22))) (x9.heap.size) 22 #[.slice none 0 0] from Lies.new' _ 22 #[.slice none 0 0] (by simp))).far (p := ⟨x8.heap.size, 0, none⟩) (Ne.symm ((by have h8 := HS8.out; have h9 := HS9.out; (try dsimp only); omega))) _).set 0 _
          · exact OwnL.str (own_same HO7.out fun i hi hlt => (blank_at (X := fun b => b = bu) (show ¬ i = bu from by omega)).trans (((hfz i (by omega) (by omega)).trans (hold i (by omega))).trans (HB89.out i hlt))) (by have := moreL_len la lb; have := HLA.out; omega)
          · exact OwnL.str (own_same HO8.out fun i hi hlt => (blank_at (X := fun b => b = bu) (show ¬ i = bu from by omega)).trans ((hfz i (by omega) (by omega)).trans (hold i hlt))) (by have := moreL_len lb la; have := HLB.out; omega)
          · rw [HZ2.out, HZ1.out]
            exact ((((hbx9).alloc (hbx9).size _)).setCell (p := ⟨x8.heap.size, 0, none⟩) ((by have h8 := HS8.out; have h9 := HS9.out; (try dsimp only); omega)) _).setCell (p := ⟨x9.heap.size, 0, none⟩) ((by have h8 := HS8.out; have h9 := HS9.out; (try dsimp only); omega)) _
        · go_simp
          refine hK.out _ _ ?_ (fun hHeld => ?_)
          · exact HKS.out _ (((((hbx8).alloc (hbx8).size _)).alloc (((hbx8).alloc (hbx8).size _)).size _))
          clear hK K
          try simp only [Act.put, List.setIfInBounds_toArray, List.set_cons_zero, List.set_cons_succ]
          refine wpAnyH_ready (rs := [9]) (by kernel_rfl) (by simp) ?_
          refine AllReadyH.cons (o := ⟨some 31, _, _, _, _, _⟩) rfl (fun K hK => ?_) (AllReadyH.nil)
          go_simp
          go_at_call 29
          refine (HM2.out _ (((((hbx8).alloc (hbx8).size _)).alloc (((hbx8).alloc (hbx8).size _)).size _))).mono ?_
          rintro e x9 ⟨v8, rfl, ho, hba⟩
          obtain ⟨A8, n8, c8, rfl⟩ := own_slice ho
          have hbx9 : Below x7.heap.size x7 x9 := (((((hbx8).alloc (hbx8).size _)).alloc (((hbx8).alloc (hbx8).size _)).size _)).trans (hba.mono (((((hbx8).alloc (hbx8).size _)).alloc (((hbx8).alloc (hbx8).size _)).size _)).size)
          have HS9 := Lib.hid (show x8.heap.size + 2 ≤ x9.heap.size from by first | exact hba.size | (have := hba.size; simp at this; omega))
          have HO8 := Lib.hid (own_mono ho (show x8.heap.size + 2 ≤ _ from by first | exact Nat.le_refl _ | simp))
          have HB89 := Lib.hid (show ∀ i, i < x8.heap.size → x9.heap[i]? = x8.heap[i]? from fun i hlt => (hba.block i (by first | exact hlt | (simp; omega))).trans (((((((Below.refl x8.heap.size x8)).alloc ((Below.refl x8.heap.size x8)).size _)).alloc ((((Below.refl x8.heap.size x8)).alloc ((Below.refl x8.heap.size x8)).size _)).size _)).block i hlt))
          have HQ7b := Lib.hid (((show Lies (((x8.alloc (.cells #[.slice none 0 0] 22)).alloc (.cells #[.slice none 0 0] 22))) (x8.heap.size) 22 #[.slice none 0 0] from (Lies.new' _ 22 #[.slice none 0 0] (by simp)).alloc _)).later hba)
          have HQ8b := Lib.hid (((show Lies (((x8.alloc (.cells #[.slice none 0 0] 22)).alloc (.cells #[.slice none 0 0] 22))) (x8.heap.size + 1) 22 #[.slice none 0 0] from Lies.new' _ 22 #[.slice none 0 0] (by simp))).later hba)
          clear ho hba
          refine hK.out _ _ ?_ (fun hHeld => ?_)
          · exact HKS.out _ hbx9
          clear hK K
          try simp only [Act.put, List.setIfInBounds_toArray, List.set_cons_zero, List.set_cons_succ]
          refine wpAnyH_ready (rs := [12]) (by kernel_rfl) (by simp) ?_
          refine AllReadyH.cons (o := ⟨none, _, _, _, _, _⟩) rfl (fun K hK => ?_) (AllReadyH.nil)
          rw [if_pos (by kernel_rfl)]
          refine wp_store_strs _ _ rfl (x8.heap.size) A7 n7 c7 rfl rfl 22 (.slice none 0 0) (show Lies (x9) (x8.heap.size) 22 #[.slice none 0 0] from HQ7b.out) ?_
          obtain ⟨z1, hz1⟩ : ∃ X, X = (x9).setCell ⟨x8.heap.size, 0, none⟩ (.slice A7 n7 c7) := ⟨_, rfl⟩
          rw [← hz1]
          have HZ1 := Lib.hid hz1
          clear hz1
          refine hK.out _ _ ?_ (fun hHeld => ?_)
          · exact HKS.out _ (by rw [HZ1.out]; exact (hbx9).setCell (p := ⟨x8.heap.size, 0, none⟩) ((by have h8 := HS8.out; have h9 := HS9.out; (try dsimp only); omega)) _)
          clear hK K
          try simp only [Act.put]
          refine wpAnyH_ready (rs := [13]) (by kernel_rfl) (by simp) ?_
          refine AllReadyH.cons (o := ⟨none, _, _, _, _, _⟩) rfl (fun K hK => ?_) (AllReadyH.nil)
          rw [if_pos (by kernel_rfl)]
          refine wp_store_strs _ _ rfl (x8.heap.size + 1) A8 n8 c8 rfl rfl 22 (.slice none 0 0) (by rw [HZ1.out]; exact ((show Lies (x9) (x8.heap.size + 1) 22 #[.slice none 0 0] from HQ8b.out)).far (p := ⟨x8.heap.size, 0, none⟩) ((by have h8 := HS8.out; have h9 := HS9.out; (try dsimp only); omega)) _) ?_
          obtain ⟨z2, hz2⟩ : ∃ X, X = z1.setCell ⟨x8.heap.size + 1, 0, none⟩ (.slice A8 n8 c8) := ⟨_, rfl⟩
          rw [← hz2]
          have HZ2 := Lib.hid hz2
          clear hz2
          refine hK.out _ _ ?_ (fun hHeld => ?_)
          · exact HKS.out _ (by rw [HZ2.out, HZ1.out]; exact ((hbx9).setCell (p := ⟨x8.heap.size, 0, none⟩) ((by have h8 := HS8.out; have h9 := HS9.out; (try dsimp only); omega)) _).setCell (p := ⟨x8.heap.size + 1, 0, none⟩) ((by have h8 := HS8.out; have h9 := HS9.out; (try dsimp only); omega)) _)
          clear hK K
          try simp only [Act.put]
          refine wpAnyH_done (by kernel_rfl) ?_ _
          go_wp2_with fail
          go_meet
          have h8s := HS8.out
          have h9s := HS9.out
          have h7w := HZ7.out
          have hfz : ∀ i, i ≠ (x8.heap.size) → i ≠ (x8.heap.size + 1) → z2.heap[i]? = (x9).heap[i]? := fun i h1 h2 => by
            rw [HZ2.out, HZ1.out]
            exact (Below.heap_setCell _ ⟨x8.heap.size + 1, 0, none⟩ _ i h2).trans (Below.heap_setCell _ ⟨x8.heap.size, 0, none⟩ _ i h1)
          have hold : ∀ i, i < x9.heap.size → (x9).heap[i]? = x9.heap[i]? := fun i hi => ((Below.refl x9.heap.size x9)).block i hi
          refine ⟨x8.heap.size, x8.heap.size + 1, A7, n7, c7, A8, n8, c8, rfl, rfl, ((by have h8 := HS8.out; have h9 := HS9.out; (try dsimp only); omega)), (by have h8 := HS8.out; have h9 := HS9.out; (try dsimp only); omega), (by have h8 := HS8.out; have h9 := HS9.out; (try dsimp only); omega), ?_, ?_, ?_, ?_, ?_⟩
          · rw [HZ2.out, HZ1.out]
            exact (((show Lies (x9) (x8.heap.size) 22 #[.slice none 0 0] from HQ7b.out)).set 0 _).far (p := ⟨x8.heap.size + 1, 0, none⟩) (((by have h8 := HS8.out; have h9 := HS9.out; (try dsimp only); omega))) _
          · rw [HZ2.out, HZ1.out]
            exact (((show Lies (x9) (x8.heap.size + 1) 22 #[.slice none 0 0] from HQ8b.out)).far (p := ⟨x8.heap.size, 0, none⟩) (Ne.symm ((by have h8 := HS8.out; have h9 := HS9.out; (try dsimp only); omega))) _).set 0 _
          · exact OwnL.str (own_same HO7.out fun i hi hlt => (blank_at (X := fun b => b = bu) (show ¬ i = bu from by omega)).trans (((hfz i (by omega) (by omega)).trans (hold i (by omega))).trans (HB89.out i hlt))) (by have := moreL_len la lb; have := HLA.out; omega)
          · exact OwnL.str (own_same HO8.out fun i hi hlt => (blank_at (X := fun b => b = bu) (show ¬ i = bu from by omega)).trans ((hfz i (by omega) (by omega)).trans (hold i hlt))) (by have := moreL_len lb la; have := HLB.out; omega)
          · rw [HZ2.out, HZ1.out]
            exact ((hbx9).setCell (p := ⟨x8.heap.size, 0, none⟩) ((by have h8 := HS8.out; have h9 := HS9.out; (try dsimp only); omega)) _).setCell (p := ⟨x8.heap.size + 1, 0, none⟩) ((by have h8 := HS8.out; have h9 := HS9.out; (try dsimp only); omega)) _
      · go_simp
        refine hK.out _ _ ?_ (fun hHeld => ?_)
        · exact HKS.out _ (((hbx8).alloc (hbx8).size _))
        clear hK K
        try simp only [Act.put, List.setIfInBounds_toArray, List.set_cons_zero, List.set_cons_succ]
        refine wpAnyH_ready (rs := [9, 10]) (by kernel_rfl) (by simp) ?_
        refine AllReadyH.cons (o := ⟨some 31, _, _, _, _, _⟩) rfl (fun K hK => ?_) (AllReadyH.cons (o := ⟨some 7, _, _, _, _, _⟩) rfl (fun K hK => ?_) (AllReadyH.nil))
        · go_simp
          go_at_call 29
          refine (HM2.out _ (((hbx8).alloc (hbx8).size _))).mono ?_
          rintro e x9 ⟨v8, rfl, ho, hba⟩
          obtain ⟨A8, n8, c8, rfl⟩ := own_slice ho
          have hbx9 : Below x7.heap.size x7 x9 := (((hbx8).alloc (hbx8).size _)).trans (hba.mono (((hbx8).alloc (hbx8).size _)).size)
          have HS9 := Lib.hid (show x8.heap.size + 1 ≤ x9.heap.size from by first | exact hba.size | (have := hba.size; simp at this; omega))
          have HO8 := Lib.hid (own_mono ho (show x8.heap.size + 1 ≤ _ from by first | exact Nat.le_refl _ | simp))
          have HB89 := Lib.hid (show ∀ i, i < x8.heap.size → x9.heap[i]? = x8.heap[i]? from fun i hlt => (hba.block i (by first | exact hlt | (simp; omega))).trans (((((Below.refl x8.heap.size x8)).alloc ((Below.refl x8.heap.size x8)).size _)).block i hlt))
          have HQ8b := Lib.hid (((show Lies ((x8.alloc (.cells #[.slice none 0 0] 22))) (x8.heap.size) 22 #[.slice none 0 0] from Lies.new' _ 22 #[.slice none 0 0] (by simp))).later hba)
          clear ho hba
          refine hK.out _ _ ?_ (fun hHeld => ?_)
          · exact HKS.out _ hbx9
          clear hK K
          try simp only [Act.put, List.setIfInBounds_toArray, List.set_cons_zero, List.set_cons_succ]
          refine wpAnyH_ready (rs := [10]) (by kernel_rfl) (by simp) ?_
          refine AllReadyH.cons (o := ⟨some 7, _, _, _, _, _⟩) rfl (fun K hK => ?_) (AllReadyH.nil)
          go_simp
          refine hK.out _ _ ?_ (fun hHeld => ?_)
          · exact HKS.out _ (((hbx9).alloc (hbx9).size _))
          clear hK K
          try simp only [Act.put, List.setIfInBounds_toArray, List.set_cons_zero, List.set_cons_succ]
          refine wpAnyH_ready (rs := [12]) (by kernel_rfl) (by simp) ?_
          refine AllReadyH.cons (o := ⟨none, _, _, _, _, _⟩) rfl (fun K hK => ?_) (AllReadyH.nil)
          rw [if_pos (by kernel_rfl)]
          refine wp_store_strs _ _ rfl (x9.heap.size) A7 n7 c7 rfl rfl 22 (.slice none 0 0) (show Lies ((x9.alloc (.cells #[.slice none 0 0] 22))) (x9.heap.size) 22 #[.slice none 0 0] from Lies.new' _ 22 #[.slice none 0 0] (by simp)) ?_
          obtain ⟨z1, hz1⟩ : ∃ X, X = ((x9.alloc (.cells #[.slice none 0 0] 22))).setCell ⟨x9.heap.size, 0, none⟩ (.slice A7 n7 c7) := ⟨_, rfl⟩
          rw [← hz1]
          have HZ1 := Lib.hid hz1
          clear hz1
          refine hK.out _ _ ?_ (fun hHeld => ?_)
          · exact HKS.out _ (by rw [HZ1.out]; exact (((hbx9).alloc (hbx9).size _)).setCell (p := ⟨x9.heap.size, 0, none⟩) ((by have h8 := HS8.out; have h9 := HS9.out; (try dsimp only); omega)) _)
          clear hK K
          try simp only [Act.put]
          refine wpAnyH_ready (rs := [13]) (by kernel_rfl) (by simp) ?_
          refine AllReadyH.cons (o := ⟨none, _, _, _, _, _⟩) rfl (fun K hK => ?_) (AllReadyH.nil)
          rw [if_pos (by kernel_rfl)]
          refine wp_store_strs _ _ rfl (x8.heap.size) A8 n8 c8 rfl rfl 22 (.slice none 0 0) (by rw [HZ1.out]; exact ((show Lies ((x9.alloc (.cells #[.slice none 0 0] 22))) (x8.heap.size) 22 #[.slice none 0 0] from (HQ8b.out).alloc _)).far (p := ⟨x9.heap.size, 0, none⟩) ((by have h8 := HS8.out; have h9 := HS9.out; (try dsimp only); omega)) _) ?_
          obtain ⟨z2, hz2⟩ : ∃ X, X = z1.setCell ⟨x8.heap.size, 0, none⟩ (.slice A8 n8 c8) := ⟨_, rfl⟩
          rw [← hz2]
          have HZ2 := Lib.hid hz2
          clear hz2
          refine hK.out _ _ ?_ (fun hHeld => ?_)
          · exact HKS.out _ (by rw [HZ2.out, HZ1.out]; exact ((((hbx9).alloc (hbx9).size _)).setCell (p := ⟨x9.heap.size, 0, none⟩) ((by have h8 := HS8.out; have h9 := HS9.out; (try dsimp only); omega)) _).setCell (p := ⟨x8.heap.size, 0, none⟩) ((by have h8 := HS8.out; have h9 := HS9.out; (try dsimp only); omega)) _)
          clear hK K
          try simp only [Act.put]
          refine wpAnyH_done (by kernel_rfl) ?_ _
          go_wp2_with fail
          go_meet
          have h8s := HS8.out
          have h9s := HS9.out
          have h7w := HZ7.out
          have hfz : ∀ i, i ≠ (x9.heap.size) → i ≠ (x8.heap.size) → z2.heap[i]? = ((x9.alloc (.cells #[.slice none 0 0] 22))).heap[i]? := fun i h1 h2 => by
            rw [HZ2.out, HZ1.out]
            exact (Below.heap_setCell _ ⟨x8.heap.size, 0, none⟩ _ i h2).trans (Below.heap_setCell _ ⟨x9.heap.size, 0, none⟩ _ i h1)
          have hold : ∀ i, i < x9.heap.size → ((x9.alloc (.cells #[.slice none 0 0] 22))).heap[i]? = x9.heap[i]? := fun i hi => ((((Below.refl x9.heap.size x9)).alloc ((Below.refl x9.heap.size x9)).size _)).block i hi
          refine ⟨x9.heap.size, x8.heap.size, A7, n7, c7, A8, n8, c8, rfl, rfl, ((by have h8 := HS8.out; have h9 := HS9.out; (try dsimp only); omega)), (by have h8 := HS8.out; have h9 := HS9.out; (try dsimp only); omega), (by have h8 := HS8.out; have h9 := HS9.out; (try dsimp only); omega), ?_, ?_, ?_, ?_, ?_⟩
          · rw [HZ2.out, HZ1.out]
            exact (((show Lies ((x9.alloc (.cells #[.slice none 0 0] 22))) (x9.heap.size) 22 #[.slice none 0 0] from Lies.new' _ 22 #[.slice none 0 0] (by simp))).set 0 _).far (p := ⟨x8.heap.size, 0, none⟩) (((by have h8 := HS8.out; have h9 := HS9.out; (try dsimp only); omega))) _
          · rw [HZ2.out, HZ1.out]
            exact (((show Lies ((x9.alloc (.cells #[.slice none 0 0] 22))) (x8.heap.size) 22 #[.slice none 0 0] from (HQ8b.out).alloc _)).far (p := ⟨x9.heap.size, 0, none⟩) (Ne.symm ((by have h8 := HS8.out; have h9 := HS9.out; (try dsimp only); omega))) _).set 0 _
          · exact OwnL.str (own_same HO7.out fun i hi hlt => (blank_at (X := fun b => b = bu) (show ¬ i = bu from by omega)).trans (((hfz i (by omega) (by omega)).trans (hold i (by omega))).trans (HB89.out i hlt))) (by have := moreL_len la lb; have := HLA.out; omega)
          · exact OwnL.str (own_same HO8.out fun i hi hlt => (blank_at (X := fun b => b = bu) (show ¬ i = bu from by omega)).trans ((hfz i (by omega) (by omega)).trans (hold i hlt))) (by have := moreL_len lb la; have := HLB.out; omega)
          · rw [HZ2.out, HZ1.out]
            exact ((((hbx9).alloc (hbx9).size _)).setCell (p := ⟨x9.heap.size, 0, none⟩) ((by have h8 := HS8.out; have h9 := HS9.out; (try dsimp only); omega)) _).setCell (p := ⟨x8.heap.size, 0, none⟩) ((by have h8 := HS8.out; have h9 := HS9.out; (try dsimp only); omega)) _
        · go_simp
          refine hK.out _ _ ?_ (fun hHeld => ?_)
          · exact HKS.out _ (((((hbx8).alloc (hbx8).size _)).alloc (((hbx8).alloc (hbx8).size _)).size _))
          clear hK K
          try simp only [Act.put, List.setIfInBounds_toArray, List.set_cons_zero, List.set_cons_succ]
          refine wpAnyH_ready (rs := [9]) (by kernel_rfl) (by simp) ?_
          refine AllReadyH.cons (o := ⟨some 31, _, _, _, _, _⟩) rfl (fun K hK => ?_) (AllReadyH.nil)
          go_simp
          go_at_call 29
          refine (HM2.out _ (((((hbx8).alloc (hbx8).size _)).alloc (((hbx8).alloc (hbx8).size _)).size _))).mono ?_
          rintro e x9 ⟨v8, rfl, ho, hba⟩
          obtain ⟨A8, n8, c8, rfl⟩ := own_slice ho
          have hbx9 : Below x7.heap.size x7 x9 := (((((hbx8).alloc (hbx8).size _)).alloc (((hbx8).alloc (hbx8).size _)).size _)).trans (hba.mono (((((hbx8).alloc (hbx8).size _)).alloc (((hbx8).alloc (hbx8).size _)).size _)).size)
          have HS9 := Lib.hid (show x8.heap.size + 2 ≤ x9.heap.size from by first | exact hba.size | (have := hba.size; simp at this; omega))
          have HO8 := Lib.hid (own_mono ho (show x8.heap.size + 2 ≤ _ from by first | exact Nat.le_refl _ | simp))
          have HB89 := Lib.hid (show ∀ i, i < x8.heap.size → x9.heap[i]? = x8.heap[i]? from fun i hlt => (hba.block i (by first | exact hlt | (simp; omega))).trans (((((((Below.refl x8.heap.size x8)).alloc ((Below.refl x8.heap.size x8)).size _)).alloc ((((Below.refl x8.heap.size x8)).alloc ((Below.refl x8.heap.size x8)).size _)).size _)).block i hlt))
          have HQ7b := Lib.hid (((show Lies (((x8.alloc (.cells #[.slice none 0 0] 22)).alloc (.cells #[.slice none 0 0] 22))) (x8.heap.size + 1) 22 #[.slice none 0 0] from Lies.new' _ 22 #[.slice none 0 0] (by simp))).later hba)
          have HQ8b := Lib.hid (((show Lies (((x8.alloc (.cells #[.slice none 0 0] 22)).alloc (.cells #[.slice none 0 0] 22))) (x8.heap.size) 22 #[.slice none 0 0] from (Lies.new' _ 22 #[.slice none 0 0] (by simp)).alloc _)).later hba)
          clear ho hba
          refine hK.out _ _ ?_ (fun hHeld => ?_)
          · exact HKS.out _ hbx9
          clear hK K
          try simp only [Act.put, List.setIfInBounds_toArray, List.set_cons_zero, List.set_cons_succ]
          refine wpAnyH_ready (rs := [12]) (by kernel_rfl) (by simp) ?_
          refine AllReadyH.cons (o := ⟨none, _, _, _, _, _⟩) rfl (fun K hK => ?_) (AllReadyH.nil)
          rw [if_pos (by kernel_rfl)]
          refine wp_store_strs _ _ rfl (x8.heap.size + 1) A7 n7 c7 rfl rfl 22 (.slice none 0 0) (show Lies (x9) (x8.heap.size + 1) 22 #[.slice none 0 0] from HQ7b.out) ?_
          obtain ⟨z1, hz1⟩ : ∃ X, X = (x9).setCell ⟨x8.heap.size + 1, 0, none⟩ (.slice A7 n7 c7) := ⟨_, rfl⟩
          rw [← hz1]
          have HZ1 := Lib.hid hz1
          clear hz1
          refine hK.out _ _ ?_ (fun hHeld => ?_)
          · exact HKS.out _ (by rw [HZ1.out]; exact (hbx9).setCell (p := ⟨x8.heap.size + 1, 0, none⟩) ((by have h8 := HS8.out; have h9 := HS9.out; (try dsimp only); omega)) _)
          clear hK K
          try simp only [Act.put]
          refine wpAnyH_ready (rs := [13]) (by kernel_rfl) (by simp) ?_
          refine AllReadyH.cons (o := ⟨none, _, _, _, _, _⟩) rfl (fun K hK => ?_) (AllReadyH.nil)
          rw [if_pos (by kernel_rfl)]
          refine wp_store_strs _ _ rfl (x8.heap.size) A8 n8 c8 rfl rfl 22 (.slice none 0 0) (by rw [HZ1.out]; exact ((show Lies (x9) (x8.heap.size) 22 #[.slice none 0 0] from HQ8b.out)).far (p := ⟨x8.heap.size + 1, 0, none⟩) ((by have h8 := HS8.out; have h9 := HS9.out; (try dsimp only); omega)) _) ?_
          obtain ⟨z2, hz2⟩ : ∃ X, X = z1.setCell ⟨x8.heap.size, 0, none⟩ (.slice A8 n8 c8) := ⟨_, rfl⟩
          rw [← hz2]
          have HZ2 := Lib.hid hz2
          clear hz2
          refine hK.out _ _ ?_ (fun hHeld => ?_)
          · exact HKS.out _ (by rw [HZ2.out, HZ1.out]; exact ((hbx9).setCell (p := ⟨x8.heap.size + 1, 0, none⟩) ((by have h8 := HS8.out; have h9 := HS9.out; (try dsimp only); omega)) _).setCell (p := ⟨x8.heap.size, 0, none⟩) ((by have h8 := HS8.out; have h9 := HS9.out; (try dsimp only); omega)) _)
          clear hK K
          try simp only [Act.put]
          refine wpAnyH_done (by kernel_rfl) ?_ _
          go_wp2_with fail
          go_meet
          have h8s := HS8.out
          have h9s := HS9.out
          have h7w := HZ7.out
          have hfz : ∀ i, i ≠ (x8.heap.size + 1) → i ≠ (x8.heap.size) → z2.heap[i]? = (x9).heap[i]? := fun i h1 h2 => by
            rw [HZ2.out, HZ1.out]
            exact (Below.heap_setCell _ ⟨x8.heap.size, 0, none⟩ _ i h2).trans (Below.heap_setCell _ ⟨x8.heap.size + 1, 0, none⟩ _ i h1)
          have hold : ∀ i, i < x9.heap.size → (x9).heap[i]? = x9.heap[i]? := fun i hi => ((Below.refl x9.heap.size x9)).block i hi
          refine ⟨x8.heap.size + 1, x8.heap.size, A7, n7, c7, A8, n8, c8, rfl, rfl, ((by have h8 := HS8.out; have h9 := HS9.out; (try dsimp only); omega)), (by have h8 := HS8.out; have h9 := HS9.out; (try dsimp only); omega), (by have h8 := HS8.out; have h9 := HS9.out; (try dsimp only); omega), ?_, ?_, ?_, ?_, ?_⟩
          · rw [HZ2.out, HZ1.out]
            exact (((show Lies (x9) (x8.heap.size + 1) 22 #[.slice none 0 0] from HQ7b.out)).set 0 _).far (p := ⟨x8.heap.size, 0, none⟩) (((by have h8 := HS8.out; have h9 := HS9.out; (try dsimp only); omega))) _
          · rw [HZ2.out, HZ1.out]
            exact (((show Lies (x9) (x8.heap.size) 22 #[.slice none 0 0] from HQ8b.out)).far (p := ⟨x8.heap.size + 1, 0, none⟩) (Ne.symm ((by have h8 := HS8.out; have h9 := HS9.out; (try dsimp only); omega))) _).set 0 _
          · exact OwnL.str (own_same HO7.out fun i hi hlt => (blank_at (X := fun b => b = bu) (show ¬ i = bu from by omega)).trans (((hfz i (by omega) (by omega)).trans (hold i (by omega))).trans (HB89.out i hlt))) (by have := moreL_len la lb; have := HLA.out; omega)
          · exact OwnL.str (own_same HO8.out fun i hi hlt => (blank_at (X := fun b => b = bu) (show ¬ i = bu from by omega)).trans ((hfz i (by omega) (by omega)).trans (hold i hlt))) (by have := moreL_len lb la; have := HLB.out; omega)
          · rw [HZ2.out, HZ1.out]
            exact ((hbx9).setCell (p := ⟨x8.heap.size + 1, 0, none⟩) ((by have h8 := HS8.out; have h9 := HS9.out; (try dsimp only); omega)) _).setCell (p := ⟨x8.heap.size, 0, none⟩) ((by have h8 := HS8.out; have h9 := HS9.out; (try dsimp only); omega)) _
    · go_simp
      refine hK.out _ _ ?_ (fun hHeld => ?_)
      · exact HKS.out _ (((((Below.refl x7.heap.size x7)).alloc ((Below.refl x7.heap.size x7)).size _)).drew)
      clear hK K
      try simp only [Act.put, List.setIfInBounds_toArray, List.set_cons_zero, List.set_cons_succ]
      refine wpAnyH_ready (rs := [4, 11]) (by kernel_rfl) (by simp) ?_
      refine AllReadyH.cons (o := ⟨some 26, _, _, _, _, _⟩) rfl (fun K hK => ?_) (AllReadyH.cons (o := ⟨some 8, _, _, _, _, _⟩) rfl (fun K hK => ?_) (AllReadyH.nil))
      · go_simp
        go_at_call 29
        refine (HM1.out _ (((((Below.refl x7.heap.size x7)).alloc ((Below.refl x7.heap.size x7)).size _)).drew)).mono ?_
        rintro e x8 ⟨v7, rfl, ho, hba⟩
        obtain ⟨A7, n7, c7, rfl⟩ := own_slice ho
        have hbx8 : Below x7.heap.size x7 x8 := (((((Below.refl x7.heap.size x7)).alloc ((Below.refl x7.heap.size x7)).size _)).drew).trans (hba.mono (((((Below.refl x7.heap.size x7)).alloc ((Below.refl x7.heap.size x7)).size _)).drew).size)
        have HS8 := Lib.hid (show x7.heap.size + 1 ≤ x8.heap.size from by first | exact hba.size | (have := hba.size; simp at this; omega))
        have HO7 := Lib.hid (own_mono ho (show x7.heap.size + 1 ≤ _ from by first | exact Nat.le_refl _ | simp))
        have HQ7a := Lib.hid (((show Lies ((x7.alloc (.cells #[.slice none 0 0] 22)).drew) (x7.heap.size) 22 #[.slice none 0 0] from Lies.new' _ 22 #[.slice none 0 0] (by simp))).later hba)
        clear ho hba
        refine hK.out _ _ ?_ (fun hHeld => ?_)
        · exact HKS.out _ hbx8
        clear hK K
        try simp only [Act.put, List.setIfInBounds_toArray, List.set_cons_zero, List.set_cons_succ]
        refine wpAnyH_ready (rs := [9, 11]) (by kernel_rfl) (by simp) ?_
        refine AllReadyH.cons (o := ⟨some 31, _, _, _, _, _⟩) rfl (fun K hK => ?_) (AllReadyH.cons (o := ⟨some 8, _, _, _, _, _⟩) rfl (fun K hK => ?_) (AllReadyH.nil))
        · go_simp
          go_at_call 29
          refine (HM2.out _ (hbx8)).mono ?_
          rintro e x9 ⟨v8, rfl, ho, hba⟩
          obtain ⟨A8, n8, c8, rfl⟩ := own_slice ho
          have hbx9 : Below x7.heap.size x7 x9 := (hbx8).trans (hba.mono (hbx8).size)
          have HS9 := Lib.hid (show x8.heap.size + 0 ≤ x9.heap.size from by first | exact hba.size | (have := hba.size; simp at this; omega))
          have HO8 := Lib.hid (own_mono ho (show x8.heap.size + 0 ≤ _ from by first | exact Nat.le_refl _ | simp))
          have HB89 := Lib.hid (show ∀ i, i < x8.heap.size → x9.heap[i]? = x8.heap[i]? from fun i hlt => (hba.block i (by first | exact hlt | (simp; omega))).trans (((Below.refl x8.heap.size x8)).block i hlt))
          have HQ7b := Lib.hid (((show Lies (x8) (x7.heap.size) 22 #[.slice none 0 0] from HQ7a.out)).later hba)
          clear ho hba
          refine hK.out _ _ ?_ (fun hHeld => ?_)
          · exact HKS.out _ hbx9
          clear hK K
          try simp only [Act.put, List.setIfInBounds_toArray, List.set_cons_zero, List.set_cons_succ]
          refine wpAnyH_ready (rs := [11]) (by kernel_rfl) (by simp) ?_
          refine AllReadyH.cons (o := ⟨some 8, _, _, _, _, _⟩) rfl (fun K hK => ?_) (AllReadyH.nil)
          go_simp
          refine hK.out _ _ ?_ (fun hHeld => ?_)
          · exact HKS.out _ (((hbx9).alloc (hbx9).size _))
          clear hK K
          try simp only [Act.put, List.setIfInBounds_toArray, List.set_cons_zero, List.set_cons_succ]
          refine wpAnyH_ready (rs := [12]) (by kernel_rfl) (by simp) ?_
          refine AllReadyH.cons (o := ⟨none, _, _, _, _, _⟩) rfl (fun K hK => ?_) (AllReadyH.nil)
          rw [if_pos (by kernel_rfl)]
          refine wp_store_strs _ _ rfl (x7.heap.size) A7 n7 c7 rfl rfl 22 (.slice none 0 0) (show Lies ((x9.alloc (.cells #[.slice none 0 0] 22))) (x7.heap.size) 22 #[.slice none 0 0] from (HQ7b.out).alloc _) ?_
          obtain ⟨z1, hz1⟩ : ∃ X, X = ((x9.alloc (.cells #[.slice none 0 0] 22))).setCell ⟨x7.heap.size, 0, none⟩ (.slice A7 n7 c7) := ⟨_, rfl⟩
          rw [← hz1]
          have HZ1 := Lib.hid hz1
          clear hz1
          refine hK.out _ _ ?_ (fun hHeld => ?_)
          · exact HKS.out _ (by rw [HZ1.out]; exact (((hbx9).alloc (hbx9).size _)).setCell (p := ⟨x7.heap.size, 0, none⟩) ((by have h8 := HS8.out; have h9 := HS9.out; (try dsimp only); omega)) _)
          clear hK K
          try simp only [Act.put]
          refine wpAnyH_ready (rs := [13]) (by kernel_rfl) (by simp) ?_
          refine AllReadyH.cons (o := ⟨none, _, _, _, _, _⟩) rfl (fun K hK => ?_) (AllReadyH.nil)
          rw [if_pos (by kernel_rfl)]
          refine wp_store_strs _ _ rfl (x9.heap.size) A8 n8 c8 rfl rfl 22 (.slice none 0 0) (by rw [HZ1.out]; exact ((show Lies ((x9.alloc (.cells #[.slice none 0 0] 22))) (x9.heap.size) 22 #[.slice none 0 0] from Lies.new' _ 22 #[.slice none 0 0] (by simp))).far (p := ⟨x7.heap.size, 0, none⟩) ((by have h8 := HS8.out; have h9 := HS9.out; (try dsimp only); omega)) _) ?_
          obtain ⟨z2, hz2⟩ : ∃ X, X = z1.setCell ⟨x9.heap.size, 0, none⟩ (.slice A8 n8 c8) := ⟨_, rfl⟩
          rw [← hz2]
          have HZ2 := Lib.hid hz2
          clear hz2
          refine hK.out _ _ ?_ (fun hHeld => ?_)
          · exact HKS.out _ (by rw [HZ2.out, HZ1.out]; exact ((((hbx9).alloc (hbx9).size _)).setCell (p := ⟨x7.heap.size, 0, none⟩) ((by have h8 := HS8.out; have h9 := HS9.out; (try dsimp only); omega)) _).setCell (p := ⟨x9.heap.size, 0, none⟩) ((by have h8 := HS8.out; have h9 := HS9.out; (try dsimp only); omega)) _)
          clear hK K
          try simp only [Act.put]
          refine wpAnyH_done (by kernel_rfl) ?_ _
          go_wp2_with fail
          go_meet
          have h8s := HS8.out
          have h9s := HS9.out
          have h7w := HZ7.out
          have hfz : ∀ i, i ≠ (x7.heap.size) → i ≠ (x9.heap.size) → z2.heap[i]? = ((x9.alloc (.cells #[.slice none 0 0] 22))).heap[i]? := fun i h1 h2 => by
            rw [HZ2.out, HZ1.out]
            exact (Below.heap_setCell _ ⟨x9.heap.size, 0, none⟩ _ i h2).trans (Below.heap_setCell _ ⟨x7.heap.size, 0, none⟩ _ i h1)
          have hold : ∀ i, i < x9.heap.size → ((x9.alloc (.cells #[.slice none 0 0] 22))).heap[i]? = x9.heap[i]? := fun i hi => ((((Below.refl x9.heap.size x9)).alloc ((Below.refl x9.heap.size x9)).size _)).block i hi
          refine ⟨x7.heap.size, x9.heap.size, A7, n7, c7, A8, n8, c8, rfl, rfl, ((by have h8 := HS8.out; have h9 := HS9.out; (try dsimp only); omega)), (by have h8 := HS8.out; have h9 := HS9.out; (try dsimp only); omega), (by have h8 := HS8.out; have h9 := HS9.out; (try dsimp only); omega), ?_, ?_, ?_, ?_, ?_⟩
          · rw [HZ2.out, HZ1.out]
            exact (((show Lies ((x9.alloc (.cells #[.slice none 0 0] 22))) (x7.heap.size) 22 #[.slice none 0 0] from (HQ7b.out).alloc _)).set 0 _).far (p := ⟨x9.heap.size, 0, none⟩) (((by have h8 := HS8.out; have h9 := HS9.out; (try dsimp only); omega))) _
          · rw [HZ2.out, HZ1.out]
            exact (((show Lies ((x9.alloc (.cells #[.slice none 0 0] 22))) (x9.heap.size) 22 #[.slice none 0 0] from Lies.new' _ 22 #[.slice none 0 0] (by simp))).far (p := ⟨x7.heap.size, 0, none⟩) (Ne.symm ((by have h8 := HS8.out; have h9 := HS9.out; (try dsimp only); omega))) _).set 0 _
          · exact OwnL.str (own_same HO7.out fun i hi hlt => (blank_at (X := fun b => b = bu) (show ¬ i = bu from by omega)).trans (((hfz i (by omega) (by omega)).trans (hold i (by omega))).trans (HB89.out i hlt))) (by have := moreL_len la lb; have := HLA.out; omega)
          · exact OwnL.str (own_same HO8.out fun i hi hlt => (blank_at (X := fun b => b = bu) (show ¬ i = bu from by omega)).trans ((hfz i (by omega) (by omega)).trans (hold i hlt))) (by have := moreL_len lb la; have := HLB.out; omega)
          · rw [HZ2.out, HZ1.out]
            exact ((((hbx9).alloc (hbx9).size _)).setCell (p := ⟨x7.heap.size, 0, none⟩) ((by have h8 := HS8.out; have h9 := HS9.out; (try dsimp only); omega)) _).setCell (p := ⟨x9.heap.size, 0, none⟩) ((by have h8 := HS8.out; have h9 := HS9.out; (try dsimp only); omega)) _
        · go_simp
          refine hK.out _ _ ?_ (fun hHeld => ?_)
          · exact HKS.out _ (((hbx8).alloc (hbx8).size _))
          clear hK K
          try simp only [Act.put, List.setIfInBounds_toArray, List.set_cons_zero, List.set_cons_succ]
          refine wpAnyH_ready (rs := [9]) (by kernel_rfl) (by simp) ?_
          refine AllReadyH.cons (o := ⟨some 31, _, _, _, _, _⟩) rfl (fun K hK => ?_) (AllReadyH.nil)
          go_simp
          go_at_call 29
          refine (HM2.out _ (((hbx8).alloc (hbx8).size _))).mono ?_
          rintro e x9 ⟨v8, rfl, ho, hba⟩
          obtain ⟨A8, n8, c8, rfl⟩ := own_slice ho
          have hbx9 : Below x7.heap.size x7 x9 := (((hbx8).alloc (hbx8).size _)).trans (hba.mono (((hbx8).alloc (hbx8).size _)).size)
          have HS9 := Lib.hid (show x8.heap.size + 1 ≤ x9.heap.size from by first | exact hba.size | (have := hba.size; simp at this; omega))
          have HO8 := Lib.hid (own_mono ho (show x8.heap.size + 1 ≤ _ from by first | exact Nat.le_refl _ | simp))
          have HB89 := Lib.hid (show ∀ i, i < x8.heap.size → x9.heap[i]? = x8.heap[i]? from fun i hlt => (hba.block i (by first | exact hlt | (simp; omega))).trans (((((Below.refl x8.heap.size x8)).alloc ((Below.refl x8.heap.size x8)).size _)).block i hlt))
          have HQ7b := Lib.hid (((show Lies ((x8.alloc (.cells #[.slice none 0 0] 22))) (x7.heap.size) 22 #[.slice none 0 0] from (HQ7a.out).alloc _)).later hba)
          have HQ8b := Lib.hid (((show Lies ((x8.alloc (.cells #[.slice none 0 0] 22))) (x8.heap.size) 22 #[.slice none 0 0] from Lies.new' _ 22 #[.slice none 0 0] (by simp))).later hba)
          clear ho hba
          refine hK.out _ _ ?_ (fun hHeld => ?_)
          · exact HKS.out _ hbx9
          clear hK K
          try simp only [Act.put, List.setIfInBounds_toArray, List.set_cons_zero, List.set_cons_succ]
          refine wpAnyH_ready (rs := [12]) (by kernel_rfl) (by simp) ?_
          refine AllReadyH.cons (o := ⟨none, _, _, _, _, _⟩) rfl (fun K hK => ?_) (AllReadyH.nil)
          rw [if_pos (by kernel_rfl)]
          refine wp_store_strs _ _ rfl (x7.heap.size) A7 n7 c7 rfl rfl 22 (.slice none 0 0) (show Lies (x9) (x7.heap.size) 22 #[.slice none 0 0] from HQ7b.out) ?_
          obtain ⟨z1, hz1⟩ : ∃ X, X = (x9).setCell ⟨x7.heap.size, 0, none⟩ (.slice A7 n7 c7) := ⟨_, rfl⟩
          rw [← hz1]
          have HZ1 := Lib.hid hz1
          clear hz1
          refine hK.out _ _ ?_ (fun hHeld => ?_)
          · exact HKS.out _ (by rw [HZ1.out]; exact (hbx9).setCell (p := ⟨x7.heap.size, 0, none⟩) ((by have h8 := HS8.out; have h9 := HS9.out; (try dsimp only); omega)) _)
          clear hK K
          try simp only [Act.put]
          refine wpAnyH_ready (rs := [13]) (by kernel_rfl) (by simp) ?_
          refine AllReadyH.cons (o := ⟨none, _, _, _, _, _⟩) rfl (fun K hK => ?_) (AllReadyH.nil)
          rw [if_pos (by kernel_rfl)]
          refine wp_store_strs _ _ rfl (x8.heap.size) A8 n8 c8 rfl rfl 22 (.slice none 0 0) (by rw [HZ1.out]; exact ((show Lies (x9) (x8.heap.size) 22 #[.slice none 0 0] from HQ8b.out)).far (p := ⟨x7.heap.size, 0, none⟩) ((by have h8 := HS8.out; have h9 := HS9.out; (try dsimp only); omega)) _) ?_
          obtain ⟨z2, hz2⟩ : ∃ X, X = z1.setCell ⟨x8.heap.size, 0, none⟩ (.slice A8 n8 c8) := ⟨_, rfl⟩
          rw [← hz2]
          have HZ2 := Lib.hid hz2
          clear hz2
          refine hK.out _ _ ?_ (fun hHeld => ?_)
          · exact HKS.out _ (by rw [HZ2.out, HZ1.out]; exact ((hbx9).setCell (p := ⟨x7.heap.size, 0, none⟩) ((by have h8 := HS8.out; have h9 := HS9.out; (try dsimp only); omega)) _).setCell (p := ⟨x8.heap.size, 0, none⟩) ((by have h8 := HS8.out; have h9 := HS9.out; (try dsimp only); omega)) _)
          clear hK K
          try simp only [Act.put]
          refine wpAnyH_done (by kernel_rfl) ?_ _
          go_wp2_with fail
          go_meet
          have h8s := HS8.out
          have h9s := HS9.out
          have h7w := HZ7.out
          have hfz : ∀ i, i ≠ (x7.heap.size) → i ≠ (x8.heap.size) → z2.heap[i]? = (x9).heap[i]? := fun i h1 h2 => by
            rw [HZ2.out, HZ1.out]
            exact (Below.heap_setCell _ ⟨x8.heap.size, 0, none⟩ _ i h2).trans (Below.heap_setCell _ ⟨x7.heap.size, 0, none⟩ _ i h1)
          have hold : ∀ i, i < x9.heap.size → (x9).heap[i]? = x9.heap[i]? := fun i hi => ((Below.refl x9.heap.size x9)).block i hi
          refine ⟨x7.heap.size, x8.heap.size, A7, n7, c7, A8, n8, c8, rfl, rfl, ((by have h8 := HS8.out; have h9 := HS9.out; (try dsimp only); omega)), (by have h8 := HS8.out; have h9 := HS9.out; (try dsimp only); omega), (by have h8 := HS8.out; have h9 := HS9.out; (try dsimp only); omega), ?_, ?_, ?_, ?_, ?_⟩
          · rw [HZ2.out, HZ1.out]
            exact (((show Lies (x9) (x7.heap.size) 22 #[.slice none 0 0] from HQ7b.out)).set 0 _).far (p := ⟨x8.heap.size, 0, none⟩) (((by have h8 := HS8.out; have h9 := HS9.out; (try dsimp only); omega))) _
          · rw [HZ2.out, HZ1.out]
            exact (((show Lies (x9) (x8.heap.size) 22 #[.slice none 0 0] from HQ8b.out)).far (p := ⟨x7.heap.size, 0, none⟩) (Ne.symm ((by have h8 := HS8.out; have h9 := HS9.out; (try dsimp only); omega))) _).set 0 _
          · exact OwnL.str (own_same HO7.out fun i hi hlt => (blank_at (X := fun b => b = bu) (show ¬ i = bu from by omega)).trans (((hfz i (by omega) (by omega)).trans (hold i (by omega))).trans (HB89.out i hlt))) (by have := moreL_len la lb; have := HLA.out; omega)
          · exact OwnL.str (own_same HO8.out fun i hi hlt => (blank_at (X := fun b => b = bu) (show ¬ i = bu from by omega)).trans ((hfz i (by omega) (by omega)).trans (hold i hlt))) (by have := moreL_len lb la; have := HLB.out; omega)
          · rw [HZ2.out, HZ1.out]
            exact ((hbx9).setCell (p := ⟨x7.heap.size, 0, none⟩) ((by have h8 := HS8.out; have h9 := HS9.out; (try dsimp only); omega)) _).setCell (p := ⟨x8.heap.size, 0, none⟩) ((by have h8 := HS8.out; have h9 := HS9.out; (try dsimp only); omega)) _
      · go_simp
        refine hK.out _ _ ?_ (fun hHeld => ?_)
        · exact HKS.out _ (((((((Below.refl x7.heap.size x7)).alloc ((Below.refl x7.heap.size x7)).size _)).alloc ((((Below.refl x7.heap.size x7)).alloc ((Below.refl x7.heap.size x7)).size _)).size _)).drew)
        clear hK K
        try simp only [Act.put, List.setIfInBounds_toArray, List.set_cons_zero, List.set_cons_succ]
        refine wpAnyH_ready (rs := [4]) (by kernel_rfl) (by simp) ?_
        refine AllReadyH.cons (o := ⟨some 26, _, _, _, _, _⟩) rfl (fun K hK => ?_) (AllReadyH.nil)
        go_simp
        go_at_call 29
        refine (HM1.out _ (((((((Below.refl x7.heap.size x7)).alloc ((Below.refl x7.heap.size x7)).size _)).alloc ((((Below.refl x7.heap.size x7)).alloc ((Below.refl x7.heap.size x7)).size _)).size _)).drew)).mono ?_
        rintro e x8 ⟨v7, rfl, ho, hba⟩
        obtain ⟨A7, n7, c7, rfl⟩ := own_slice ho
        have hbx8 : Below x7.heap.size x7 x8 := (((((((Below.refl x7.heap.size x7)).alloc ((Below.refl x7.heap.size x7)).size _)).alloc ((((Below.refl x7.heap.size x7)).alloc ((Below.refl x7.heap.size x7)).size _)).size _)).drew).trans (hba.mono (((((((Below.refl x7.heap.size x7)).alloc ((Below.refl x7.heap.size x7)).size _)).alloc ((((Below.refl x7.heap.size x7)).alloc ((Below.refl x7.heap.size x7)).size _)).size _)).drew).size)
        have HS8 := Lib.hid (show x7.heap.size + 2 ≤ x8.heap.size from by first | exact hba.size | (have := hba.size; simp at this; omega))
        have HO7 := Lib.hid (own_mono ho (show x7.heap.size + 2 ≤ _ from by first | exact Nat.le_refl _ | simp))
        have HQ7a := Lib.hid (((show Lies (((x7.alloc (.cells #[.slice none 0 0] 22)).alloc (.cells #[.slice none 0 0] 22)).drew) (x7.heap.size) 22 #[.slice none 0 0] from (Lies.new' _ 22 #[.slice none 0 0] (by simp)).alloc _)).later hba)
        have HQ8a := Lib.hid (((show Lies (((x7.alloc (.cells #[.slice none 0 0] 22)).alloc (.cells #[.slice none 0 0] 22)).drew) (x7.heap.size + 1) 22 #[.slice none 0 0] from Lies.new' _ 22 #[.slice none 0 0] (by simp))).later hba)
        clear ho hba
        refine hK.out _ _ ?_ (fun hHeld => ?_)
        · exact HKS.out _ hbx8
        clear hK K
        try simp only [Act.put, List.setIfInBounds_toArray, List.set_cons_zero, List.set_cons_succ]
        refine wpAnyH_ready (rs := [9]) (by kernel_rfl) (by simp) ?_
        refine AllReadyH.cons (o := ⟨some 31, _, _, _, _, _⟩) rfl (fun K hK => ?_) (AllReadyH.nil)
        go_simp
        go_at_call 29
        refine (HM2.out _ (hbx8)).mono ?_
        rintro e x9 ⟨v8, rfl, ho, hba⟩
        obtain ⟨A8, n8, c8, rfl⟩ := own_slice ho
        have hbx9 : Below x7.heap.size x7 x9 := (hbx8).trans (hba.mono (hbx8).size)
        have HS9 := Lib.hid (show x8.heap.size + 0 ≤ x9.heap.size from by first | exact hba.size | (have := hba.size; simp at this; omega))
        have HO8 := Lib.hid (own_mono ho (show x8.heap.size + 0 ≤ _ from by first | exact Nat.le_refl _ | simp))
        have HB89 := Lib.hid (show ∀ i, i < x8.heap.size → x9.heap[i]? = x8.heap[i]? from fun i hlt => (hba.block i (by first | exact hlt | (simp; omega))).trans (((Below.refl x8.heap.size x8)).block i hlt))
        have HQ7b := Lib.hid (((show Lies (x8) (x7.heap.size) 22 #[.slice none 0 0] from HQ7a.out)).later hba)
        have HQ8b := Lib.hid (((show Lies (x8) (x7.heap.size + 1) 22 #[.slice none 0 0] from HQ8a.out)).later hba)
        clear ho hba
        refine hK.out _ _ ?_ (fun hHeld => ?_)
        · exact HKS.out _ hbx9
        clear hK K
        try simp only [Act.put, List.setIfInBounds_toArray, List.set_cons_zero, List.set_cons_succ]
        refine wpAnyH_ready (rs := [12]) (by kernel_rfl) (by simp) ?_
        refine AllReadyH.cons (o := ⟨none, _, _, _, _, _⟩) rfl (fun K hK => ?_) (AllReadyH.nil)
        rw [if_pos (by kernel_rfl)]
        refine wp_store_strs _ _ rfl (x7.heap.size) A7 n7 c7 rfl rfl 22 (.slice none 0 0) (show Lies (x9) (x7.heap.size) 22 #[.slice none 0 0] from HQ7b.out) ?_
        obtain ⟨z1, hz1⟩ : ∃ X, X = (x9).setCell ⟨x7.heap.size, 0, none⟩ (.slice A7 n7 c7) := ⟨_, rfl⟩
        rw [← hz1]
        have HZ1 := Lib.hid hz1
        clear hz1
        refine hK.out _ _ ?_ (fun hHeld => ?_)
        · exact HKS.out _ (by rw [HZ1.out]; exact (hbx9).setCell (p := ⟨x7.heap.size, 0, none⟩) ((by have h8 := HS8.out; have h9 := HS9.out; (try dsimp only); omega)) _)
        clear hK K
        try simp only [Act.put]
        refine wpAnyH_ready (rs := [13]) (by kernel_rfl) (by simp) ?_
        refine AllReadyH.cons (o := ⟨none, _, _, _, _, _⟩) rfl (fun K hK => ?_) (AllReadyH.nil)
        rw [if_pos (by kernel_rfl)]
        refine wp_store_strs _ _ rfl (x7.heap.size + 1) A8 n8 c8 rfl rfl 22 (.slice none 0 0) (by rw [HZ1.out]; exact ((show Lies (x9) (x7.heap.size + 1) 22 #[.slice none 0 0] from HQ8b.out)).far (p := ⟨x7.heap.size, 0, none⟩) ((by have h8 := HS8.out; have h9 := HS9.out; (try dsimp only); omega)) _) ?_
        obtain ⟨z2, hz2⟩ : ∃ X, X = z1.setCell ⟨x7.heap.size + 1, 0, none⟩ (.slice A8 n8 c8) := ⟨_, rfl⟩
        rw [← hz2]
        have HZ2 := Lib.hid hz2
        clear hz2
        refine hK.out _ _ ?_ (fun hHeld => ?_)
        · exact HKS.out _ (by rw [HZ2.out, HZ1.out]; exact ((hbx9).setCell (p := ⟨x7.heap.size, 0, none⟩) ((by have h8 := HS8.out; have h9 := HS9.out; (try dsimp only); omega)) _).setCell (p := ⟨x7.heap.size + 1, 0, none⟩) ((by have h8 := HS8.out; have h9 := HS9.out; (try dsimp only); omega)) _)
        clear hK K
        try simp only [Act.put]
        refine wpAnyH_done (by kernel_rfl) ?_ _
        go_wp2_with fail
        go_meet
        have h8s := HS8.out
        have h9s := HS9.out
        have h7w := HZ7.out
        have hfz : ∀ i, i ≠ (x7.heap.size) → i ≠ (x7.heap.size + 1) → z2.heap[i]? = (x9).heap[i]? := fun i h1 h2 => by
          rw [HZ2.out, HZ1.out]
          exact (Below.heap_setCell _ ⟨x7.heap.size + 1, 0, none⟩ _ i h2).trans (Below.heap_setCell _ ⟨x7.heap.size, 0, none⟩ _ i h1)
        have hold : ∀ i, i < x9.heap.size → (x9).heap[i]? = x9.heap[i]? := fun i hi => ((Below.refl x9.heap.size x9)).block i hi
        refine ⟨x7.heap.size, x7.heap.size + 1, A7, n7, c7, A8, n8, c8, rfl, rfl, ((by have h8 := HS8.out; have h9 := HS9.out; (try dsimp only); omega)), (by have h8 := HS8.out; have h9 := HS9.out; (try dsimp only); omega), (by have h8 := HS8.out; have h9 := HS9.out; (try dsimp only); omega), ?_, ?_, ?_, ?_, ?_⟩
        · rw [HZ2.out, HZ1.out]
          exact (((show Lies (x9) (x7.heap.size) 22 #[.slice none 0 0] from HQ7b.out)).set 0 _).far (p := ⟨x7.heap.size + 1, 0, none⟩) (((by have h8 := HS8.out; have h9 := HS9.out; (try dsimp only); omega))) _
        · rw [HZ2.out, HZ1.out]
          exact (((show Lies (x9) (x7.heap.size + 1) 22 #[.slice none 0 0] from HQ8b.out)).far (p := ⟨x7.heap.size, 0, none⟩) (Ne.symm ((by have h8 := HS8.out; have h9 := HS9.out; (try dsimp only); omega))) _).set 0 _
        · exact OwnL.str (own_same HO7.out fun i hi hlt => (blank_at (X := fun b => b = bu) (show ¬ i = bu from by omega)).trans (((hfz i (by omega) (by omega)).trans (hold i (by omega))).trans (HB89.out i hlt))) (by have := moreL_len la lb; have := HLA.out; omega)
        · exact OwnL.str (own_same HO8.out fun i hi hlt => (blank_at (X := fun b => b = bu) (show ¬ i = bu from by omega)).trans ((hfz i (by omega) (by omega)).trans (hold i hlt))) (by have := moreL_len lb la; have := HLB.out; omega)
        · rw [HZ2.out, HZ1.out]
          exact ((hbx9).setCell (p := ⟨x7.heap.size, 0, none⟩) ((by have h8 := HS8.out; have h9 := HS9.out; (try dsimp only); omega)) _).setCell (p := ⟨x7.heap.size + 1, 0, none⟩) ((by have h8 := HS8.out; have h9 := HS9.out; (try dsimp only); omega)) _
    · go_simp
      refine hK.out _ _ ?_ (fun hHeld => ?_)
      · exact HKS.out _ (((((Below.refl x7.heap.size x7)).alloc ((Below.refl x7.heap.size x7)).size _)).drew)
      clear hK K
      try simp only [Act.put, List.setIfInBounds_toArray, List.set_cons_zero, List.set_cons_succ]
      refine wpAnyH_ready (rs := [4, 10]) (by kernel_rfl) (by simp) ?_
      refine AllReadyH.cons (o := ⟨some 26, _, _, _, _, _⟩) rfl (fun K hK => ?_) (AllReadyH.cons (o := ⟨some 7, _, _, _, _, _⟩) rfl (fun K hK => ?_) (AllReadyH.nil))
      · go_simp
        go_at_call 29
        refine (HM1.out _ (((((Below.refl x7.heap.size x7)).alloc ((Below.refl x7.heap.size x7)).size _)).drew)).mono ?_
        rintro e x8 ⟨v7, rfl, ho, hba⟩
        obtain ⟨A7, n7, c7, rfl⟩ := own_slice ho
        have hbx8 : Below x7.heap.size x7 x8 := (((((Below.refl x7.heap.size x7)).alloc ((Below.refl x7.heap.size x7)).size _)).drew).trans (hba.mono (((((Below.refl x7.heap.size x7)).alloc ((Below.refl x7.heap.size x7)).size _)).drew).size)
        have HS8 := Lib.hid (show x7.heap.size + 1 ≤ x8.heap.size from by first | exact hba.size | (have := hba.size; simp at this; omega))
        have HO7 := Lib.hid (own_mono ho (show x7.heap.size + 1 ≤ _ from by first | exact Nat.le_refl _ | simp))
        have HQ8a := Lib.hid (((show Lies ((x7.alloc (.cells #[.slice none 0 0] 22)).drew) (x7.heap.size) 22 #[.slice none 0 0] from Lies.new' _ 22 #[.slice none 0 0] (by simp))).later hba)
        clear ho hba
        refine hK.out _ _ ?_ (fun hHeld => ?_)
        · exact HKS.out _ hbx8
        clear hK K
        try simp only [Act.put, List.setIfInBounds_toArray, List.set_cons_zero, List.set_cons_succ]
        refine wpAnyH_ready (rs := [9, 10]) (by kernel_rfl) (by simp) ?_
        refine AllReadyH.cons (o := ⟨some 31, _, _, _, _, _⟩) rfl (fun K hK => ?_) (AllReadyH.cons (o := ⟨some 7, _, _, _, _, _⟩) rfl (fun K hK => ?_) (AllReadyH.nil))
        · go_simp
          go_at_call 29
          refine (HM2.out _ (hbx8)).mono ?_
          rintro e x9 ⟨v8, rfl, ho, hba⟩
          obtain ⟨A8, n8, c8, rfl⟩ := own_slice ho
          have hbx9 : Below x7.heap.size x7 x9 := (hbx8).trans (hba.mono (hbx8).size)
          have HS9 := Lib.hid (show x8.heap.size + 0 ≤ x9.heap.size from by first | exact hba.size | (have := hba.size; simp at this; omega))
          have HO8 := Lib.hid (own_mono ho (show x8.heap.size + 0 ≤ _ from by first | exact Nat.le_refl _ | simp))
          have HB89 := Lib.hid (show ∀ i, i < x8.heap.size → x9.heap[i]? = x8.heap[i]? from fun i hlt => (hba.block i (by first | exact hlt | (simp; omega))).trans (((Below.refl x8.heap.size x8)).block i hlt))
          have HQ8b := Lib.hid (((show Lies (x8) (x7.heap.size) 22 #[.slice none 0 0] from HQ8a.out)).later hba)
          clear ho hba
          refine hK.out _ _ ?_ (fun hHeld => ?_)
          · exact HKS.out _ hbx9
          clear hK K
          try simp only [Act.put, List.setIfInBounds_toArray, List.set_cons_zero, List.set_cons_succ]
          refine wpAnyH_ready (rs := [10]) (by kernel_rfl) (by simp) ?_
          refine AllReadyH.cons (o := ⟨some 7, _, _, _, _, _⟩) rfl (fun K hK => ?_) (AllReadyH.nil)
          go_simp
          refine hK.out _ _ ?_ (fun hHeld => ?_)
          · exact HKS.out _ (((hbx9).alloc (hbx9).size _))
          clear hK K
          try simp only [Act.put, List.setIfInBounds_toArray, List.set_cons_zero, List.set_cons_succ]
          refine wpAnyH_ready (rs := [12]) (by kernel_rfl) (by simp) ?_
          refine AllReadyH.cons (o := ⟨none, _, _, _, _, _⟩) rfl (fun K hK => ?_) (AllReadyH.nil)
          rw [if_pos (by kernel_rfl)]
          refine wp_store_strs _ _ rfl (x9.heap.size) A7 n7 c7 rfl rfl 22 (.slice none 0 0) (show Lies ((x9.alloc (.cells #[.slice none 0 0] 22))) (x9.heap.size) 22 #[.slice none 0 0] from Lies.new' _ 22 #[.slice none 0 0] (by simp)) ?_
          obtain ⟨z1, hz1⟩ : ∃ X, X = ((x9.alloc (.cells #[.slice none 0 0] 22))).setCell ⟨x9.heap.size, 0, none⟩ (.slice A7 n7 c7) := ⟨_, rfl⟩
          rw [← hz1]
          have HZ1 := Lib.hid hz1
          clear hz1
          refine hK.out _ _ ?_ (fun hHeld => ?_)
          · exact HKS.out _ (by rw [HZ1.out]; exact (((hbx9).alloc (hbx9).size _)).setCell (p := ⟨x9.heap.size, 0, none⟩) ((by have h8 := HS8.out; have h9 := HS9.out; (try dsimp only); omega)) _)
          clear hK K
          try simp only [Act.put]
          refine wpAnyH_ready (rs := [13]) (by kernel_rfl) (by simp) ?_
          refine AllReadyH.cons (o := ⟨none, _, _, _, _, _⟩) rfl (fun K hK => ?_) (AllReadyH.nil)
          rw [if_pos (by kernel_rfl)]
          refine wp_store_strs _ _ rfl (x7.heap.size) A8 n8 c8 rfl rfl 22 (.slice none 0 0) (by rw [HZ1.out]; exact ((show Lies ((x9.alloc (.cells #[.slice none 0 0] 22))) (x7.heap.size) 22 #[.slice none 0 0] from (HQ8b.out).alloc _)).far (p := ⟨x9.heap.size, 0, none⟩) ((by have h8 := HS8.out; have h9 := HS9.out; (try dsimp only); omega)) _) ?_
          obtain ⟨z2, hz2⟩ : ∃ X, X = z1.setCell ⟨x7.heap.size, 0, none⟩ (.slice A8 n8 c8) := ⟨_, rfl⟩
          rw [← hz2]
          have HZ2 := Lib.hid hz2
          clear hz2
          refine hK.out _ _ ?_ (fun hHeld => ?_)
          · exact HKS.out _ (by rw [HZ2.out, HZ1.out]; exact ((((hbx9).alloc (hbx9).size _)).setCell (p := ⟨x9.heap.size, 0, none⟩) ((by have h8 := HS8.out; have h9 := HS9.out; (try dsimp only); omega)) _).setCell (p := ⟨x7.heap.size, 0, none⟩) ((by have h8 := HS8.out; have h9 := HS9.out; (try dsimp only); omega)) _)
          clear hK K
          try simp only [Act.put]
          refine wpAnyH_done (by kernel_rfl) ?_ _
          go_wp2_with fail
          go_meet
          have h8s := HS8.out
          have h9s := HS9.out
          have h7w := HZ7.out
          have hfz : ∀ i, i ≠ (x9.heap.size) → i ≠ (x7.heap.size) → z2.heap[i]? = ((x9.alloc (.cells #[.slice none 0 0] 22))).heap[i]? := fun i h1 h2 => by
            rw [HZ2.out, HZ1.out]
            exact (Below.heap_setCell _ ⟨x7.heap.size, 0, none⟩ _ i h2).trans (Below.heap_setCell _ ⟨x9.heap.size, 0, none⟩ _ i h1)
          have hold : ∀ i, i < x9.heap.size → ((x9.alloc (.cells #[.slice none 0 0] 22))).heap[i]? = x9.heap[i]? := fun i hi => ((((Below.refl x9.heap.size x9)).alloc ((Below.refl x9.heap.size x9)).size _)).block i hi
          refine ⟨x9.heap.size, x7.heap.size, A7, n7, c7, A8, n8, c8, rfl, rfl, ((by have h8 := HS8.out; have h9 := HS9.out; (try dsimp only); omega)), (by have h8 := HS8.out; have h9 := HS9.out; (try dsimp only); omega), (by have h8 := HS8.out; have h9 := HS9.out; (try dsimp only); omega), ?_, ?_, ?_, ?_, ?_⟩
          · rw [HZ2.out, HZ1.out]
            exact (((show Lies ((x9.alloc (.cells #[.slice none 0 0] 22))) (x9.heap.size) 22 #[.slice none 0 0] from Lies.new' _ 22 #[.slice none 0 0] (by simp))).set 0 _).far (p := ⟨x7.heap.size, 0, none⟩) (((by have h8 := HS8.out; have h9 := HS9.out; (try dsimp only); omega))) _
          · rw [HZ2.out, HZ1.out]
            exact (((show Lies ((x9.alloc (.cells #[.slice none 0 0] 22))) (x7.heap.size) 22 #[.slice none 0 0] from (HQ8b.out).alloc _)).far (p := ⟨x9.heap.size, 0, none⟩) (Ne.symm ((by have h8 := HS8.out; have h9 := HS9.out; (try dsimp only); omega))) _).set 0 _
          · exact OwnL.str (own_same HO7.out fun i hi hlt => (blank_at (X := fun b => b = bu) (show ¬ i = bu from by omega)).trans (((hfz i (by omega) (by omega)).trans (hold i (by omega))).trans (HB89.out i hlt))) (by have := moreL_len la lb; have := HLA.out; omega)
          · exact OwnL.str (own_same HO8.out fun i hi hlt => (blank_at (X := fun b => b = bu) (show ¬ i = bu from by omega)).trans ((hfz i (by omega) (by omega)).trans (hold i hlt))) (by have := moreL_len lb la; have := HLB.out; omega)
          · rw [HZ2.out, HZ1.out]
            exact ((((hbx9).alloc (hbx9).size _)).setCell (p := ⟨x9.heap.size, 0, none⟩) ((by have h8 := HS8.out; have h9 := HS9.out; (try dsimp only); omega)) _).setCell (p := ⟨x7.heap.size, 0, none⟩) ((by have h8 := HS8.out; have h9 := HS9.out; (try dsimp only); omega)) _
        · go_simp
          refine hK.out _ _ ?_ (fun hHeld => ?_)
          · exact HKS.out _ (((hbx8).alloc (hbx8).size _))
          clear hK K
          try simp only [Act.put, List.setIfInBounds_toArray, List.set_cons_zero, List.set_cons_succ]
          refine wpAnyH_ready (rs := [9]) (by kernel_rfl) (by simp) ?_
          refine AllReadyH.cons (o := ⟨some 31, _, _, _, _, _⟩) rfl (fun K hK => ?_) (AllReadyH.nil)
          go_simp
          go_at_call 29
          refine (HM2.out _ (((hbx8).alloc (hbx8).size _))).mono ?_
          rintro e x9 ⟨v8, rfl, ho, hba⟩
          obtain ⟨A8, n8, c8, rfl⟩ := own_slice ho
          have hbx9 : Below x7.heap.size x7 x9 := (((hbx8).alloc (hbx8).size _)).trans (hba.mono (((hbx8).alloc (hbx8).size _)).size)
          have HS9 := Lib.hid (show x8.heap.size + 1 ≤ x9.heap.size from by first | exact hba.size | (have := hba.size; simp at this; omega))
          have HO8 := Lib.hid (own_mono ho (show x8.heap.size + 1 ≤ _ from by first | exact Nat.le_refl _ | simp))
          have HB89 := Lib.hid (show ∀ i, i < x8.heap.size → x9.heap[i]? = x8.heap[i]? from fun i hlt => (hba.block i (by first | exact hlt | (simp; omega))).trans (((((Below.refl x8.heap.size x8)).alloc ((Below.refl x8.heap.size x8)).size _)).block i hlt))
          have HQ7b := Lib.hid (((show Lies ((x8.alloc (.cells #[.slice none 0 0] 22))) (x8.heap.size) 22 #[.slice none 0 0] from Lies.new' _ 22 #[.slice none 0 0] (by simp))).later hba)
          have HQ8b := Lib.hid (((show Lies ((x8.alloc (.cells #[.slice none 0 0] 22))) (x7.heap.size) 22 #[.slice none 0 0] from (HQ8a.out).alloc _)).later hba)
          clear ho hba
          refine hK.out _ _ ?_ (fun hHeld => ?_)
          · exact HKS.out _ hbx9
          clear hK K
          try simp only [Act.put, List.setIfInBounds_toArray, List.set_cons_zero, List.set_cons_succ]
          refine wpAnyH_ready (rs := [12]) (by kernel_rfl) (by simp) ?_
          refine AllReadyH.cons (o := ⟨none, _, _, _, _, _⟩) rfl (fun K hK => ?_) (AllReadyH.nil)
          rw [if_pos (by kernel_rfl)]
          refine wp_store_strs _ _ rfl (x8.heap.size) A7 n7 c7 rfl rfl 22 (.slice none 0 0) (show Lies (x9) (x8.heap.size) 22 #[.slice none 0 0] from HQ7b.out) ?_
          obtain ⟨z1, hz1⟩ : ∃ X, X = (x9).setCell ⟨x8.heap.size, 0, none⟩ (.slice A7 n7 c7) := ⟨_, rfl⟩
          rw [← hz1]
          have HZ1 := Lib.hid hz1
          clear hz1
          refine hK.out _ _ ?_ (fun hHeld => ?_)
          · exact HKS.out _ (by rw [HZ1.out]; exact (hbx9).setCell (p := ⟨x8.heap.size, 0, none⟩) ((by have h8 := HS8.out; have h9 := HS9.out; (try dsimp only); omega)) _)
          clear hK K
          try simp only [Act.put]
          refine wpAnyH_ready (rs := [13]) (by kernel_rfl) (by simp) ?_
          refine AllReadyH.cons (o := ⟨none, _, _, _, _, _⟩) rfl (fun K hK => ?_) (AllReadyH.nil)
          rw [if_pos (by kernel_rfl)]
          refine wp_store_strs _ _ rfl (x7.heap.size) A8 n8 c8 rfl rfl 22 (.slice none 0 0) (by rw [HZ1.out]; exact ((show Lies (x9) (x7.heap.size) 22 #[.slice none 0 0] from HQ8b.out)).far (p := ⟨x8.heap.size, 0, none⟩) ((by have h8 := HS8.out; have h9 := HS9.out; (try dsimp only); omega)) _) ?_
          obtain ⟨z2, hz2⟩ : ∃ X, X = z1.setCell ⟨x7.heap.size, 0, none⟩ (.slice A8 n8 c8) := ⟨_, rfl⟩
          rw [← hz2]
          have HZ2 := Lib.hid hz2
          clear hz2
          refine hK.out _ _ ?_ (fun hHeld => ?_)
          · exact HKS.out _ (by rw [HZ2.out, HZ1.out]; exact ((hbx9).setCell (p := ⟨x8.heap.size, 0, none⟩) ((by have h8 := HS8.out; have h9 := HS9.out; (try dsimp only); omega)) _).setCell (p := ⟨x7.heap.size, 0, none⟩) ((by have h8 := HS8.out; have h9 := HS9.out; (try dsimp only); omega)) _)
          clear hK K
          try simp only [Act.put]
          refine wpAnyH_done (by kernel_rfl) ?_ _
          go_wp2_with fail
          go_meet
          have h8s := HS8.out
          have h9s := HS9.out
          have h7w := HZ7.out
          have hfz : ∀ i, i ≠ (x8.heap.size) → i ≠ (x7.heap.size) → z2.heap[i]? = (x9).heap[i]? := fun i h1 h2 => by
            rw [HZ2.out, HZ1.out]
            exact (Below.heap_setCell _ ⟨x7.heap.size, 0, none⟩ _ i h2).trans (Below.heap_setCell _ ⟨x8.heap.size, 0, none⟩ _ i h1)
          have hold : ∀ i, i < x9.heap.size → (x9).heap[i]? = x9.heap[i]? := fun i hi => ((Below.refl x9.heap.size x9)).block i hi
          refine ⟨x8.heap.size, x7.heap.size, A7, n7, c7, A8, n8, c8, rfl, rfl, ((by have h8 := HS8.out; have h9 := HS9.out; (try dsimp only); omega)), (by have h8 := HS8.out; have h9 := HS9.out; (try dsimp only); omega), (by have h8 := HS8.out; have h9 := HS9.out; (try dsimp only); omega), ?_, ?_, ?_, ?_, ?_⟩
          · rw [HZ2.out, HZ1.out]
            exact (((show Lies (x9) (x8.heap.size) 22 #[.slice none 0 0] from HQ7b.out)).set 0 _).far (p := ⟨x7.heap.size, 0, none⟩) (((by have h8 := HS8.out; have h9 := HS9.out; (try dsimp only); omega))) _
          · rw [HZ2.out, HZ1.out]
            exact (((show Lies (x9) (x7.heap.size) 22 #[.slice none 0 0] from HQ8b.out)).far (p := ⟨x8.heap.size, 0, none⟩) (Ne.symm ((by have h8 := HS8.out; have h9 := HS9.out; (try dsimp only); omega))) _).set 0 _
          · exact OwnL.str (own_same HO7.out fun i hi hlt => (blank_at (X := fun b => b = bu) (show ¬ i = bu from by omega)).trans (((hfz i (by omega) (by omega)).trans (hold i (by omega))).trans (HB89.out i hlt))) (by have := moreL_len la lb; have := HLA.out; omega)
          · exact OwnL.str (own_same HO8.out fun i hi hlt => (blank_at (X := fun b => b = bu) (show ¬ i = bu from by omega)).trans ((hfz i (by omega) (by omega)).trans (hold i hlt))) (by have := moreL_len lb la; have := HLB.out; omega)
          · rw [HZ2.out, HZ1.out]
            exact ((hbx9).setCell (p := ⟨x8.heap.size, 0, none⟩) ((by have h8 := HS8.out; have h9 := HS9.out; (try dsimp only); omega)) _).setCell (p := ⟨x7.heap.size, 0, none⟩) ((by have h8 := HS8.out; have h9 := HS9.out; (try dsimp only); omega)) _
      · go_simp
        refine hK.out _ _ ?_ (fun hHeld => ?_)
        · exact HKS.out _ (((((((Below.refl x7.heap.size x7)).alloc ((Below.refl x7.heap.size x7)).size _)).alloc ((((Below.refl x7.heap.size x7)).alloc ((Below.refl x7.heap.size x7)).size _)).size _)).drew)
        clear hK K
        try simp only [Act.put, List.setIfInBounds_toArray, List.set_cons_zero, List.set_cons_succ]
        refine wpAnyH_ready (rs := [4]) (by kernel_rfl) (by simp) ?_
        refine AllReadyH.cons (o := ⟨some 26, _, _, _, _, _⟩) rfl (fun K hK => ?_) (AllReadyH.nil)
        go_simp
        go_at_call 29
        refine (HM1.out _ (((((((Below.refl x7.heap.size x7)).alloc ((Below.refl x7.heap.size x7)).size _)).alloc ((((Below.refl x7.heap.size x7)).alloc ((Below.refl x7.heap.size x7)).size _)).size _)).drew)).mono ?_
        rintro e x8 ⟨v7, rfl, ho, hba⟩
        obtain ⟨A7, n7, c7, rfl⟩ := own_slice ho
        have hbx8 : Below x7.heap.size x7 x8 := (((((((Below.refl x7.heap.size x7)).alloc ((Below.refl x7.heap.size x7)).size _)).alloc ((((Below.refl x7.heap.size x7)).alloc ((Below.refl x7.heap.size x7)).size _)).size _)).drew).trans (hba.mono (((((((Below.refl x7.heap.size x7)).alloc ((Below.refl x7.heap.size x7)).size _)).alloc ((((Below.refl x7.heap.size x7)).alloc ((Below.refl x7.heap.size x7)).size _)).size _)).drew).size)
        have HS8 := Lib.hid (show x7.heap.size + 2 ≤ x8.heap.size from by first | exact hba.size | (have := hba.size; simp at this; omega))
        have HO7 := Lib.hid (own_mono ho (show x7.heap.size + 2 ≤ _ from by first | exact Nat.le_refl _ | simp))
        have HQ7a := Lib.hid (((show Lies (((x7.alloc (.cells #[.slice none 0 0] 22)).alloc (.cells #[.slice none 0 0] 22)).drew) (x7.heap.size + 1) 22 #[.slice none 0 0] from Lies.new' _ 22 #[.slice none 0 0] (by simp))).later hba)
        have HQ8a := Lib.hid (((show Lies (((x7.alloc (.cells #[.slice none 0 0] 22)).alloc (.cells #[.slice none 0 0] 22)).drew) (x7.heap.size) 22 #[.slice none 0 0] from (Lies.new' _ 22 #[.slice none 0 0] (by simp)).alloc _)).later hba)
        clear ho hba
        refine hK.out _ _ ?_ (fun hHeld => ?_)
        · exact HKS.out _ hbx8
        clear hK K
        try simp only [Act.put, List.setIfInBounds_toArray, List.set_cons_zero, List.set_cons_succ]
        refine wpAnyH_ready (rs := [9]) (by kernel_rfl) (by simp) ?_
        refine AllReadyH.cons (o := ⟨some 31, _, _, _, _, _⟩) rfl (fun K hK => ?_) (AllReadyH.nil)
        go_simp
        go_at_call 29
        refine (HM2.out _ (hbx8)).mono ?_
        rintro e x9 ⟨v8, rfl, ho, hba⟩
        obtain ⟨A8, n8, c8, rfl⟩ := own_slice ho
        have hbx9 : Below x7.heap.size x7 x9 := (hbx8).trans (hba.mono (hbx8).size)
        have HS9 := Lib.hid (show x8.heap.size + 0 ≤ x9.heap.size from by first | exact hba.size | (have := hba.size; simp at this; omega))
        have HO8 := Lib.hid (own_mono ho (show x8.heap.size + 0 ≤ _ from by first | exact Nat.le_refl _ | simp))
        have HB89 := Lib.hid (show ∀ i, i < x8.heap.size → x9.heap[i]? = x8.heap[i]? from fun i hlt => (hba.block i (by first | exact hlt | (simp; omega))).trans (((Below.refl x8.heap.size x8)).block i hlt))
        have HQ7b := Lib.hid (((show Lies (x8) (x7.heap.size + 1) 22 #[.slice none 0 0] from HQ7a.out)).later hba)
        have HQ8b := Lib.hid (((show Lies (x8) (x7.heap.size) 22 #[.slice none 0 0] from HQ8a.out)).later hba)
        clear ho hba
        refine hK.out _ _ ?_ (fun hHeld => ?_)
        · exact HKS.out _ hbx9
        clear hK K
        try simp only [Act.put, List.setIfInBounds_toArray, List.set_cons_zero, List.set_cons_succ]
        refine wpAnyH_ready (rs := [12]) (by kernel_rfl) (by simp) ?_
        refine AllReadyH.cons (o := ⟨none, _, _, _, _, _⟩) rfl (fun K hK => ?_) (AllReadyH.nil)
        rw [if_pos (by kernel_rfl)]
        refine wp_store_strs _ _ rfl (x7.heap.size + 1) A7 n7 c7 rfl rfl 22 (.slice none 0 0) (show Lies (x9) (x7.heap.size + 1) 22 #[.slice none 0 0] from HQ7b.out) ?_
        obtain ⟨z1, hz1⟩ : ∃ X, X = (x9).setCell ⟨x7.heap.size + 1, 0, none⟩ (.slice A7 n7 c7) := ⟨_, rfl⟩
        rw [← hz1]
        have HZ1 := Lib.hid hz1
        clear hz1
        refine hK.out _ _ ?_ (fun hHeld => ?_)
        · exact HKS.out _ (by rw [HZ1.out]; exact (hbx9).setCell (p := ⟨x7.heap.size + 1, 0, none⟩) ((by have h8 := HS8.out; have h9 := HS9.out; (try dsimp only); omega)) _)
        clear hK K
        try simp only [Act.put]
        refine wpAnyH_ready (rs := [13]) (by kernel_rfl) (by simp) ?_
        refine AllReadyH.cons (o := ⟨none, _, _, _, _, _⟩) rfl (fun K hK => ?_) (AllReadyH.nil)
        rw [if_pos (by kernel_rfl)]
        refine wp_store_strs _ _ rfl (x7.heap.size) A8 n8 c8 rfl rfl 22 (.slice none 0 0) (by rw [HZ1.out]; exact ((show Lies (x9) (x7.heap.size) 22 #[.slice none 0 0] from HQ8b.out)).far (p := ⟨x7.heap.size + 1, 0, none⟩) ((by have h8 := HS8.out; have h9 := HS9.out; (try dsimp only); omega)) _) ?_
        obtain ⟨z2, hz2⟩ : ∃ X, X = z1.setCell ⟨x7.heap.size, 0, none⟩ (.slice A8 n8 c8) := ⟨_, rfl⟩
        rw [← hz2]
        have HZ2 := Lib.hid hz2
        clear hz2
        refine hK.out _ _ ?_ (fun hHeld => ?_)
        · exact HKS.out _ (by rw [HZ2.out, HZ1.out]; exact ((hbx9).setCell (p := ⟨x7.heap.size + 1, 0, none⟩) ((by have h8 := HS8.out; have h9 := HS9.out; (try dsimp only); omega)) _).setCell (p := ⟨x7.heap.size, 0, none⟩) ((by have h8 := HS8.out; have h9 := HS9.out; (try dsimp only); omega)) _)
        clear hK K
        try simp only [Act.put]
        refine wpAnyH_done (by kernel_rfl) ?_ _
        go_wp2_with fail
        go_meet
        have h8s := HS8.out
        have h9s := HS9.out
        have h7w := HZ7.out
        have hfz : ∀ i, i ≠ (x7.heap.size + 1) → i ≠ (x7.heap.size) → z2.heap[i]? = (x9).heap[i]? := fun i h1 h2 => by
          rw [HZ2.out, HZ1.out]
          exact (Below.heap_setCell _ ⟨x7.heap.size, 0, none⟩ _ i h2).trans (Below.heap_setCell _ ⟨x7.heap.size + 1, 0, none⟩ _ i h1)
        have hold : ∀ i, i < x9.heap.size → (x9).heap[i]? = x9.heap[i]? := fun i hi => ((Below.refl x9.heap.size x9)).block i hi
        refine ⟨x7.heap.size + 1, x7.heap.size, A7, n7, c7, A8, n8, c8, rfl, rfl, ((by have h8 := HS8.out; have h9 := HS9.out; (try dsimp only); omega)), (by have h8 := HS8.out; have h9 := HS9.out; (try dsimp only); omega), (by have h8 := HS8.out; have h9 := HS9.out; (try dsimp only); omega), ?_, ?_, ?_, ?_, ?_⟩
        · rw [HZ2.out, HZ1.out]
          exact (((show Lies (x9) (x7.heap.size + 1) 22 #[.slice none 0 0] from HQ7b.out)).set 0 _).far (p := ⟨x7.heap.size, 0, none⟩) (((by have h8 := HS8.out; have h9 := HS9.out; (try dsimp only); omega))) _
        · rw [HZ2.out, HZ1.out]
          exact (((show Lies (x9) (x7.heap.size) 22 #[.slice none 0 0] from HQ8b.out)).far (p := ⟨x7.heap.size + 1, 0, none⟩) (Ne.symm ((by have h8 := HS8.out; have h9 := HS9.out; (try dsimp only); omega))) _).set 0 _
        · exact OwnL.str (own_same HO7.out fun i hi hlt => (blank_at (X := fun b => b = bu) (show ¬ i = bu from by omega)).trans (((hfz i (by omega) (by omega)).trans (hold i (by omega))).trans (HB89.out i hlt))) (by have := moreL_len la lb; have := HLA.out; omega)
        · exact OwnL.str (own_same HO8.out fun i hi hlt => (blank_at (X := fun b => b = bu) (show ¬ i = bu from by omega)).trans ((hfz i (by omega) (by omega)).trans (hold i hlt))) (by have := moreL_len lb la; have := HLB.out; omega)
        · rw [HZ2.out, HZ1.out]
          exact ((hbx9).setCell (p := ⟨x7.heap.size + 1, 0, none⟩) ((by have h8 := HS8.out; have h9 := HS9.out; (try dsimp only); omega)) _).setCell (p := ⟨x7.heap.size, 0, none⟩) ((by have h8 := HS8.out; have h9 := HS9.out; (try dsimp only); omega)) _
  case rest =>
    obtain ⟨g7, g8, A7, n7, c7, A8, n8, c8, rfl, rfl, hne, hg7, hg8, hl7, hl8, hr7, hr8, hbx⟩ := hcut
    obtain ⟨y, rfl⟩ : ∃ y, y = wc := ⟨_, rfl⟩
    have hn7 : n7 = (moreL la lb).length := by obtain ⟨A, c, e, _⟩ := hr7.form; injection e
    have hn8 : n8 = (moreL lb la).length := by obtain ⟨A, c, e, _⟩ := hr8.form; injection e
    have hby : Below w.heap.size w y := HB7.out.trans (hbx.mono HB7.out.size)
    have hs7 : StrR y (.slice A7 n7 c7) (moreL la lb) := hr7.keepL fun g hg => (blank_at (X := fun b => b = bu) (blank_live hg).1).symm
    have hs8 : StrR y (.slice A8 n8 c8) (moreL lb la) := hr8.keepL fun g hg => (blank_at (X := fun b => b = bu) (blank_live hg).1).symm
    have hkx := HKX.out.later hbx
    have hka := HKA.out.later hbx
    have hkb := HKB.out.later hbx
    have q0 := hkx.cell 0
    have a0 := hka.cell 0
    have a1 := hka.cell 1
    have b0 := hkb.cell 0
    have b1 := hkb.cell 1
    have m7 := hl7.cell 0
    have m8 := hl8.cell 0
    have HS7 := Lib.hid hs7
    have HS8 := Lib.hid hs8
    have HR7 := Lib.hid hr7
    have HR8 := Lib.hid hr8
    have HG8 := Lib.hid (show w.heap.size ≤ g8 from by have := HZ7.out; omega)
    have HU := Lib.hid (HU.out.later hbx)
    have HBY := Lib.hid hby
    have HN7 := Lib.hid hn7
    have HN8 := Lib.hid hn8
    have HX := Lib.hid hkx
    have HKB := Lib.hid hkb
    have HL7 := Lib.hid hl7
    have HG7 := Lib.hid (show w.heap.size ≤ g7 from by have := HZ7.out; omega)
    have hGB : bu < w.heap.size := hbu
    have HBU := Lib.hid hGB
    have HM := Lib.hid hm
    clear hn7 hn8 hby hs7 hs8 hr7 hr8 hkx hka hkb hl7 hl8 hbx hg7 hg8 hne HKA HB HB7 HR5 HR6 HZ7 hbu hGB hm
    have e7 : moreL la lb = [] ↔ n7 = 0 := by rw [HN7.out, List.length_eq_zero_iff]
    have e8 : moreL lb la = [] ↔ n8 = 0 := by rw [HN8.out, List.length_eq_zero_iff]
    have E7 := Lib.hid e7
    have E8 := Lib.hid e8
    clear e7 e8
    rcases Nat.eq_zero_or_pos n7 with h7 | h7 <;> rcases Nat.eq_zero_or_pos n8 with h8 | h8
    · have HE := Lib.hid (show rowsRes la lb va vb nx = some (endsF va vb, nx) from by unfold rowsRes; rw [if_pos ⟨E7.out.2 h7, E8.out.2 h8⟩])
      have HC := Lib.hid (ends_any y bu m nx HU.out (by have := HM.out; omega) va vb HVA.out HVB.out)
      subst h7 h8
      go_wp2_with fail
      refine HC.out.mono ?_
      rintro e z ⟨rfl, h2, h3⟩
      have H2 := Lib.hid h2
      have H3 := Lib.hid h3
      clear h2 h3
      go_wp2
      go_ret
      unfold RowsEnd
      rw [HE.out]
      exact ⟨⟨rfl, H2.out.mono (by omega)⟩, below_grown HBY.out H3.out⟩
    · have hp8 : (0 : Int) < (n8 : Int) := by omega
      have hd8 : ((n8 : Int) == 0) = false := by simp; omega
      have hx8 : n8 ≠ 0 := by omega
      subst h7
      by_cases hv : va = 0
      · have HE := Lib.hid (show rowsRes la lb va vb nx = none from by unfold rowsRes; rw [if_neg (fun e => hx8 (E8.out.1 e.2)), if_pos (.inr (.inl ⟨fun e => hx8 (E8.out.1 e), hv⟩))])
        subst hv
        go_wp2_with fail
        go_ret
        unfold RowsEnd
        rw [HE.out]
        exact ⟨rfl, below_grown HBY.out (grown_refl _ _)⟩
      · have hvb : (va == 0) = false := by simp [hv]
        by_cases hw : va = vb
        · have HE := Lib.hid (show rowsRes la lb va vb nx = none from by unfold rowsRes; rw [if_neg (fun e => hx8 (E8.out.1 e.2)), if_pos (.inr (.inr hw))])
          subst hw
          go_wp2_with fail
          go_ret
          unfold RowsEnd
          rw [HE.out]
          exact ⟨rfl, below_grown HBY.out (grown_refl _ _)⟩
        · have hwb : (va == vb) = false := by simp [hw]
          have HE := Lib.hid (show rowsRes la lb va vb nx = some (setF R0 va (moreL lb la, vb), nx) from by unfold rowsRes; rw [if_neg (fun e => hx8 (E8.out.1 e.2)), if_neg (fun e => by rcases e with e | e | e; exact e.1 (E7.out.2 rfl); exact hv e.2; exact hw e), if_neg (fun e => hx8 (E8.out.1 e)), if_pos (E7.out.2 rfl)])
          have HC := Lib.hid (beRow_any y bu m R0 nx HU.out (by have := HM.out; omega) va HVA.out (.slice A8 n8 c8) (moreL lb la) vb HS8.out HVB.out (fun k r _ h => by cases h))
          clear hv hw
          go_wp2_with fail
          refine HC.out.mono ?_
          rintro e z ⟨rfl, h2, h3⟩
          have H2 := Lib.hid h2
          have H3 := Lib.hid h3
          clear h2 h3
          go_wp2
          go_ret
          unfold RowsEnd
          rw [HE.out]
          exact ⟨⟨rfl, H2.out.mono (by omega)⟩, below_grown HBY.out H3.out⟩
    · have hp7 : (0 : Int) < (n7 : Int) := by omega
      have hd7 : ((n7 : Int) == 0) = false := by simp; omega
      have hx7 : n7 ≠ 0 := by omega
      subst h8
      by_cases hv : vb = 0
      · have HE := Lib.hid (show rowsRes la lb va vb nx = none from by unfold rowsRes; rw [if_neg (fun e => hx7 (E7.out.1 e.1)), if_pos (.inl ⟨fun e => hx7 (E7.out.1 e), hv⟩)])
        subst hv
        go_wp2_with fail
        go_ret
        unfold RowsEnd
        rw [HE.out]
        exact ⟨rfl, below_grown HBY.out (grown_refl _ _)⟩
      · have hvb : (vb == 0) = false := by simp [hv]
        by_cases hw : va = vb
        · have HE := Lib.hid (show rowsRes la lb va vb nx = none from by unfold rowsRes; rw [if_neg (fun e => hx7 (E7.out.1 e.1)), if_pos (.inr (.inr hw))])
          subst hw
          go_wp2_with fail
          go_ret
          unfold RowsEnd
          rw [HE.out]
          exact ⟨rfl, below_grown HBY.out (grown_refl _ _)⟩
        · have hwb : (va == vb) = false := by simp [hw]
          have HE := Lib.hid (show rowsRes la lb va vb nx = some (setF R0 vb (moreL la lb, va), nx) from by unfold rowsRes; rw [if_neg (fun e => hx7 (E7.out.1 e.1)), if_neg (fun e => by rcases e with e | e | e; exact hv e.2; exact e.1 (E8.out.2 rfl); exact hw e), if_pos (E8.out.2 rfl)])
          have HC := Lib.hid (beRow_any y bu m R0 nx HU.out (by have := HM.out; omega) vb HVB.out (.slice A7 n7 c7) (moreL la lb) va HS7.out HVA.out (fun k r _ h => by cases h))
          clear hv hw
          go_wp2_with fail
          refine HC.out.mono ?_
          rintro e z ⟨rfl, h2, h3⟩
          have H2 := Lib.hid h2
          have H3 := Lib.hid h3
          clear h2 h3
          go_wp2
          go_ret
          unfold RowsEnd
          rw [HE.out]
          exact ⟨⟨rfl, H2.out.mono (by omega)⟩, below_grown HBY.out H3.out⟩
    · have hp7 : (0 : Int) < (n7 : Int) := by omega
      have hd7 : ((n7 : Int) == 0) = false := by simp; omega
      have hx7 : n7 ≠ 0 := by omega
      have hp8 : (0 : Int) < (n8 : Int) := by omega
      have hd8 : ((n8 : Int) == 0) = false := by simp; omega
      have hx8 : n8 ≠ 0 := by omega
      by_cases hv : vb = 0
      · have HE := Lib.hid (show rowsRes la lb va vb nx = none from by unfold rowsRes; rw [if_neg (fun e => hx7 (E7.out.1 e.1)), if_pos (.inl ⟨fun e => hx7 (E7.out.1 e), hv⟩)])
        subst hv
        go_wp2_with fail
        go_ret
        unfold RowsEnd
        rw [HE.out]
        exact ⟨rfl, below_grown HBY.out (grown_refl _ _)⟩
      · have hvb : (vb == 0) = false := by simp [hv]
        by_cases hu : va = 0
        · have HE := Lib.hid (show rowsRes la lb va vb nx = none from by unfold rowsRes; rw [if_neg (fun e => hx7 (E7.out.1 e.1)), if_pos (.inr (.inl ⟨fun e => hx8 (E8.out.1 e), hu⟩))])
          subst hu
          go_wp2_with fail
          go_ret
          unfold RowsEnd
          rw [HE.out]
          exact ⟨rfl, below_grown HBY.out (grown_refl _ _)⟩
        · have hub : (va == 0) = false := by simp [hu]
          by_cases hw : va = vb
          · have HE := Lib.hid (show rowsRes la lb va vb nx = none from by unfold rowsRes; rw [if_neg (fun e => hx7 (E7.out.1 e.1)), if_pos (.inr (.inr hw))])
            subst hw
            go_wp2_with fail
            go_ret
            unfold RowsEnd
            rw [HE.out]
            exact ⟨rfl, below_grown HBY.out (grown_refl _ _)⟩
          · have hwb : (va == vb) = false := by simp [hw]
            have HE := Lib.hid (show rowsRes la lb va vb nx = some (thenF (setF R0 va (moreL lb la, nx)) (setF R0 vb (moreL la lb, nx)), nx + 1) from by unfold rowsRes; rw [if_neg (fun e => hx7 (E7.out.1 e.1)), if_neg (fun e => by rcases e with e | e | e; exact hv e.2; exact hu e.2; exact hw e), if_neg (fun e => hx8 (E8.out.1 e)), if_neg (fun e => hx7 (E7.out.1 e))])
            obtain ⟨C1, p1, r1, C2, p2, r2, hlu, hsu⟩ := HU.out
            have u0 := hlu.cell 0
            have u1 := hlu.cell 1
            have u2 := hlu.cell 2
            have f2 := hlu.free 2
            have lu := hlu.lt
            have lx := HX.out.lt
            have hwr : IntKind.i64.wrap (nx + 1) = nx + 1 := IntWalk.i64_in _ (by have := HNX.out; omega)
            have HLU := Lib.hid hlu
            have HSU := Lib.hid hsu
            clear hlu hsu hv hu hw
            go_wp2_with fail
            obtain ⟨Z, hZ⟩ : ∃ Z, Z = ((y.setCell ⟨bu, 2, none⟩ (.int .i64 (nx + 1))).alloc (.cells #[.int .i64 nx] 3)).alloc (.cells #[.func (.func 33) #[] #[.pointer (some ⟨w.heap.size, 0, none⟩), .pointer (some ⟨w.heap.size + 1, 0, none⟩), .pointer (some ⟨g8, 0, none⟩), .pointer (some ⟨y.heap.size, 0, none⟩)], .func (.func 34) #[] #[.pointer (some ⟨w.heap.size, 0, none⟩), .pointer (some ⟨w.heap.size + 1 + 1, 0, none⟩), .pointer (some ⟨g7, 0, none⟩), .pointer (some ⟨y.heap.size, 0, none⟩)]] 70) := ⟨_, rfl⟩
            rw [← hZ]
            have hbu := HBU.out
            have hfz : ∀ i, i ≠ bu → i < y.heap.size → Z.heap[i]? = y.heap[i]? := fun i h1 h2 => by
              rw [hZ, Below.heap_alloc _ _ i (by simp [World.setCell]; omega), Below.heap_alloc _ _ i (by simpa [World.setCell] using h2)]
              exact Below.heap_setCell _ ⟨bu, 2, none⟩ _ i h1
            have nf : Lies Z y.heap.size 3 #[.int .i64 nx] := by rw [hZ]; exact (Lies.new' _ _ _ (by simp [World.setCell])).alloc _
            have ng : Lies Z (y.heap.size + 1) 70 #[.func (.func 33) #[] #[.pointer (some ⟨w.heap.size, 0, none⟩), .pointer (some ⟨w.heap.size + 1, 0, none⟩), .pointer (some ⟨g8, 0, none⟩), .pointer (some ⟨y.heap.size, 0, none⟩)], .func (.func 34) #[] #[.pointer (some ⟨w.heap.size, 0, none⟩), .pointer (some ⟨w.heap.size + 1 + 1, 0, none⟩), .pointer (some ⟨g7, 0, none⟩), .pointer (some ⟨y.heap.size, 0, none⟩)]] := by rw [hZ]; exact Lies.new' _ _ _ (by simp [World.setCell])
            have nu : Lies Z bu 53 #[.slice C1 p1 r1, .slice C2 p2 r2, .int .i64 (nx + 1)] := by rw [hZ]; exact ((HLU.out.set 2 _).alloc _).alloc _
            have hzs : Z.heap.size = y.heap.size + 2 := by rw [hZ]; simp [World.setCell]
            have hgz : y.grownBy Z (some bu) := ⟨by rw [hZ]; rfl, by rw [hZ]; rfl, by rw [hZ]; rfl, by omega, fun k hk hn => hfz k (fun e => hn (by rw [e])) hk⟩
            have huz : UnV Z bu m R0 (nx + 1) := ⟨_, _, _, _, _, _, nu, HSU.out.keepL fun g hg => by
              obtain ⟨h1, h2⟩ := blank_live hg
              rw [blank_at (X := fun b => b = bu) h1, blank_at (X := fun b => b = bu) h1]
              exact hfz g h1 h2⟩
            have cz : ∀ (a : Addr) v, a.block ≠ bu → y.cell? a = some v → Z.cell? a = some v := fun a v h1 h2 => (World.cell?_of_block (hfz a.block h1 (World.block_lt_of_cell? y a h2))).trans h2
            have cX : ∀ (X : World), Z.grownBy X (some bu) → ∀ (a : Addr) v, a.block ≠ bu → Z.cell? a = some v → X.cell? a = some v := fun X hg a v h1 h2 => (World.cell?_of_block (hg.block a.block (World.block_lt_of_cell? Z a h2) (fun e => h1 (Option.some.inj e)))).trans h2
            have strX : ∀ (X : World), Z.grownBy X (some bu) → ∀ v ls, StrR (blank (fun b => b = bu) y) v ls → StrR X v ls := fun X hg v ls h => h.keepL fun g hl => by
              obtain ⟨h1, h2⟩ := blank_live hl
              rw [blank_at (X := fun b => b = bu) h1, hg.block g (by omega) (fun e => h1 (Option.some.inj e))]
              exact hfz g h1 h2
            have hg7 := HG7.out
            have hg8 := HG8.out
            have hws := HBY.out.size
            have oknx : i64ok nx := i64ok_of (by have := HNX.out; omega) (by have := HNX.out; omega)
            have hc1 := (rowsA_any Z w.heap.size (w.heap.size + 1) g8 y.heap.size bu m R0 (nx + 1) va nx (.slice A8 n8 c8) (moreL lb la) (cz _ _ (by show w.heap.size ≠ bu; omega) q0) (cz _ _ (by show w.heap.size + 1 ≠ bu; omega) a1) (cz _ _ (by show g8 ≠ bu; omega) m8) (nf.cell 0) huz (by have := HM.out; omega) HVA.out (strX Z (grown_refl _ _) _ _ HR8.out) oknx (fun k r _ h => by cases h)).mono (R' := fun e X => e = .returned (.int .i64 0) ∧ X.cell? ⟨y.heap.size + 1, 1, none⟩ = some (.func (.func 34) #[] #[.pointer (some ⟨w.heap.size, 0, none⟩), .pointer (some ⟨w.heap.size + 1 + 1, 0, none⟩), .pointer (some ⟨g7, 0, none⟩), .pointer (some ⟨y.heap.size, 0, none⟩)]) ∧ (UnV X bu (m + 2) (setF R0 va (moreL lb la, nx)) (nx + 1) ∧ Z.grownBy X (some bu))) (fun e X h => ⟨h.1, cX X h.2.2 _ _ (by show y.heap.size + 1 ≠ bu; omega) (ng.cell 1), h.2⟩)
            have hc2 : ∀ X, (UnV X bu (m + 2) (setF R0 va (moreL lb la, nx)) (nx + 1) ∧ Z.grownBy X (some bu)) → Calls Tryz.prog 34 #[.pointer (some ⟨w.heap.size, 0, none⟩), .pointer (some ⟨w.heap.size + 1 + 1, 0, none⟩), .pointer (some ⟨g7, 0, none⟩), .pointer (some ⟨y.heap.size, 0, none⟩)] X fun e X2 => e = .returned (.int .i64 0) ∧ (UnV X2 bu (m + 4) (thenF (setF R0 va (moreL lb la, nx)) (setF R0 vb (moreL la lb, nx))) (nx + 1) ∧ Z.grownBy X2 (some bu)) := fun X hX =>
              (rowsB_any X w.heap.size (w.heap.size + 1 + 1) g7 y.heap.size bu (m + 2) (setF R0 va (moreL lb la, nx)) (nx + 1) vb nx (.slice A7 n7 c7) (moreL la lb) (cX X hX.2 _ _ (by show w.heap.size ≠ bu; omega) (cz _ _ (by show w.heap.size ≠ bu; omega) q0)) (cX X hX.2 _ _ (by show w.heap.size + 1 + 1 ≠ bu; omega) (cz _ _ (by show w.heap.size + 1 + 1 ≠ bu; omega) b1)) (cX X hX.2 _ _ (by show g7 ≠ bu; omega) (cz _ _ (by show g7 ≠ bu; omega) m7)) (cX X hX.2 _ _ (by show y.heap.size ≠ bu; omega) (nf.cell 0)) hX.1 (by have := HM.out; omega) HVB.out (strX X hX.2 _ _ HR7.out) oknx (fun k r _ h => by
                unfold setF at h
                split at h
                · injection h with h; rw [← h]; exact .inr (fun e => HNB.out e.symm)
                · cases h)).mono fun e X2 h => ⟨h.1, h.2.1, grown_trans hX.2 h.2.2⟩
            have HO := Lib.hid (inOrder_any Z (y.heap.size + 1) _ _ (fun X => UnV X bu (m + 2) (setF R0 va (moreL lb la, nx)) (nx + 1) ∧ Z.grownBy X (some bu)) (fun X2 => UnV X2 bu (m + 4) (thenF (setF R0 va (moreL lb la, nx)) (setF R0 vb (moreL la lb, nx))) (nx + 1) ∧ Z.grownBy X2 (some bu)) (ng.cell 0) (ng.cell 1) hc1 hc2)
            have HGZ := Lib.hid hgz
            clear hc1 hc2 strX cX cz huz hgz hzs nu ng nf hfz hZ
            refine HO.out.mono ?_
            rintro e z ⟨rfl, h2, h3⟩
            have H2 := Lib.hid h2
            have H3 := Lib.hid h3
            clear h2 h3
            go_wp2
            go_ret
            unfold RowsEnd
            rw [HE.out]
            exact ⟨⟨rfl, H2.out⟩, below_grown HBY.out (grown_trans HGZ.out H3.out)⟩
end Go.Proofs.YtpbhndmfmnfeoaaGreat
