/- The contract of Lex. -/
import Derived.Test.YtgffhjcnfjgpnaaDoorLexMath
import Derived.Laws.IdiomStrings
namespace Go.Proofs.YtgffhjcnfjgpnaaDoor
open Go.RowKit

/-- A slice of bytes that reads as a list. -/
def Bs (w : World) (v : Value) (l : List UInt8) : Prop :=
  ∃ A c, v = .slice A l.length c ∧ l.length ≤ c ∧ (0 < l.length → ∃ a : Addr, A = some a ∧ ∀ j (h : j < l.length), w.cell? (a.add j) = some (.int .u8 (l[j].toNat : Int)))
theorem conv_bs {w : World} {v : Value} {l : List UInt8} (h : Bs w v l) : (convert 22 9 v).run Tryd.prog w = .ok (.string (ba l)) w := by
  obtain ⟨A, c, rfl, _, hc⟩ := h
  rcases Nat.eq_zero_or_pos l.length with h0 | h0
  · have : l = [] := List.eq_nil_of_length_eq_zero h0
    subst this
    rw [run_convert_bytes_string w 22 9 5 A _ c Tryd.underlying22 Tryd.underlying5 Tryd.underlying9]
    cases A <;> simp [Conv.bytesToString, loadCells] <;> rfl
  · obtain ⟨a, rfl, hb⟩ := hc h0
    exact run_convert_bytes_back w 22 9 5 a c l Tryd.underlying22 Tryd.underlying5 Tryd.underlying9 hb

def tkC (x : Lx.Tk) : List Value := [.int .i64 (x.k : Int), .string (ba x.t), .int .i64 (x.n : Int), .int .i64 (x.pos : Int)]
def wordsC (ws : List Lx.Tk) : List Value := ws.flatMap tkC
theorem Tryd.info31 : (Tryd.prog.info? 31).map (fun i => (i.zero, i.size, i.bytes)) = some (some (.agg #[.int .i64 0, .string ⟨#[]⟩, .int .i64 0, .int .i64 0]), 4, 40) := by kernel_rfl

/-- What the world must hold: the signs, and an error for numbers that are too great. -/
def Good (w : World) : Prop := (∃ t fr, w.heap[0]? = some (.cells sgnD t fr)) ∧ ∃ te pe, w.cell? ⟨2, 0, none⟩ = some (.iface te pe)
theorem Good.later {w w' : World} (h : Good w) (hb : Below w.heap.size w w') : Good w' := by
  obtain ⟨⟨t, fr, h0⟩, te, pe, h2⟩ := h
  exact ⟨⟨t, fr, (hb.block 0 (lt_of_block h0)).trans h0⟩, te, pe, (hb.cell (p := ⟨2, 0, none⟩) (World.block_lt_of_cell? w _ h2)).trans h2⟩

def LexEnd (l : List UInt8) (w : World) (e : Ending) (w' : World) : Prop :=
  ∃ v, e = .returned (.tuple #[v, .int .i64 ((lexR l).2.1 : Int), .int .i64 ((lexR l).2.2 : Int)]) ∧ w'.ownsRow w.heap.size 31 4 v (lexR l).1.length (wordsC (lexR l).1) ∧ Below w.heap.size w w'
def LexRel (l : List UInt8) (w : World) (v i : Value) (wr : World) : Prop :=
  ∃ (a : Nat) (ws : List Lx.Tk) (f : Nat), a ≤ l.length ∧ i = .int .i64 a ∧ l.length < f + a ∧ ws.length ≤ a ∧ lexAll l = (ws ++ (lexP l f a).1, (lexP l f a).2) ∧ wr.ownsRow w.heap.size 31 4 v ws.length (wordsC ws) ∧ Below w.heap.size w wr

theorem sk_bs (l : List UInt8) (a : Nat) : a + Lx.skipN false ((ba l).data.toList.drop a) = a + sk (l.drop a) := by rw [ba_list]; rfl
theorem ba_size (l : List UInt8) : (ba l).size = l.length := by simp [ba, ByteArray.size]

theorem first_at (l : List UInt8) (a : Nat) (w : World) (B g cap : Nat) (hT : Tab w B (.slice (some ⟨g, 0, none⟩) 18 cap) 18) (hl : l.length ≤ 140737488351232)
    (te : TypeId) (pe : Value) (hv : w.cell? ⟨2, 0, none⟩ = some (.iface te pe)) :
    Calls Tryd.prog 16 #[.slice (some ⟨g, 0, none⟩) 18 cap, .string ((ba l).extract a (ba l).size)] w fun e w' => e = .returned (resV (firstF (l.drop a))) ∧ Below w.heap.size w w' := by
  have h := first_any ((ba l).extract a (ba l).size) w B g cap hT (by have := ba_size l; simp; omega) te pe hv
  have e2 : ((ba l).extract a (ba l).size).data.toList = l.drop a := by
    rw [Lib.extract_data, ba_list, ba_size]; exact List.take_of_length_le (by simp)
  rw [e2] at h
  exact h
theorem own_mono {w : World} {B B' : Nat} {e : TypeId} {size n : Nat} {v : Value} {xs : List Value} (h : w.ownsRow B e size v n xs) (hB : B' ≤ B) : w.ownsRow B' e size v n xs := by
  refine ⟨h.1, ?_⟩
  rcases h.2 with h0 | ⟨g, cap, cur, h1, h2, h3⟩
  · exact .inl h0
  · exact .inr ⟨g, cap, cur, h1, by omega, h3⟩
theorem own_later {w w' : World} {B : Nat} {e : TypeId} {size n : Nat} {v : Value} {xs : List Value} (h : w.ownsRow B e size v n xs) (hb : Below w.heap.size w w') : w'.ownsRow B e size v n xs := by
  refine ⟨h.1, ?_⟩
  rcases h.2 with h0 | ⟨g, cap, cur, h1, h2, h3, h4⟩
  · exact .inl h0
  · exact .inr ⟨g, cap, cur, h1, h2, (hb.block g (lt_of_block h3)).trans h3, h4⟩
theorem skip_at (l : List UInt8) (a : Nat) (i : Int) (w : World) (hl : l.length ≤ 140737488351232) (ha : a ≤ l.length) (hi : i = (a : Int)) :
    Calls Tryd.prog 15 #[.string (ba l), .int .i64 i] w fun e w' => e = .returned (.int .i64 ((a + sk (l.drop a) : Nat) : Int)) ∧ w = w' := by
  subst hi
  have h := skip_any (ba l) a w (by rw [ba_size]; exact hl) (by rw [ba_size]; exact ha)
  unfold SkipEnd at h
  rw [sk_bs] at h
  exact h
theorem wordsC_snoc (ws : List Lx.Tk) (x : Lx.Tk) : wordsC (ws ++ [x]) = wordsC ws ++ tkC x := by simp [wordsC]
theorem lexP_end (l : List UInt8) (f a : Nat) (h : l.length ≤ a) : lexP l f a = ([], none) := by
  cases f with
  | zero => rfl
  | succ f => rw [lexP, if_pos h]
theorem lexP_none (l : List UInt8) (f a : Nat) (h : a < l.length) (hf : l.length < f + a) (h1 : firstF (l.drop a) = none) : lexP l f a = ([], some a) := by
  cases f with
  | zero => omega
  | succ f => rw [lexP, if_neg (by omega), h1]
theorem lexP_some (l : List UInt8) (f a : Nat) (h : a < l.length) (hf : l.length < f + a) {x : Lx.Tk} {m : Nat} (h1 : firstF (l.drop a) = some (x, m)) :
    lexP l f a = (atPos x a :: (lexP l (f - 1) (a + m + sk (l.drop (a + m)))).1, (lexP l (f - 1) (a + m + sk (l.drop (a + m)))).2) := by
  cases f with
  | zero => omega
  | succ f => rw [lexP, if_neg (by omega), h1]; rfl
theorem new_four (w : World) (t : TypeId) (a b c d : Value) {N : Nat} (hN : w.heap.size = N) : ∀ j u, [a, b, c, d][j]? = some u → (w.alloc (.cells #[a, b, c, d] t)).cell? ((⟨N, 0, none⟩ : Addr).add j) = some u := by
  intro j u hj
  have h := Lies.new' w t #[a, b, c, d] hN
  match j, hj with
  | 0, hj => have := h.cell 0; simp at hj; subst hj; simpa [Addr.add] using this
  | 1, hj => have := h.cell 1; simp at hj; subst hj; simpa [Addr.add] using this
  | 2, hj => have := h.cell 2; simp at hj; subst hj; simpa [Addr.add] using this
  | 3, hj => have := h.cell 3; simp at hj; subst hj; simpa [Addr.add] using this

set_option maxRecDepth 100000 in
set_option maxHeartbeats 4000000 in
theorem lex_any (v : Value) (l : List UInt8) (w : World) (hb : Bs w v l) (hG : Good w) (hl : l.length ≤ 140737488351232) :
    Calls Tryd.prog 11 #[v] w (LexEnd l w) := by
  have hcv := conv_bs hb
  obtain ⟨A, c, rfl, hlc, hcell⟩ := hb
  clear hcell
  by_cases hbig : 1048576 < l.length
  · clear hcv
    go_enter Tryd.func11, Tryd.ntmps11
    go_wp2
    go_ret3
    exact ⟨_, by simp only [lexR, if_pos hbig]; rfl, by simp only [lexR, if_pos hbig]; exact World.ownsRow_nil _ _ _ _, Below.refl _ _⟩
  have hsize := ba_size l
  have HS := Lib.hid hsize
  clear hsize
  have hsz2 : (ba l).size ≤ 140737488351232 := by rw [HS.out]; exact hl
  obtain ⟨⟨t, fr, hg0⟩, te, pe, hg2⟩ := hG
  obtain ⟨i0, hi, hz0, hz1, hz2⟩ := info_parts Tryd.info31
  go_enter Tryd.func11, Tryd.ntmps11
  go_wp2_with (first | (go_at_call 14; refine (kinds_any _ t fr hg0).mono ?_; rintro e w1 ⟨vt, rfl, hT, hW⟩) | (go_at_call 15; go_loud (refine (skip_any (ba l) 0 _ hsz2 (Nat.zero_le _)).mono ?_); rintro e w2 ⟨rfl, rfl⟩; rw [sk_bs]))
  obtain ⟨g, cap, rfl, hcap⟩ := hT.form (by decide)
  have hg2' := (hW.cell (p := ⟨2, 0, none⟩) (World.block_lt_of_cell? w _ hg2)).trans hg2
  clear hg2 hg0
  go_loopw [7, 8] (fun v i wr => LexRel l w1 v i wr) (fun _ i _ => l.length - (intOf i).toNat)
  case atStart => exact ⟨sk l, [], l.length + 1, by have := sk_le l 0 (Nat.zero_le _); simpa using this, rfl, by omega, Nat.zero_le _, rfl, World.ownsRow_nil _ _ _ _, Below.refl _ _⟩
  case round =>
    rename_i wr
    obtain ⟨a, ws, f, ha, rfl, hf, hws, hall, hown, hnx⟩ := hrel
    have HA := Lib.hid hall
    clear hall
    have hsz := hnx.size
    by_cases hlt : a < l.length
    · have hlt2 : a < (ba l).size := by rw [HS.out]; exact hlt
      have hT2 := hT.later hnx
      have hv2 := (hnx.cell (p := ⟨2, 0, none⟩) (World.block_lt_of_cell? w1 _ hg2')).trans hg2'
      rcases res_cases (firstF (l.drop a)) with ho | ⟨x, m, ho⟩
      · have HO := Lib.hid ho
        clear ho
        go_wp2_with (go_at_call 16; refine (first_at l a _ _ g cap hT2 hl te pe hv2).mono ?_; rintro e w' ⟨rfl, hw⟩; rw [HO.out]; simp only [resV, zeroV])
        go_ret3
        have hL := HA.out
        rw [lexP_none l f a hlt hf HO.out] at hL
        exact ⟨_, by simp only [lexR, if_neg hbig, hL]; rfl, by simp only [lexR, if_neg hbig, hL]; exact World.ownsRow_nil _ _ _ _, ((hW.trans (hnx.mono hW.size)).trans (hw.mono (by have := hW.size; omega))).alloc (by have := hW.size; have := hw.size; omega) _⟩
      · have HO := Lib.hid ho
        have hm := firstF_bound ho
        simp only [List.length_drop] at hm
        obtain ⟨hm0, hm1⟩ := hm
        have hm2 : a + m ≤ l.length := by omega
        have hsk := sk_le l (a + m) hm2
        clear ho hm1
        go_wp2_with (first | (go_at_call 16; refine (first_at l a _ _ g cap hT2 hl te pe hv2).mono ?_; rintro e w' ⟨rfl, hw⟩; rw [HO.out]; simp only [resV, tkV]; have hsz' := hw.size) | (at_builtin; go_loud (refine wpList_append_own _ rfl (.tmp 38) (.tmp 40) 24 rfl w1.heap.size 31 i0 (.agg #[.int .i64 0, .string ⟨#[]⟩, .int .i64 0, .int .i64 0]) 4 40 Tryd.underlying24 hi hz0 hz1 hz2 rfl (by decide) _ _ _ rfl (((own_later hown hw).alloc _).alloc _) ⟨w'.heap.size + 1, 0, none⟩ 1 1 (tkC (atPos x a)) rfl rfl ?c1 ?c2 ?c3 ?c4 ?c5 ?_)))
        case c1 => exact new_four _ _ _ _ _ _ (by simp)
        case c2 =>
          intro u hu
          simp only [tkC, List.mem_cons, List.not_mem_nil, or_false] at hu
          rcases hu with rfl | rfl | rfl | rfl <;> rfl
        case c3 => unfold maxLen; omega
        case c4 => omega
        case c5 => simp <;> omega
        intro v' w2 hown2 hgrow _
        have hN := (((hnx.trans (hw.mono hsz)).alloc (by omega) _).alloc (by simp <;> omega) _).grown hgrow (by simp <;> omega) (fun g hg => (hown.lt g hg).1)
        have hown3 : w2.ownsRow w1.heap.size 31 4 v' (ws ++ [atPos x a]).length (wordsC (ws ++ [atPos x a])) := by
          rw [wordsC_snoc, List.length_append]; exact hown2
        clear hown2 hgrow hown
        go_wp2_with (go_at_call 15; refine (skip_at l (a + m) _ _ hl hm2 (by omega)).mono ?_; rintro e w3 ⟨rfl, rfl⟩)
        go_roundw
        case rel =>
          have hL := HA.out
          rw [lexP_some l f a hlt hf HO.out] at hL
          exact ⟨_, ws ++ [atPos x a], f - 1, hsk, rfl, by omega, by simp; omega, by rw [hL]; simp, hown3, hN⟩
        case measure => simp [intOf] <;> omega
    · have hlt2 : ¬ a < (ba l).size := by rw [HS.out]; exact hlt
      go_wp2
      go_ret3
      have hL := HA.out
      rw [lexP_end l f a (by omega)] at hL
      simp only [List.append_nil] at hL
      exact ⟨_, by simp only [lexR, if_neg hbig, hL]; rfl, by simp only [lexR, if_neg hbig, hL]; exact own_mono hown hW.size, hW.trans (hnx.mono hW.size)⟩
end Go.Proofs.YtgffhjcnfjgpnaaDoor
