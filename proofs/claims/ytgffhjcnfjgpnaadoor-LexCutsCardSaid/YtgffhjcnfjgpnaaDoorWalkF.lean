/- Contracts of package lex, sixth part: the first word of a text. -/
import Derived.Test.YtgffhjcnfjgpnaaDoorWalkE
namespace Go.Proofs.YtgffhjcnfjgpnaaDoor
open Go.RowKit

def headIn (d : List UInt8) : List UInt8 → Bool
  | c :: _ => Lx.inB d c
  | [] => false
def begF : Nat → List UInt8 → Bool
  | 0, l => headIn Lx.digs l
  | 1, l => headIn Lx.lets l
  | k + 2, l => Lx.preB (sgn k) l
def readF : Nat → List UInt8 → Option (Lx.Tk × Nat)
  | 0, l => Lx.numF l (digN l)
  | 1, l => Lx.nameF l (insN l)
  | k + 2, _ => some (⟨5, sgn k, 0, 0⟩, (sgn k).length)
def firstF (l : List UInt8) : Option (Lx.Tk × Nat) := ((List.range 18).find? fun k => begF k l).bind fun k => readF k l

theorem Tab.later {w w' : World} {B n : Nat} {v : Value} (h : Tab w B v n) (hb : Below w.heap.size w w') : Tab w' B v n := by
  obtain ⟨rows, hl, ho, hr⟩ := h
  refine ⟨rows, hl, ⟨ho.1, ?_⟩, fun k r hk => (hr k r hk).keep fun g t cs _ hL => hL.later hb⟩
  rcases ho.2 with h0 | ⟨g, cap, cur, h1, h2, h3, h4⟩
  · exact .inl h0
  · exact .inr ⟨g, cap, cur, h1, h2, (hb.block g (lt_of_block h3)).trans h3, h4⟩
theorem flat_at (rows : List (Value × Value)) : ∀ k r, rows[k]? = some r → (rows.flatMap fun r => [r.1, r.2])[2 * k]? = some r.1 ∧ (rows.flatMap fun r => [r.1, r.2])[2 * k + 1]? = some r.2 := by
  induction rows with
  | nil => intro k r h; simp at h
  | cons a l ih =>
    intro k r h
    match k, h with
    | 0, h => simp at h; subst h; simp
    | k + 1, h =>
      have := ih k r (by simpa using h)
      have e1 : 2 * (k + 1) = 2 * k + 2 := by omega
      have e2 : 2 * (k + 1) + 1 = 2 * k + 1 + 2 := by omega
      rw [e2, e1]
      simpa using this
theorem Tab.form {w : World} {B n : Nat} {v : Value} (h : Tab w B v n) (hn : 0 < n) : ∃ g cap, v = .slice (some ⟨g, 0, none⟩) n cap ∧ n ≤ cap := by
  obtain ⟨rows, hl, ho, hr⟩ := h
  rcases ho.2 with ⟨_, h0⟩ | ⟨g, cap, cur, h1, h2, h3, h4, _⟩
  · omega
  · exact ⟨g, cap, h1, h4⟩
theorem Tab.row {w : World} {B n g cap : Nat} (h : Tab w B (.slice (some ⟨g, 0, none⟩) n cap) n) {k : Nat} (hk : k < n) : ∃ F G, w.cell? ⟨g, k * 2, none⟩ = some F ∧ w.cell? ⟨g, k * 2 + 1, none⟩ = some G ∧ RowAt w k F G := by
  obtain ⟨rows, hl, ho, hr⟩ := h
  have hk' : rows[k]? = some rows[k] := List.getElem?_eq_getElem (by omega)
  obtain ⟨h1, h2⟩ := flat_at rows k _ hk'
  rw [show k * 2 = 2 * k by omega]
  exact ⟨_, _, (ho.cellAt (2 * k) (by omega)).trans h1, (ho.cellAt (2 * k + 1) (by omega)).trans h2, hr k _ hk'⟩

theorem headIn_s (s : ByteArray) (d : List UInt8) (h : 0 < s.size) : headIn d s.data.toList = Lx.inB d s[0] := by
  have e := drop_one s 0 h
  simp only [List.drop_zero] at e
  rw [e]; rfl
theorem headIn_0 (s : ByteArray) (d : List UInt8) (h : ¬ 0 < s.size) : headIn d s.data.toList = false := by
  have e : s.data.toList = [] := List.eq_nil_of_length_eq_zero (by have h2 : s.data.toList.length = s.size := by simp
                                                                   omega)
  rw [e]; rfl
theorem ahead1_any (s d : ByteArray) (p q : Addr) (w : World) (hs : s.size ≤ 140737488351232) (hd : d.size ≤ 1000) (hq : w.cell? q = some (fun30 p)) (hp : w.cell? p = some (.string d)) :
    Calls Tryd.prog 31 #[.string s, .pointer (some q)] w fun e w' => e = .returned (.bool (headIn d.data.toList s.data.toList)) ∧ ∃ n, w' = w.drewN n := by
  by_cases h : 0 < s.size
  · rw [headIn_s s _ h]; exact ahead1_some s d p q w hs hd hq hp h
  · rw [headIn_0 s _ h]; exact ahead1_none s q w (by omega)
theorem ahead_dig (s : ByteArray) (p q : Addr) (w : World) (hs : s.size ≤ 140737488351232) (hq : w.cell? q = some (fun30 p)) (hp : w.cell? p = some (.string digD)) :
    Calls Tryd.prog 31 #[.string s, .pointer (some q)] w fun e w' => e = .returned (.bool (begF 0 s.data.toList)) ∧ ∃ n, w' = w.drewN n := ahead1_any s digD p q w hs (by decide) hq hp
theorem ahead_let (s : ByteArray) (p q : Addr) (w : World) (hs : s.size ≤ 140737488351232) (hq : w.cell? q = some (fun30 p)) (hp : w.cell? p = some (.string letD)) :
    Calls Tryd.prog 31 #[.string s, .pointer (some q)] w fun e w' => e = .returned (.bool (begF 1 s.data.toList)) ∧ ∃ n, w' = w.drewN n := ahead1_any s letD p q w hs (by decide) hq hp
theorem sgn_size (k : Nat) : (ba (sgn k)).size ≤ 1000 := by
  have h : ∀ l ∈ sgnL, l.length ≤ 2 := by decide
  have e : (ba (sgn k)).size = (sgn k).length := by simp [ba, ByteArray.size]
  rw [e]
  unfold sgn
  rw [List.getD_eq_getElem?_getD]
  rcases hk : sgnL[k]? with _ | l
  · simp
  · have := h l (List.mem_of_getElem? hk); simp; omega
theorem ba_list (l : List UInt8) : (ba l).data.toList = l := by simp [ba]
theorem begin_sgn (s : ByteArray) (k N : Nat) (w : World) (hs : s.size ≤ 140737488351232) (h : Lies w N 9 #[.string (ba (sgn k))]) :
    Calls Tryd.prog 35 #[.string s, .pointer (some ⟨N, 0, none⟩)] w fun e w' => e = .returned (.bool (begF (k + 2) s.data.toList)) ∧ w = w' := by
  have := signKind1_any s (ba (sgn k)) ⟨N, 0, none⟩ w hs (sgn_size k) (h.cell 0)
  rw [ba_list] at this
  exact this
theorem read_sgn (s : ByteArray) (k N M : Nat) (w : World) (h : Lies w N 9 #[.string (ba (sgn k))]) (h2 : Lies w M 31 #[.int .i64 5, .string (ba (sgn k)), .int .i64 0, .int .i64 0]) :
    Calls Tryd.prog 36 #[.string s, .pointer (some ⟨M, 0, none⟩), .pointer (some ⟨N, 0, none⟩)] w fun e w' => e = .returned (resV (some (⟨5, sgn k, 0, 0⟩, (sgn k).length))) ∧ Below w.heap.size w w' := by
  have := signKind2_any s (ba (sgn k)) M ⟨N, 0, none⟩ w (sgn_size k) (h.cell 0) 5 0 0 (ba (sgn k)) (h2.cell 0) (h2.cell 1) (h2.cell 2) (h2.cell 3)
  have e : (ba (sgn k)).size = (sgn k).length := by simp [ba, ByteArray.size]
  rw [e] at this
  exact this
theorem span_head0 (s : ByteArray) (h : begF 0 s.data.toList = true) : 0 < digN s.data.toList := by
  by_cases h0 : 0 < s.size
  · exact spanN_pos _ s h0 ((headIn_s s _ h0).symm.trans h)
  · rw [begF, headIn_0 s _ h0] at h; cases h
theorem lets_inss (c : UInt8) (h : Lx.inB Lx.lets c = true) : Lx.inB Lx.inss c = true := by
  simp only [Lx.inB, Lx.lets, Lx.inss, Bool.or_eq_true, Bool.or_false] at h ⊢
  rcases h with h | h | h
  · exact .inl h
  · exact .inr (.inl h)
  · exact .inr (.inr (.inl h))
theorem span_head1 (s : ByteArray) (h : begF 1 s.data.toList = true) : 0 < insN s.data.toList := by
  by_cases h0 : 0 < s.size
  · exact spanN_pos _ s h0 (lets_inss _ ((headIn_s s _ h0).symm.trans h))
  · rw [begF, headIn_0 s _ h0] at h; cases h

theorem tok_cells {w : World} {g : Nat} {a b c d : Value} {t : TypeId} (h : Lies w g t #[a, b, c, d]) : w.cell? ⟨g, 0, none⟩ = some a ∧ w.cell? ⟨g, 1, none⟩ = some b ∧ w.cell? ⟨g, 2, none⟩ = some c ∧ w.cell? ⟨g, 3, none⟩ = some d ∧ ∀ i, w.frozen? ⟨g, i, none⟩ = false :=
  ⟨h.cell 0, h.cell 1, h.cell 2, h.cell 3, h.free⟩

theorem Lies.drewN {w : World} {g : Nat} {t : TypeId} {cs : Array Value} (h : Lies w g t cs) (n : Nat) : Lies (w.drewN n) g t cs := h
theorem cell_drewN {w : World} {a : Addr} {v : Value} (h : w.cell? a = some v) (n : Nat) : (w.drewN n).cell? a = some v := h
theorem bdrewN {B : Nat} {a w : World} (h : Below B a w) (n : Nat) : Below B a (w.drewN n) := ⟨h.os, h.tape, h.output, h.size, h.block⟩
theorem firstF_hit (l : List UInt8) (k : Nat) (hk : k < 18) (hno : ∀ j, j < k → begF j l = false) (hb : begF k l = true) : firstF l = readF k l := by
  unfold firstF
  have : (List.range 18).find? (fun k => begF k l) = some k := by
    rw [List.find?_range_eq_some]
    exact ⟨hb, by simpa using hk, fun j hj => by simp [hno j hj]⟩
  rw [this]; rfl
theorem firstF_none (l : List UInt8) (hno : ∀ j, j < 18 → begF j l = false) : firstF l = none := by
  unfold firstF
  have : (List.range 18).find? (fun k => begF k l) = none := by
    rw [List.find?_range_eq_none]
    intro j hj; simp [hno j hj]
  rw [this]; rfl

def FirstEnd (l : List UInt8) (w : World) (e : Ending) (w' : World) : Prop := e = .returned (resV (firstF l)) ∧ Below w.heap.size w w'
def FirstRel (l : List UInt8) (w : World) (i : Value) (wr : World) : Prop := ∃ k : Nat, k ≤ 18 ∧ i = .int .i64 k ∧ (∀ j, j < k → begF j l = false) ∧ Lies wr w.heap.size 31 #[.int .i64 0, .string ⟨#[]⟩, .int .i64 0, .int .i64 0] ∧ Below w.heap.size w wr
set_option maxRecDepth 100000 in
set_option maxHeartbeats 4000000 in
theorem first_any (s : ByteArray) (w : World) (B g cap : Nat) (hT : Tab w B (.slice (some ⟨g, 0, none⟩) 18 cap) 18) (hl : s.size ≤ 140737488351232)
    (te : TypeId) (pe : Value) (hv : w.cell? ⟨2, 0, none⟩ = some (.iface te pe)) :
    Calls Tryd.prog 16 #[.slice (some ⟨g, 0, none⟩) 18 cap, .string s] w (FirstEnd s.data.toList w) := by
  go_enter Tryd.func16, Tryd.ntmps16
  go_wp2
  go_loopw [11] (fun i wr => FirstRel s.data.toList w i wr) (fun i _ => 18 - (intOf i).toNat)
  case atStart => exact ⟨0, by omega, rfl, fun j hj => absurd hj (by omega), Lies.new _ _ _, (Below.refl _ _).alloc (by simp) _⟩
  case round =>
    rename_i wr
    obtain ⟨k, hk, rfl, hno, hlie, hnx⟩ := hrel
    have HN := Lib.hid hno
    clear hno
    by_cases hlt : k < 18
    · obtain ⟨F, G, hF, hG, hrow⟩ := (hT.later hnx).row hlt
      have hv1 := (hnx.cell (p := ⟨2, 0, none⟩) (World.block_lt_of_cell? w _ hv)).trans hv
      have hsz := hnx.size
      have hlt1 := hlie.lt
      rcases hbk : begF k s.data.toList with _ | _
      · have HB := Lib.hid hbk
        clear hbk
        have HR : ∀ j, j < k + 1 → begF j s.data.toList = false := fun j hj => by
          rcases Nat.lt_or_ge j k with h | h
          · exact HN.out j h
          · obtain rfl : j = k := by omega
            exact HB.out
        have HR2 := Lib.hid HR
        clear HR
        rcases k with _ | _ | k
        · obtain ⟨a, b, c, d, e1, h1, h2, e2, h3, h4⟩ := hrow
          subst e1 e2
          simp only [Nat.zero_mul, Nat.zero_add] at hF hG
          go_wp2_with (go_at_call 31; refine (ahead_dig s ⟨b, 0, none⟩ _ _ hl ((h1.alloc _).cell 0) ((h2.alloc _).cell 0)).mono ?_; rintro e w' ⟨rfl, n, rfl⟩; rw [HB.out])
          go_roundw
          case rel => exact ⟨1, by omega, by go_num, HR2.out, (hlie.alloc _), bdrewN (hnx.alloc (by omega) _) _⟩
          case measure => simp [intOf] <;> omega
        · obtain ⟨a, b, c, d, e1, h1, h2, e2, h3, h4⟩ := hrow
          subst e1 e2
          simp only [Nat.zero_add, Nat.one_mul] at hF hG
          go_wp2_with (go_at_call 31; refine (ahead_let s ⟨b, 0, none⟩ _ _ hl ((h1.alloc _).cell 0) ((h2.alloc _).cell 0)).mono ?_; rintro e w' ⟨rfl, n, rfl⟩; rw [HB.out])
          go_roundw
          case rel => exact ⟨2, by omega, by go_num, HR2.out, (hlie.alloc _), bdrewN (hnx.alloc (by omega) _) _⟩
          case measure => simp [intOf] <;> omega
        · obtain ⟨N, e1, e2, h1, h2⟩ := hrow
          subst e1 e2
          unfold signF1 at hF
          unfold signF2 at hG
          go_wp2_with (go_at_call 35; refine (begin_sgn s k N _ hl (h1.alloc _)).mono ?_; rintro e w' ⟨rfl, rfl⟩; rw [HB.out])
          go_roundw
          case rel => exact ⟨k + 1 + 1 + 1, by omega, by go_num, HR2.out, (hlie.alloc _), hnx.alloc (by omega) _⟩
          case measure => simp [intOf] <;> omega
      · have HB := Lib.hid hbk
        clear hbk
        have HF := Lib.hid (firstF_hit _ k hlt HN.out HB.out)
        rcases k with _ | _ | k
        · obtain ⟨a, b, c, d, e1, h1, h2, e2, h3, h4⟩ := hrow
          subst e1 e2
          simp only [Nat.zero_mul, Nat.zero_add] at hF hG
          have hpos := span_head0 s HB.out
          rcases res_cases (Lx.numF s.data.toList (digN s.data.toList)) with ho | ⟨x, m, ho⟩
          all_goals
            have HO := Lib.hid ho
            clear ho
            go_wp2_with (first | (go_at_call 31; refine (ahead_dig s ⟨b, 0, none⟩ _ _ hl ((h1.alloc _).cell 0) ((h2.alloc _).cell 0)).mono ?_; rintro e w' ⟨rfl, n, rfl⟩; rw [HB.out]) | (go_at_call 22; refine (kinds1_any s ⟨d, 0, none⟩ _ _ hl hpos (((h3.alloc _).drewN _).cell 0) (((h4.alloc _).drewN _).cell 0) te pe (cell_drewN (cell_alloc _ _ hv1) _)).mono ?_; rintro e w' ⟨rfl, hw⟩; rw [HO.out]; simp only [resV, tkV, zeroV]; obtain ⟨c0, c1, c2, c3, hf⟩ := tok_cells (Lies.later ((hlie.alloc _).drewN _) hw)))
            refine bodyPost_ret (v := resV (Lx.numF s.data.toList (digN s.data.toList))) ?_ rfl ⟨by rw [HF.out]; rfl, ?_⟩
            · rw [HO.out]; simp [results, Tryd.results16, go_sem, c0, c1, c2, c3, tkV, resV, zeroV]
            · exact below_set4 ((bdrewN (hnx.alloc (by omega) _) _).trans (hw.mono (by simp <;> omega))) (Nat.le_refl _)
        · obtain ⟨a, b, c, d, e1, h1, h2, e2, h3, h4⟩ := hrow
          subst e1 e2
          simp only [Nat.zero_add, Nat.one_mul] at hF hG
          have hpos := span_head1 s HB.out
          rcases res_cases (Lx.nameF s.data.toList (insN s.data.toList)) with ho | ⟨x, m, ho⟩
          all_goals
            have HO := Lib.hid ho
            clear ho
            go_wp2_with (first | (go_at_call 31; refine (ahead_let s ⟨b, 0, none⟩ _ _ hl ((h1.alloc _).cell 0) ((h2.alloc _).cell 0)).mono ?_; rintro e w' ⟨rfl, n, rfl⟩; rw [HB.out]) | (go_at_call 25; refine (kinds2_any s ⟨d, 0, none⟩ _ _ hl hpos (((h3.alloc _).drewN _).cell 0) (((h4.alloc _).drewN _).cell 0)).mono ?_; rintro e w' ⟨rfl, hw⟩; rw [HO.out]; simp only [resV, tkV, zeroV]; obtain ⟨c0, c1, c2, c3, hf⟩ := tok_cells (Lies.later ((hlie.alloc _).drewN _) hw)))
            refine bodyPost_ret (v := resV (Lx.nameF s.data.toList (insN s.data.toList))) ?_ rfl ⟨by rw [HF.out]; rfl, ?_⟩
            · rw [HO.out]; simp [results, Tryd.results16, go_sem, c0, c1, c2, c3, tkV, resV, zeroV]
            · exact below_set4 ((bdrewN (hnx.alloc (by omega) _) _).trans (hw.mono (by simp <;> omega))) (Nat.le_refl _)
        · obtain ⟨N, e1, e2, h1, h2⟩ := hrow
          subst e1 e2
          unfold signF1 at hF
          unfold signF2 at hG
          go_wp2_with (first | (go_at_call 35; refine (begin_sgn s k N _ hl (h1.alloc _)).mono ?_; rintro e w' ⟨rfl, rfl⟩; rw [HB.out]) | (go_at_call 36; refine (read_sgn s k N (N + 1 + 1) _ (h1.alloc _) (h2.alloc _)).mono ?_; rintro e w' ⟨rfl, hw⟩; simp only [resV, tkV]; obtain ⟨c0, c1, c2, c3, hf⟩ := tok_cells (Lies.later (hlie.alloc _) hw)))
          refine bodyPost_ret (v := resV (some (⟨5, sgn k, 0, 0⟩, (sgn k).length))) ?_ rfl ⟨by rw [HF.out]; rfl, ?_⟩
          · simp [results, Tryd.results16, go_sem, c0, c1, c2, c3, tkV, resV]
          · exact below_set4 ((hnx.alloc (by omega) _).trans (hw.mono (by simp <;> omega))) (Nat.le_refl _)
    · have h18 : k = 18 := by omega
      subst h18
      obtain ⟨c0, c1, c2, c3, hf⟩ := tok_cells hlie
      go_wp2
      refine bodyPost_ret (v := resV none) ?_ rfl ⟨by rw [firstF_none _ HN.out], ?_⟩
      · simp [results, Tryd.results16, go_sem, c0, c1, c2, c3, resV, zeroV]
      · exact below_set4 hnx (Nat.le_refl _)
end Go.Proofs.YtgffhjcnfjgpnaaDoor
