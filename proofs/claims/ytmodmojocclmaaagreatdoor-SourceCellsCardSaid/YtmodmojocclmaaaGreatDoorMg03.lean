/- Contracts of package lex, sixth part: the first word of a text. -/
import Derived.Test.YtmodmojocclmaaaGreatDoorMg02
import Derived.Test.YtmodmojocclmaaaGreatDoorProg
import Derived.Test.YtmodmojocclmaaaGreatDoorMg00
import Derived.Laws.IdiomStrings
import Derived.WalkKit
import Derived.WalkSpells
import Derived.WalkLawsBesides
import Derived.Lib.Hide
import Derived.Lib.Strings
import Derived.Laws.EntriesVeiled
import Derived.Maps.AppendAt
import Derived.Laws.StructEq
import Derived.Outline
namespace Go.Proofs.YtmodmojocclmaaaGreatDoor
open Go.RowKit

def headIn (d : List UInt8) : List UInt8 → Bool
 | c :: _ => Lx.inB d c
 | [] => false
def begF : Nat → List UInt8 → Bool
 | 0, l => headIn Lx.digs l
 | 1, l => headIn Lx.lets l
 | k + 2, l => Lx.preB (sgn k) l
def readF : Nat → List UInt8 → Option (Lx.Tk × Nat)
 | 0, l => Lx.numF l (digN l)
 | 1, l => Lx.nameF l (insN l)
 | k + 2, _ => some (⟨5, sgn k, 0, 0⟩, (sgn k).length)
def firstF (l : List UInt8) : Option (Lx.Tk × Nat) := ((List.range 18).find? fun k => begF k l).bind fun k => readF k l

theorem Tab.later {w w' : World} {B n : Nat} {v : Value} (h : Tab w B v n) (hb : Below w.heap.size w w') : Tab w' B v n := by
 obtain ⟨rows, hl, ho, hr⟩ := h
 refine ⟨rows, hl, ⟨ho.1, ?_⟩, fun k r hk => (hr k r hk).keep fun g t cs _ hL => hL.later hb⟩
 rcases ho.2 with h0 | ⟨g, cap, cur, h1, h2, h3, h4⟩
 ·exact .inl h0
 ·exact .inr ⟨g, cap, cur, h1, h2, (hb.block g (lt_of_block h3)).trans h3, h4⟩
theorem flat_at (rows : List (Value × Value)) : ∀ k r, rows[k]? = some r → (rows.flatMap fun r => [r.1, r.2])[2 * k]? = some r.1 ∧ (rows.flatMap fun r => [r.1, r.2])[2 * k + 1]? = some r.2 := by
 induction rows with
 | nil => intro k r h; simp at h
 | cons a l ih =>
  intro k r h
  match k, h with
  | 0, h => simp at h; subst h; simp
  | k + 1, h =>
   have := ih k r (by simpa using h)
   have e1 : 2 * (k + 1) = 2 * k + 2 := by omega
   have e2 : 2 * (k + 1) + 1 = 2 * k + 1 + 2 := by omega
   rw [e2, e1]
   simpa using this
theorem Tab.form {w : World} {B n : Nat} {v : Value} (h : Tab w B v n) (hn : 0 < n) : ∃ g cap, v = .slice (some ⟨g, 0, none⟩) n cap ∧ n ≤ cap := by
 obtain ⟨rows, hl, ho, hr⟩ := h
 rcases ho.2 with ⟨_, h0⟩ | ⟨g, cap, cur, h1, h2, h3, h4, _⟩
 ·omega
 ·exact ⟨g, cap, h1, h4⟩
theorem Tab.row {w : World} {B n g cap : Nat} (h : Tab w B (.slice (some ⟨g, 0, none⟩) n cap) n) {k : Nat} (hk : k < n) : ∃ F G, w.cell? ⟨g, k * 2, none⟩ = some F ∧ w.cell? ⟨g, k * 2 + 1, none⟩ = some G ∧ RowAt w k F G := by
 obtain ⟨rows, hl, ho, hr⟩ := h
 have hk' : rows[k]? = some rows[k] := List.getElem?_eq_getElem (by omega)
 obtain ⟨h1, h2⟩ := flat_at rows k _ hk'
 rw [show k * 2 = 2 * k by omega]
 exact ⟨_, _, (ho.cellAt (2 * k) (by omega)).trans h1, (ho.cellAt (2 * k + 1) (by omega)).trans h2, hr k _ hk'⟩

theorem headIn_s (s : ByteArray) (d : List UInt8) (h : 0 < s.size) : headIn d s.data.toList = Lx.inB d s[0] := by
 have e := drop_one s 0 h
 simp only [List.drop_zero] at e
 rw [e]; rfl
theorem headIn_0 (s : ByteArray) (d : List UInt8) (h : ¬ 0 < s.size) : headIn d s.data.toList = false := by
 have e : s.data.toList = [] := List.eq_nil_of_length_eq_zero (by have h2 : s.data.toList.length = s.size := (by simp); omega)
 rw [e]; rfl
theorem ahead1_any (s d : ByteArray) (p q : Addr) (w : World) (hs : s.size ≤ 140737488351232) (hd : d.size ≤ 1000) (hq : w.cell? q = some (fun30 p)) (hp : w.cell? p = some (.string d)) :
  Calls Tryz.prog 91 #[.string s, .pointer (some q)] w fun e w' => e = .returned (.bool (headIn d.data.toList s.data.toList)) ∧ ∃ n, w' = w.drewN n := by
 by_cases h : 0 < s.size
 ·rw [headIn_s s _ h]; exact ahead1_some s d p q w hs hd hq hp h
 ·rw [headIn_0 s _ h]; exact ahead1_none s q w (by omega)
theorem ahead_dig (s : ByteArray) (p q : Addr) (w : World) (hs : s.size ≤ 140737488351232) (hq : w.cell? q = some (fun30 p)) (hp : w.cell? p = some (.string digD)) :
  Calls Tryz.prog 91 #[.string s, .pointer (some q)] w fun e w' => e = .returned (.bool (begF 0 s.data.toList)) ∧ ∃ n, w' = w.drewN n := ahead1_any s digD p q w hs (by decide) hq hp
theorem ahead_let (s : ByteArray) (p q : Addr) (w : World) (hs : s.size ≤ 140737488351232) (hq : w.cell? q = some (fun30 p)) (hp : w.cell? p = some (.string letD)) :
  Calls Tryz.prog 91 #[.string s, .pointer (some q)] w fun e w' => e = .returned (.bool (begF 1 s.data.toList)) ∧ ∃ n, w' = w.drewN n := ahead1_any s letD p q w hs (by decide) hq hp
theorem sgn_size (k : Nat) : (ba (sgn k)).size ≤ 1000 := by
 have h : ∀ l ∈ sgnL, l.length ≤ 2 := by decide
 have e : (ba (sgn k)).size = (sgn k).length := by simp [ba, ByteArray.size]
 rw [e]
 unfold sgn
 rw [List.getD_eq_getElem?_getD]
 rcases hk : sgnL[k]? with _ | l
 ·simp
 ·have := h l (List.mem_of_getElem? hk); simp; omega
theorem ba_list (l : List UInt8) : (ba l).data.toList = l := by simp [ba]
theorem begin_sgn (s : ByteArray) (k N : Nat) (w : World) (hs : s.size ≤ 140737488351232) (h : Lies w N 9 #[.string (ba (sgn k))]) :
  Calls Tryz.prog 95 #[.string s, .pointer (some ⟨N, 0, none⟩)] w fun e w' => e = .returned (.bool (begF (k + 2) s.data.toList)) ∧ w = w' := by
 have := signKind1_any s (ba (sgn k)) ⟨N, 0, none⟩ w hs (sgn_size k) (h.cell 0)
 rw [ba_list] at this
 exact this
theorem read_sgn (s : ByteArray) (k N M : Nat) (w : World) (h : Lies w N 9 #[.string (ba (sgn k))]) (h2 : Lies w M 130 #[.int .i64 5, .string (ba (sgn k)), .int .i64 0, .int .i64 0]) :
  Calls Tryz.prog 96 #[.string s, .pointer (some ⟨M, 0, none⟩), .pointer (some ⟨N, 0, none⟩)] w fun e w' => e = .returned (resV (some (⟨5, sgn k, 0, 0⟩, (sgn k).length))) ∧ Below w.heap.size w w' := by
 have := signKind2_any s (ba (sgn k)) M ⟨N, 0, none⟩ w (sgn_size k) (h.cell 0) 5 0 0 (ba (sgn k)) (h2.cell 0) (h2.cell 1) (h2.cell 2) (h2.cell 3)
 have e : (ba (sgn k)).size = (sgn k).length := by simp [ba, ByteArray.size]
 rw [e] at this
 exact this
theorem span_head0 (s : ByteArray) (h : begF 0 s.data.toList = true) : 0 < digN s.data.toList := by
 by_cases h0 : 0 < s.size
 ·exact spanN_pos _ s h0 ((headIn_s s _ h0).symm.trans h)
 ·rw [begF, headIn_0 s _ h0] at h; cases h
theorem lets_inss (c : UInt8) (h : Lx.inB Lx.lets c = true) : Lx.inB Lx.inss c = true := by
 simp only [Lx.inB, Lx.lets, Lx.inss, Bool.or_eq_true, Bool.or_false] at h ⊢
 rcases h with h | h | h
 ·exact .inl h
 ·exact .inr (.inl h)
 ·exact .inr (.inr (.inl h))
theorem span_head1 (s : ByteArray) (h : begF 1 s.data.toList = true) : 0 < insN s.data.toList := by
 by_cases h0 : 0 < s.size
 ·exact spanN_pos _ s h0 (lets_inss _ ((headIn_s s _ h0).symm.trans h))
 ·rw [begF, headIn_0 s _ h0] at h; cases h

theorem tok_cells {w : World} {g : Nat} {a b c d : Value} {t : TypeId} (h : Lies w g t #[a, b, c, d]) : w.cell? ⟨g, 0, none⟩ = some a ∧ w.cell? ⟨g, 1, none⟩ = some b ∧ w.cell? ⟨g, 2, none⟩ = some c ∧ w.cell? ⟨g, 3, none⟩ = some d ∧ ∀ i, w.frozen? ⟨g, i, none⟩ = false :=
 ⟨h.cell 0, h.cell 1, h.cell 2, h.cell 3, h.free⟩

theorem Lies.drewN {w : World} {g : Nat} {t : TypeId} {cs : Array Value} (h : Lies w g t cs) (n : Nat) : Lies (w.drewN n) g t cs := h
theorem cell_drewN {w : World} {a : Addr} {v : Value} (h : w.cell? a = some v) (n : Nat) : (w.drewN n).cell? a = some v := h
theorem bdrewN {B : Nat} {a w : World} (h : Below B a w) (n : Nat) : Below B a (w.drewN n) := ⟨h.os, h.tape, h.output, h.size, h.block⟩
theorem firstF_hit (l : List UInt8) (k : Nat) (hk : k < 18) (hno : ∀ j, j < k → begF j l = false) (hb : begF k l = true) : firstF l = readF k l := by
 unfold firstF
 have : (List.range 18).find? (fun k => begF k l) = some k := by
  rw [List.find?_range_eq_some]
  exact ⟨hb, by simpa using hk, fun j hj => by simp [hno j hj]⟩
 rw [this]; rfl
theorem firstF_none (l : List UInt8) (hno : ∀ j, j < 18 → begF j l = false) : firstF l = none := by
 unfold firstF
 have : (List.range 18).find? (fun k => begF k l) = none := by
  rw [List.find?_range_eq_none]
  intro j hj; simp [hno j hj]
 rw [this]; rfl

def FirstEnd (l : List UInt8) (w : World) (e : Ending) (w' : World) : Prop := e = .returned (resV (firstF l)) ∧ Below w.heap.size w w'
def FirstRel (l : List UInt8) (w : World) (i : Value) (wr : World) : Prop := ∃ k : Nat, k ≤ 18 ∧ i = .int .i64 k ∧ (∀ j, j < k → begF j l = false) ∧ Lies wr w.heap.size 130 #[.int .i64 0, .string ⟨#[]⟩, .int .i64 0, .int .i64 0] ∧ Below w.heap.size w wr
set_option maxRecDepth 100000 in
set_option maxHeartbeats 4000000 in
theorem first_any (s : ByteArray) (w : World) (B g cap : Nat) (hT : Tab w B (.slice (some ⟨g, 0, none⟩) 18 cap) 18) (hl : s.size ≤ 140737488351232)
  (te : TypeId) (pe : Value) (hv : w.cell? ⟨2, 0, none⟩ = some (.iface te pe)) :
  Calls Tryz.prog 47 #[.slice (some ⟨g, 0, none⟩) 18 cap, .string s] w (FirstEnd s.data.toList w) := by
 go_enter Tryz.func47, Tryz.ntmps47
 go_wp2
 go_loopw [11] (fun i wr => FirstRel s.data.toList w i wr) (fun i _ => 18 - (intOf i).toNat)
 case atStart => exact ⟨0, by omega, rfl, fun j hj => absurd hj (by omega), Lies.new _ _ _, (Below.refl _ _).alloc (by simp) _⟩
 case round =>
  rename_i wr
  obtain ⟨k, hk, rfl, hno, hlie, hnx⟩ := hrel
  have HN := Lib.hid hno
  clear hno
  by_cases hlt : k < 18
  ·obtain ⟨F, G, hF, hG, hrow⟩ := (hT.later hnx).row hlt
   have hv1 := (hnx.cell (p := ⟨2, 0, none⟩) (World.block_lt_of_cell? w _ hv)).trans hv
   have hsz := hnx.size
   have hlt1 := hlie.lt
   rcases hbk : begF k s.data.toList with _ | _
   ·have HB := Lib.hid hbk
    clear hbk
    have HR : ∀ j, j < k + 1 → begF j s.data.toList = false := fun j hj => by
     rcases Nat.lt_or_ge j k with h | h
     ·exact HN.out j h
     ·obtain rfl : j = k := by omega
      exact HB.out
    have HR2 := Lib.hid HR
    clear HR
    rcases k with _ | _ | k
    ·obtain ⟨a, b, c, d, e1, h1, h2, e2, h3, h4⟩ := hrow
     subst e1 e2
     simp only [Nat.zero_mul, Nat.zero_add] at hF hG
     go_wp2_with (go_at_call 91; refine (ahead_dig s ⟨b, 0, none⟩ _ _ hl ((h1.alloc _).cell 0) ((h2.alloc _).cell 0)).mono ?_; rintro e w' ⟨rfl, n, rfl⟩; rw [HB.out])
     go_roundw
     case rel => exact ⟨1, by omega, by go_num, HR2.out, (hlie.alloc _), bdrewN (hnx.alloc (by omega) _) _⟩
     case measure => simp [intOf] <;> omega
    ·obtain ⟨a, b, c, d, e1, h1, h2, e2, h3, h4⟩ := hrow
     subst e1 e2
     simp only [Nat.zero_add, Nat.one_mul] at hF hG
     go_wp2_with (go_at_call 91; refine (ahead_let s ⟨b, 0, none⟩ _ _ hl ((h1.alloc _).cell 0) ((h2.alloc _).cell 0)).mono ?_; rintro e w' ⟨rfl, n, rfl⟩; rw [HB.out])
     go_roundw
     case rel => exact ⟨2, by omega, by go_num, HR2.out, (hlie.alloc _), bdrewN (hnx.alloc (by omega) _) _⟩
     case measure => simp [intOf] <;> omega
    ·obtain ⟨N, e1, e2, h1, h2⟩ := hrow
     subst e1 e2
     unfold signF1 at hF
     unfold signF2 at hG
     go_wp2_with (go_at_call 95; refine (begin_sgn s k N _ hl (h1.alloc _)).mono ?_; rintro e w' ⟨rfl, rfl⟩; rw [HB.out])
     go_roundw
     case rel => exact ⟨k + 1 + 1 + 1, by omega, by go_num, HR2.out, (hlie.alloc _), hnx.alloc (by omega) _⟩
     case measure => simp [intOf] <;> omega
   ·have HB := Lib.hid hbk
    clear hbk
    have HF := Lib.hid (firstF_hit _ k hlt HN.out HB.out)
    rcases k with _ | _ | k
    ·obtain ⟨a, b, c, d, e1, h1, h2, e2, h3, h4⟩ := hrow
     subst e1 e2
     simp only [Nat.zero_mul, Nat.zero_add] at hF hG
     have hpos := span_head0 s HB.out
     rcases res_cases (Lx.numF s.data.toList (digN s.data.toList)) with ho | ⟨x, m, ho⟩
     all_goals
      have HO := Lib.hid ho
      clear ho
      go_wp2_with (first | (go_at_call 91; refine (ahead_dig s ⟨b, 0, none⟩ _ _ hl ((h1.alloc _).cell 0) ((h2.alloc _).cell 0)).mono ?_; rintro e w' ⟨rfl, n, rfl⟩; rw [HB.out]) | (go_at_call 64; refine (kinds1_any s ⟨d, 0, none⟩ _ _ hl hpos (((h3.alloc _).drewN _).cell 0) (((h4.alloc _).drewN _).cell 0) te pe (cell_drewN (cell_alloc _ _ hv1) _)).mono ?_; rintro e w' ⟨rfl, hw⟩; rw [HO.out]; simp only [resV, tkV, zeroV]; obtain ⟨c0, c1, c2, c3, hf⟩ := tok_cells (Lies.later ((hlie.alloc _).drewN _) hw)))
      refine bodyPost_ret (v := resV (Lx.numF s.data.toList (digN s.data.toList))) ?_ rfl ⟨by rw [HF.out]; rfl, ?_⟩
      ·rw [HO.out]; simp [results, Tryz.results47, go_sem, c0, c1, c2, c3, tkV, resV, zeroV]
      ·exact below_set4 ((bdrewN (hnx.alloc (by omega) _) _).trans (hw.mono (by simp <;> omega))) (Nat.le_refl _)
    ·obtain ⟨a, b, c, d, e1, h1, h2, e2, h3, h4⟩ := hrow
     subst e1 e2
     simp only [Nat.zero_add, Nat.one_mul] at hF hG
     have hpos := span_head1 s HB.out
     rcases res_cases (Lx.nameF s.data.toList (insN s.data.toList)) with ho | ⟨x, m, ho⟩
     all_goals
      have HO := Lib.hid ho
      clear ho
      go_wp2_with (first | (go_at_call 91; refine (ahead_let s ⟨b, 0, none⟩ _ _ hl ((h1.alloc _).cell 0) ((h2.alloc _).cell 0)).mono ?_; rintro e w' ⟨rfl, n, rfl⟩; rw [HB.out]) | (go_at_call 67; refine (kinds2_any s ⟨d, 0, none⟩ _ _ hl hpos (((h3.alloc _).drewN _).cell 0) (((h4.alloc _).drewN _).cell 0)).mono ?_; rintro e w' ⟨rfl, hw⟩; rw [HO.out]; simp only [resV, tkV, zeroV]; obtain ⟨c0, c1, c2, c3, hf⟩ := tok_cells (Lies.later ((hlie.alloc _).drewN _) hw)))
      refine bodyPost_ret (v := resV (Lx.nameF s.data.toList (insN s.data.toList))) ?_ rfl ⟨by rw [HF.out]; rfl, ?_⟩
      ·rw [HO.out]; simp [results, Tryz.results47, go_sem, c0, c1, c2, c3, tkV, resV, zeroV]
      ·exact below_set4 ((bdrewN (hnx.alloc (by omega) _) _).trans (hw.mono (by simp <;> omega))) (Nat.le_refl _)
    ·obtain ⟨N, e1, e2, h1, h2⟩ := hrow
     subst e1 e2
     unfold signF1 at hF
     unfold signF2 at hG
     go_wp2_with (first | (go_at_call 95; refine (begin_sgn s k N _ hl (h1.alloc _)).mono ?_; rintro e w' ⟨rfl, rfl⟩; rw [HB.out]) | (go_at_call 96; refine (read_sgn s k N (N + 1 + 1) _ (h1.alloc _) (h2.alloc _)).mono ?_; rintro e w' ⟨rfl, hw⟩; simp only [resV, tkV]; obtain ⟨c0, c1, c2, c3, hf⟩ := tok_cells (Lies.later (hlie.alloc _) hw)))
     refine bodyPost_ret (v := resV (some (⟨5, sgn k, 0, 0⟩, (sgn k).length))) ?_ rfl ⟨by rw [HF.out]; rfl, ?_⟩
     ·simp [results, Tryz.results47, go_sem, c0, c1, c2, c3, tkV, resV]
     ·exact below_set4 ((hnx.alloc (by omega) _).trans (hw.mono (by simp <;> omega))) (Nat.le_refl _)
  ·have h18 : k = 18 := by omega
   subst h18
   obtain ⟨c0, c1, c2, c3, hf⟩ := tok_cells hlie
   go_wp2
   refine bodyPost_ret (v := resV none) ?_ rfl ⟨by rw [firstF_none _ HN.out], ?_⟩
   ·simp [results, Tryz.results47, go_sem, c0, c1, c2, c3, resV, zeroV]
   ·exact below_set4 hnx (Nat.le_refl _)
end Go.Proofs.YtmodmojocclmaaaGreatDoor

/- Contracts of package lex, seventh part: blanks and notes. -/
namespace Go.Proofs.YtmodmojocclmaaaGreatDoor
open Go.RowKit

theorem skip_true (r : List UInt8) : Lx.skipN true r = Lx.spanN Lx.noLf r + Lx.skipN false (r.drop (Lx.spanN Lx.noLf r)) := by
 induction r with
 | nil => simp [Lx.skipN, Lx.spanN]
 | cons c r ih =>
  by_cases h : c.toNat = 10
  ·simp [Lx.skipN, Lx.spanN, Lx.noLf, h]
  ·have : Lx.noLf c = true := by simp [Lx.noLf, h]
   simp only [Lx.skipN, Lx.spanN, this, if_neg h, if_true, List.drop_succ_cons]
   omega
theorem skip_note (c : UInt8) (r : List UInt8) (h : c.toNat = 35) : Lx.skipN false (c :: r) = Lx.spanN Lx.noLf (c :: r) + Lx.skipN false ((c :: r).drop (Lx.spanN Lx.noLf (c :: r))) := by
 have h1 : Lx.noLf c = true := by simp [Lx.noLf, h]
 have h2 : ¬ (c.toNat = 32 ∨ c.toNat = 9 ∨ c.toNat = 13 ∨ c.toNat = 10) := by omega
 simp only [Lx.skipN, Lx.spanN, h1, if_neg h2, if_pos h, if_true, List.drop_succ_cons, skip_true r]
 omega
theorem skip_blank (c : UInt8) (r : List UInt8) (h : c.toNat = 32 ∨ c.toNat = 9 ∨ c.toNat = 13 ∨ c.toNat = 10) : Lx.skipN false (c :: r) = 1 + Lx.skipN false r := by
 simp only [Lx.skipN, if_pos h]
theorem skip_else (c : UInt8) (r : List UInt8) (h : ¬ (c.toNat = 32 ∨ c.toNat = 9 ∨ c.toNat = 13 ∨ c.toNat = 10)) (h2 : ¬ c.toNat = 35) : Lx.skipN false (c :: r) = 0 := by
 simp only [Lx.skipN, if_neg h, if_neg h2]
theorem indexByte_lf (l : List UInt8) : Lib.indexByte l 10 = if Lx.spanN Lx.noLf l < l.length then (Lx.spanN Lx.noLf l : Int) else -1 := by
 induction l with
 | nil => rfl
 | cons c r ih =>
  by_cases h : c = 10
  ·subst h; simp [Lib.indexByte, Lx.spanN, Lx.noLf]
  ·have hn : ¬ c.toNat = 10 := fun e => h (UInt8.toNat_inj.1 e)
   have : Lx.noLf c = true := by simp [Lx.noLf, hn]
   have hb : (c == 10) = false := by simpa using h
   simp only [Lib.indexByte, hb, ih, Lx.spanN, this, if_true, List.length_cons]
   by_cases h2 : Lx.spanN Lx.noLf r < r.length
   ·simp only [if_pos h2]
    have h3 : ¬ ((Lx.spanN Lx.noLf r : Int) == -1) = true := by simp
    simp [h2]
   ·simp [h2]

set_option maxHeartbeats 1000000 in
theorem note_any (s : ByteArray) (w : World) (_hs : s.size ≤ 140737488351232) :
  Calls Tryz.prog 70 #[.string s] w fun e w' => e = .returned (.int .i64 (Lx.spanN Lx.noLf s.data.toList : Nat)) ∧ w = w' := by
 have hi := indexByte_lf s.data.toList
 have hle := spanN_le Lx.noLf s.data.toList
 have hsz : s.data.toList.length = s.size := by simp
 rw [hsz] at hi hle
 by_cases h : Lx.spanN Lx.noLf s.data.toList < s.size
 ·rw [if_pos h] at hi
  have HI := Lib.hid hi
  clear hi hsz
  go_enter Tryz.func70, Tryz.ntmps70
  go_wp2_with (go_at_call 97; refine (Tryz.strings_IndexByte s 10 _).mono ?_; rintro e w' ⟨rfl, hw⟩; subst hw; rw [show (10 : Int).toNat.toUInt8 = 10 from rfl, HI.out])
  go_ret
  exact ⟨rfl, rfl⟩
 ·rw [if_neg h] at hi
  have HI := Lib.hid hi
  clear hi hsz
  go_enter Tryz.func70, Tryz.ntmps70
  go_wp2_with (go_at_call 97; refine (Tryz.strings_IndexByte s 10 _).mono ?_; rintro e w' ⟨rfl, hw⟩; subst hw; rw [show (10 : Int).toNat.toUInt8 = 10 from rfl, HI.out])
  go_ret
  exact ⟨ret_int (by omega), rfl⟩

def noteAt (s : ByteArray) (k : Nat) : Nat := Lx.spanN Lx.noLf (s.data.toList.drop k)
theorem noteN_le (s : ByteArray) (k : Nat) (hk : k ≤ s.size) : k + noteAt s k ≤ s.size := by
 have := spanN_le Lx.noLf (s.data.toList.drop k)
 simp at this
 unfold noteAt
 omega
theorem bl_of {c : UInt8} (n : Int) (h : ((c.toNat : Int) == n) = true) (hn : n = 32 ∨ n = 9 ∨ n = 13 ∨ n = 10) : c.toNat = 32 ∨ c.toNat = 9 ∨ c.toNat = 13 ∨ c.toNat = 10 := by
 simp at h; omega
theorem nb_of {c : UInt8} (h1 : ((c.toNat : Int) == 32) = false) (h2 : ((c.toNat : Int) == 9) = false) (h3 : ((c.toNat : Int) == 13) = false) (h4 : ((c.toNat : Int) == 10) = false) : ¬ (c.toNat = 32 ∨ c.toNat = 9 ∨ c.toNat = 13 ∨ c.toNat = 10) := by
 simp at h1 h2 h3 h4; omega
theorem nt_of {c : UInt8} (h : ((c.toNat : Int) == 35) = true) : c.toNat = 35 := by simp at h; omega
theorem nn_of {c : UInt8} (h : ((c.toNat : Int) == 35) = false) : ¬ c.toNat = 35 := by simp at h; omega
theorem note_pos (s : ByteArray) (k : Nat) (hk : k < s.size) (h : s[k].toNat = 35) : 0 < noteAt s k := by
 unfold noteAt
 rw [drop_one s k hk]
 have : Lx.noLf s[k] = true := by simp [Lx.noLf, h]
 simp [Lx.spanN, this]
theorem note_at (s : ByteArray) (k : Nat) (w : World) (hs : s.size ≤ 140737488351232) :
  Calls Tryz.prog 70 #[.string (s.extract k s.size)] w fun e w' => e = .returned (.int .i64 (noteAt s k : Nat)) ∧ w = w' := by
 have h := note_any (s.extract k s.size) w (by simp; omega)
 have e2 : (s.extract k s.size).data.toList = s.data.toList.drop k := by
  rw [Lib.extract_data]; exact List.take_of_length_le (by simp)
 rw [e2] at h
 exact h
def SkipEnd (s : ByteArray) (a : Nat) (w : World) (e : Ending) (w' : World) : Prop := e = .returned (.int .i64 ((a + Lx.skipN false (s.data.toList.drop a) : Nat) : Int)) ∧ w = w'
set_option maxHeartbeats 2000000 in
theorem skip_any (s : ByteArray) (a : Nat) (w : World) (hs : s.size ≤ 140737488351232) (ha : a ≤ s.size) :
  Calls Tryz.prog 46 #[.string s, .int .i64 (a : Int)] w (SkipEnd s a w) := by
 go_enter Tryz.func46, Tryz.ntmps46
 go_wp2
 go_loop [1] (fun i => ∃ k : Nat, k ≤ s.size ∧ i = .int .i64 k ∧ a + Lx.skipN false (s.data.toList.drop a) = k + Lx.skipN false (s.data.toList.drop k)) (fun i => s.size - (intOf i).toNat)
 case atStart => exact ⟨a, ha, rfl, rfl⟩
 case round =>
  obtain ⟨k, hk, rfl, hr⟩ := hrel
  have HR := Lib.hid hr
  clear hr
  by_cases hlt : k < s.size
  ·have HD := Lib.hid (drop_one s k hlt)
   have hn := noteN_le s k hk
   go_wp2_with (go_at_call 70; refine (note_at s k _ hs).mono ?_; rintro e w' ⟨rfl, rfl⟩)
   ·go_round
    case rel => exact ⟨k + 1, by omega, by go_num, by rw [HR.out, HD.out, skip_blank _ _ (bl_of 32 (by assumption) (by decide))]; omega⟩
    case measure => simp [intOf]; omega
   ·go_round
    case rel => exact ⟨k + 1, by omega, by go_num, by rw [HR.out, HD.out, skip_blank _ _ (bl_of 9 (by assumption) (by decide))]; omega⟩
    case measure => simp [intOf]; omega
   ·go_round
    case rel => exact ⟨k + 1, by omega, by go_num, by rw [HR.out, HD.out, skip_blank _ _ (bl_of 13 (by assumption) (by decide))]; omega⟩
    case measure => simp [intOf]; omega
   ·go_round
    case rel => exact ⟨k + 1, by omega, by go_num, by rw [HR.out, HD.out, skip_blank _ _ (bl_of 10 (by assumption) (by decide))]; omega⟩
    case measure => simp [intOf]; omega
   ·have hp := note_pos s k hlt (nt_of (by assumption))
    go_round
    case rel => exact ⟨k + noteAt s k, by omega, by go_num, by
     have e := skip_note s[k] (s.data.toList.drop (k + 1)) (nt_of (by assumption))
     rw [← HD.out, List.drop_drop] at e
     rw [HR.out, e]
     unfold noteAt
     omega⟩
    case measure => simp [intOf]; omega
   ·go_ret
    exact ⟨ret_int (by have := HR.out; rw [this, HD.out, skip_else _ _ (nb_of (by assumption) (by assumption) (by assumption) (by assumption)) (nn_of (by assumption))]; simp), rfl⟩
  ·go_wp2
   go_ret
   exact ⟨ret_int (by have := HR.out; rw [this, List.drop_of_length_le (by simp; omega)]; simp [Lx.skipN]), rfl⟩
end Go.Proofs.YtmodmojocclmaaaGreatDoor

/- What Lex answers, as a plain function on lists of bytes, and first facts of it. -/
namespace Go.Proofs.YtmodmojocclmaaaGreatDoor

def sk (l : List UInt8) : Nat := Lx.skipN false l
def atPos (x : Lx.Tk) (a : Nat) : Lx.Tk := ⟨x.k, x.t, x.n, a⟩
def lexP (l : List UInt8) : Nat → Nat → List Lx.Tk × Option Nat
 | 0, _ => ([], none)
 | f + 1, a =>
  if l.length ≤ a then ([], none)
  else match firstF (l.drop a) with
   | none => ([], some a)
   | some (x, m) => (atPos x a :: (lexP l f (a + m + sk (l.drop (a + m)))).1, (lexP l f (a + m + sk (l.drop (a + m)))).2)
def lexAll (l : List UInt8) : List Lx.Tk × Option Nat := lexP l (l.length + 1) (sk l)
def lexR (l : List UInt8) : List Lx.Tk × Nat × Nat :=
 if 1048576 < l.length then ([], 0, 6)
 else match lexAll l with
  | (ws, none) => (ws, 0, 0)
  | (_, some p) => ([], p, 2)

theorem firstF_cases {l : List UInt8} {x : Lx.Tk} {m : Nat} (h : firstF l = some (x, m)) : ∃ k, k < 18 ∧ begF k l = true ∧ readF k l = some (x, m) ∧ ∀ j, j < k → begF j l = false := by
 unfold firstF at h
 rcases hf : (List.range 18).find? (fun k => begF k l) with _ | k
 ·rw [hf] at h; cases h
 ·rw [hf] at h
  rw [List.find?_range_eq_some] at hf
  obtain ⟨h1, h2, h3⟩ := hf
  exact ⟨k, by simpa using h2, h1, h, fun j hj => by simpa using h3 j hj⟩
theorem headIn_pos {d l : List UInt8} (h : headIn d l = true) : 0 < Lx.spanN (Lx.inB d) l := by
 match l, h with
 | c :: r, h => rw [Lx.spanN, if_pos (show Lx.inB d c = true from h)]; omega
theorem sgn_pos : ∀ k, k < 16 → 0 < (sgn k).length := by decide
theorem headLet_pos {l : List UInt8} (h : headIn Lx.lets l = true) : 0 < insN l := by
 match l, h with
 | c :: r, h => rw [insN, Lx.spanN, if_pos (lets_inss _ h)]; omega
theorem firstF_bound {l : List UInt8} {x : Lx.Tk} {m : Nat} (h : firstF l = some (x, m)) : 0 < m ∧ m ≤ l.length := by
 obtain ⟨k, hk, hb, hr, _⟩ := firstF_cases h
 match k, hk, hb, hr with
 | 0, _, hb, hr =>
  have h1 : 0 < digN l := headIn_pos hb
  have h2 : digN l ≤ l.length := spanN_le _ _
  simp only [readF, Lx.numF] at hr
  split at hr
  ·simp only [Option.some.injEq, Prod.mk.injEq] at hr; omega
  ·cases hr
 | 1, _, hb, hr =>
  have h1 : 0 < insN l := headLet_pos hb
  have h2 : insN l ≤ l.length := spanN_le _ _
  simp only [readF, Lx.nameF] at hr
  split at hr
  ·cases hr
  split at hr
  ·simp only [Option.some.injEq, Prod.mk.injEq] at hr; omega
  split at hr
  ·simp only [Option.some.injEq, Prod.mk.injEq] at hr; omega
  split at hr
  ·rename_i hp
   simp only [Option.some.injEq, Prod.mk.injEq] at hr
   have := (List.isPrefixOf_iff_prefix.1 hp).length_le
   simp at this
   omega
  ·simp only [Option.some.injEq, Prod.mk.injEq] at hr; omega
 | k + 2, hk, hb, hr =>
  simp only [readF, Option.some.injEq, Prod.mk.injEq] at hr
  have h1 := sgn_pos k (by omega)
  have := (List.isPrefixOf_iff_prefix.1 hb).length_le
  omega
theorem skipN_le : ∀ (l : List UInt8) (b : Bool), Lx.skipN b l ≤ l.length := by
 intro l
 induction l with
 | nil => intro b; cases b <;> simp [Lx.skipN]
 | cons c r ih =>
  intro b
  have h1 := ih false
  have h2 := ih true
  cases b <;> simp only [Lx.skipN, List.length_cons]
  ·split
   ·omega
   ·split <;> omega
  ·split <;> omega
theorem sk_le (l : List UInt8) (a : Nat) (h : a ≤ l.length) : a + sk (l.drop a) ≤ l.length := by
 have := skipN_le (l.drop a) false
 simp at this
 unfold sk; omega
end Go.Proofs.YtmodmojocclmaaaGreatDoor

/- The contract of Lex. -/
namespace Go.Proofs.YtmodmojocclmaaaGreatDoor
open Go.RowKit

def Bs (w : World) (v : Value) (l : List UInt8) : Prop :=
 ∃ A c, v = .slice A l.length c ∧ l.length ≤ c ∧ (0 < l.length → ∃ a : Addr, A = some a ∧ ∀ j (h : j < l.length), w.cell? (a.add j) = some (.int .u8 (l[j].toNat : Int)))
theorem conv_bs {w : World} {v : Value} {l : List UInt8} (h : Bs w v l) : (convert 80 9 v).run Tryz.prog w = .ok (.string (ba l)) w := by
 obtain ⟨A, c, rfl, _, hc⟩ := h
 rcases Nat.eq_zero_or_pos l.length with h0 | h0
 ·have : l = [] := List.eq_nil_of_length_eq_zero h0
  subst this
  rw [run_convert_bytes_string w 80 9 5 A _ c Tryz.underlying80 Tryz.underlying5 Tryz.underlying9]
  cases A <;> simp [Conv.bytesToString, loadCells] <;> rfl
 ·obtain ⟨a, rfl, hb⟩ := hc h0
  exact run_convert_bytes_back w 80 9 5 a c l Tryz.underlying80 Tryz.underlying5 Tryz.underlying9 hb

theorem Tryz.info130 : (Tryz.prog.info? 130).map (fun i => (i.zero, i.size, i.bytes)) = some (some (.agg #[.int .i64 0, .string ⟨#[]⟩, .int .i64 0, .int .i64 0]), 4, 40) := by kernel_rfl

def Good (w : World) : Prop := (∃ t fr, w.heap[0]? = some (.cells sgnD t fr)) ∧ ∃ te pe, w.cell? ⟨2, 0, none⟩ = some (.iface te pe)
theorem Good.later {w w' : World} (h : Good w) (hb : Below w.heap.size w w') : Good w' := by
 obtain ⟨⟨t, fr, h0⟩, te, pe, h2⟩ := h
 exact ⟨⟨t, fr, (hb.block 0 (lt_of_block h0)).trans h0⟩, te, pe, (hb.cell (p := ⟨2, 0, none⟩) (World.block_lt_of_cell? w _ h2)).trans h2⟩

def LexEnd (l : List UInt8) (w : World) (e : Ending) (w' : World) : Prop :=
 ∃ v, e = .returned (.tuple #[v, .int .i64 ((lexR l).2.1 : Int), .int .i64 ((lexR l).2.2 : Int)]) ∧ w'.ownsRow w.heap.size 130 4 v (lexR l).1.length (wordsC (lexR l).1) ∧ Below w.heap.size w w'
def LexRel (l : List UInt8) (w : World) (v i : Value) (wr : World) : Prop :=
 ∃ (a : Nat) (ws : List Lx.Tk) (f : Nat), a ≤ l.length ∧ i = .int .i64 a ∧ l.length < f + a ∧ ws.length ≤ a ∧ lexAll l = (ws ++ (lexP l f a).1, (lexP l f a).2) ∧ wr.ownsRow w.heap.size 130 4 v ws.length (wordsC ws) ∧ Below w.heap.size w wr

theorem sk_bs (l : List UInt8) (a : Nat) : a + Lx.skipN false ((ba l).data.toList.drop a) = a + sk (l.drop a) := by rw [ba_list]; rfl
theorem first_at (l : List UInt8) (a : Nat) (w : World) (B g cap : Nat) (hT : Tab w B (.slice (some ⟨g, 0, none⟩) 18 cap) 18) (hl : l.length ≤ 140737488351232)
  (te : TypeId) (pe : Value) (hv : w.cell? ⟨2, 0, none⟩ = some (.iface te pe)) :
  Calls Tryz.prog 47 #[.slice (some ⟨g, 0, none⟩) 18 cap, .string ((ba l).extract a (ba l).size)] w fun e w' => e = .returned (resV (firstF (l.drop a))) ∧ Below w.heap.size w w' := by
 have h := first_any ((ba l).extract a (ba l).size) w B g cap hT (by have := ba_size l; simp; omega) te pe hv
 have e2 : ((ba l).extract a (ba l).size).data.toList = l.drop a := by
  rw [Lib.extract_data, ba_list, ba_size]; exact List.take_of_length_le (by simp)
 rw [e2] at h
 exact h
theorem skip_at (l : List UInt8) (a : Nat) (i : Int) (w : World) (hl : l.length ≤ 140737488351232) (ha : a ≤ l.length) (hi : i = (a : Int)) :
  Calls Tryz.prog 46 #[.string (ba l), .int .i64 i] w fun e w' => e = .returned (.int .i64 ((a + sk (l.drop a) : Nat) : Int)) ∧ w = w' := by
 subst hi
 have h := skip_any (ba l) a w (by rw [ba_size]; exact hl) (by rw [ba_size]; exact ha)
 unfold SkipEnd at h
 rw [sk_bs] at h
 exact h
theorem lexP_end (l : List UInt8) (f a : Nat) (h : l.length ≤ a) : lexP l f a = ([], none) := by
 cases f with
 | zero => rfl
 | succ f => rw [lexP, if_pos h]
theorem lexP_none (l : List UInt8) (f a : Nat) (h : a < l.length) (hf : l.length < f + a) (h1 : firstF (l.drop a) = none) : lexP l f a = ([], some a) := by
 cases f with
 | zero => omega
 | succ f => rw [lexP, if_neg (by omega), h1]
theorem lexP_some (l : List UInt8) (f a : Nat) (h : a < l.length) (hf : l.length < f + a) {x : Lx.Tk} {m : Nat} (h1 : firstF (l.drop a) = some (x, m)) :
  lexP l f a = (atPos x a :: (lexP l (f - 1) (a + m + sk (l.drop (a + m)))).1, (lexP l (f - 1) (a + m + sk (l.drop (a + m)))).2) := by
 cases f with
 | zero => omega
 | succ f => rw [lexP, if_neg (by omega), h1]; rfl
theorem new_four (w : World) (t : TypeId) (a b c d : Value) {N : Nat} (hN : w.heap.size = N) : ∀ j u, [a, b, c, d][j]? = some u → (w.alloc (.cells #[a, b, c, d] t)).cell? ((⟨N, 0, none⟩ : Addr).add j) = some u := by
 intro j u hj
 have h := Lies.new' w t #[a, b, c, d] hN
 match j, hj with
 | 0, hj => have := h.cell 0; simp at hj; subst hj; simpa [Addr.add] using this
 | 1, hj => have := h.cell 1; simp at hj; subst hj; simpa [Addr.add] using this
 | 2, hj => have := h.cell 2; simp at hj; subst hj; simpa [Addr.add] using this
 | 3, hj => have := h.cell 3; simp at hj; subst hj; simpa [Addr.add] using this

set_option maxRecDepth 100000 in
set_option maxHeartbeats 4000000 in
theorem lex_any (v : Value) (l : List UInt8) (w : World) (hb : Bs w v l) (hG : Good w) (hl : l.length ≤ 140737488351232) :
  Calls Tryz.prog 25 #[v] w (LexEnd l w) := by
 have hcv := conv_bs hb
 obtain ⟨A, c, rfl, hlc, hcell⟩ := hb
 clear hcell
 by_cases hbig : 1048576 < l.length
 ·clear hcv
  go_enter Tryz.func25, Tryz.ntmps25
  go_wp2
  go_ret3
  exact ⟨_, by simp only [lexR, if_pos hbig]; rfl, by simp only [lexR, if_pos hbig]; exact World.ownsRow_nil _ _ _ _, Below.refl _ _⟩
 have hsize := ba_size l
 have HS := Lib.hid hsize
 clear hsize
 have hsz2 : (ba l).size ≤ 140737488351232 := by rw [HS.out]; exact hl
 obtain ⟨⟨t, fr, hg0⟩, te, pe, hg2⟩ := hG
 obtain ⟨i0, hi, hz0, hz1, hz2⟩ := info_parts Tryz.info130
 go_enter Tryz.func25, Tryz.ntmps25
 go_wp2_with (first | (go_at_call 45; refine (kinds_any _ t fr hg0).mono ?_; rintro e w1 ⟨vt, rfl, hT, hW⟩) | (go_at_call 46; go_loud (refine (skip_any (ba l) 0 _ hsz2 (Nat.zero_le _)).mono ?_); rintro e w2 ⟨rfl, rfl⟩; rw [sk_bs]))
 obtain ⟨g, cap, rfl, hcap⟩ := hT.form (by decide)
 have hg2' := (hW.cell (p := ⟨2, 0, none⟩) (World.block_lt_of_cell? w _ hg2)).trans hg2
 clear hg2 hg0
 go_loopw [7, 8] (fun v i wr => LexRel l w1 v i wr) (fun _ i _ => l.length - (intOf i).toNat)
 case atStart => exact ⟨sk l, [], l.length + 1, by have := sk_le l 0 (Nat.zero_le _); simpa using this, rfl, by omega, Nat.zero_le _, rfl, World.ownsRow_nil _ _ _ _, Below.refl _ _⟩
 case round =>
  rename_i wr
  obtain ⟨a, ws, f, ha, rfl, hf, hws, hall, hown, hnx⟩ := hrel
  have HA := Lib.hid hall
  clear hall
  have hsz := hnx.size
  by_cases hlt : a < l.length
  ·have hlt2 : a < (ba l).size := by rw [HS.out]; exact hlt
   have hT2 := hT.later hnx
   have hv2 := (hnx.cell (p := ⟨2, 0, none⟩) (World.block_lt_of_cell? w1 _ hg2')).trans hg2'
   rcases res_cases (firstF (l.drop a)) with ho | ⟨x, m, ho⟩
   ·have HO := Lib.hid ho
    clear ho
    go_wp2_with (go_at_call 47; refine (first_at l a _ _ g cap hT2 hl te pe hv2).mono ?_; rintro e w' ⟨rfl, hw⟩; rw [HO.out]; simp only [resV, zeroV])
    go_ret3
    have hL := HA.out
    rw [lexP_none l f a hlt hf HO.out] at hL
    exact ⟨_, by simp only [lexR, if_neg hbig, hL]; rfl, by simp only [lexR, if_neg hbig, hL]; exact World.ownsRow_nil _ _ _ _, ((hW.trans (hnx.mono hW.size)).trans (hw.mono (by have := hW.size; omega))).alloc (by have := hW.size; have := hw.size; omega) _⟩
   ·have HO := Lib.hid ho
    have hm := firstF_bound ho
    simp only [List.length_drop] at hm
    obtain ⟨hm0, hm1⟩ := hm
    have hm2 : a + m ≤ l.length := by omega
    have hsk := sk_le l (a + m) hm2
    clear ho hm1
    go_wp2_with (first | (go_at_call 47; refine (first_at l a _ _ g cap hT2 hl te pe hv2).mono ?_; rintro e w' ⟨rfl, hw⟩; rw [HO.out]; simp only [resV, tkV]; have hsz' := hw.size) | (at_builtin; go_loud (refine wpList_append_own _ rfl (.tmp 38) (.tmp 40) 88 rfl w1.heap.size 130 i0 (.agg #[.int .i64 0, .string ⟨#[]⟩, .int .i64 0, .int .i64 0]) 4 40 Tryz.underlying88 hi hz0 hz1 hz2 rfl (by decide) _ _ _ rfl (((own_later hown hw).alloc _).alloc _) ⟨w'.heap.size + 1, 0, none⟩ 1 1 (tkC (atPos x a)) rfl rfl ?c1 ?c2 ?c3 ?c4 ?c5 ?_)))
    case c1 => exact new_four _ _ _ _ _ _ (by simp)
    case c2 =>
     intro u hu
     simp only [tkC, List.mem_cons, List.not_mem_nil, or_false] at hu
     rcases hu with rfl | rfl | rfl | rfl <;> rfl
    case c3 => unfold maxLen; omega
    case c4 => omega
    case c5 => simp <;> omega
    intro v' w2 hown2 hgrow _
    have hN := (((hnx.trans (hw.mono hsz)).alloc (by omega) _).alloc (by simp <;> omega) _).grown hgrow (by simp <;> omega) (fun g hg => (hown.lt g hg).1)
    have hown3 : w2.ownsRow w1.heap.size 130 4 v' (ws ++ [atPos x a]).length (wordsC (ws ++ [atPos x a])) := by
     rw [wordsC_snoc, List.length_append]; exact hown2
    clear hown2 hgrow hown
    go_wp2_with (go_at_call 46; refine (skip_at l (a + m) _ _ hl hm2 (by omega)).mono ?_; rintro e w3 ⟨rfl, rfl⟩)
    go_roundw
    case rel =>
     have hL := HA.out
     rw [lexP_some l f a hlt hf HO.out] at hL
     exact ⟨_, ws ++ [atPos x a], f - 1, hsk, rfl, by omega, by simp; omega, by rw [hL]; simp, hown3, hN⟩
    case measure => simp [intOf] <;> omega
  ·have hlt2 : ¬ a < (ba l).size := by rw [HS.out]; exact hlt
   go_wp2
   go_ret3
   have hL := HA.out
   rw [lexP_end l f a (by omega)] at hL
   simp only [List.append_nil] at hL
   exact ⟨_, by simp only [lexR, if_neg hbig, hL]; rfl, by simp only [lexR, if_neg hbig, hL]; exact own_mono hown hW.size, hW.trans (hnx.mono hW.size)⟩
end Go.Proofs.YtmodmojocclmaaaGreatDoor

/- Types: what they are, and how they lie in memory. -/
namespace Go.Proofs.YtmodmojocclmaaaGreatDoor.K
open Go.RowKit

def ba (l : List UInt8) : ByteArray := ⟨l.toArray⟩
theorem ba_list (l : List UInt8) : (ba l).data.toList = l := by simp [ba]
def Lies (w : World) (g : Nat) (t : TypeId) (cs : Array Value) : Prop := w.heap[g]? = some (.cells cs t (0, 0))
theorem Lies.lt {w : World} {g : Nat} {t : TypeId} {cs : Array Value} (h : Lies w g t cs) : g < w.heap.size := lt_of_block h
theorem Lies.cell {w : World} {g : Nat} {t : TypeId} {cs : Array Value} (h : Lies w g t cs) (i : Nat) : w.cell? ⟨g, i, none⟩ = cs[i]? := cell_of_row w g i cs t (0, 0) h
theorem Lies.free {w : World} {g : Nat} {t : TypeId} {cs : Array Value} (h : Lies w g t cs) (i : Nat) : w.frozen? ⟨g, i, none⟩ = false := by
 unfold Lies at h
 simp [World.frozen?, h]
theorem Lies.new (w : World) (t : TypeId) (cs : Array Value) : Lies (w.alloc (.cells cs t)) w.heap.size t cs := heap_alloc_new w _
theorem Lies.new' (w : World) (t : TypeId) (cs : Array Value) {N : Nat} (hN : w.heap.size = N) : Lies (w.alloc (.cells cs t)) N t cs := by subst hN; exact Lies.new w t cs
theorem Lies.alloc {w : World} {g : Nat} {t : TypeId} {cs : Array Value} (h : Lies w g t cs) (o : Obj) : Lies (w.alloc o) g t cs := (Below.heap_alloc w o g h.lt).trans h
theorem Lies.below {w w' : World} {g : Nat} {t : TypeId} {cs : Array Value} (h : Lies w g t cs) {B : Nat} (hb : Below B w w') (hg : g < B) : Lies w' g t cs := (hb.block g hg).trans h
theorem Lies.later {w w' : World} {g : Nat} {t : TypeId} {cs : Array Value} (h : Lies w g t cs) (hb : Below w.heap.size w w') : Lies w' g t cs := h.below hb h.lt
theorem Lies.grown {w w' : World} {g : Nat} {t : TypeId} {cs : Array Value} (h : Lies w g t cs) {row : Option Nat} (hb : w.grownBy w' row) (hg : some g ≠ row) : Lies w' g t cs := (hb.block g h.lt hg).trans h
theorem Lies.far {w : World} {g : Nat} {t : TypeId} {cs : Array Value} (h : Lies w g t cs) {p : Addr} (hp : g ≠ p.block) (u : Value) : Lies (w.setCell p u) g t cs := (Below.heap_setCell w p u g hp).trans h
theorem Lies.set {w : World} {g : Nat} {t : TypeId} {cs : Array Value} (h : Lies w g t cs) (i : Nat) (u : Value) : Lies (w.setCell ⟨g, i, none⟩ u) g t (cs.setIfInBounds i u) := by
 unfold Lies at h ⊢
 simp only [World.setCell, Array.getElem?_modify, if_true, h]
 rfl
theorem below_new (w : World) (o : Obj) : Below w.heap.size w (w.alloc o) := (Below.refl _ _).alloc (Nat.le_refl _) _
theorem new_cells (w : World) (t : TypeId) (l : List Value) {N : Nat} (hN : w.heap.size = N) : ∀ (j : Nat) u, l[j]? = some u → (w.alloc (.cells l.toArray t)).cell? ((⟨N, 0, none⟩ : Addr).add j) = some u := by
 intro j u hj
 have h := (Lies.new' w t l.toArray hN).cell j
 rw [show (⟨N, 0, none⟩ : Addr).add j = ⟨N, j, none⟩ by unfold Addr.add; split <;> simp_all, h]
 simpa using hj
theorem own_mono {w : World} {B B' : Nat} {e : TypeId} {size n : Nat} {v : Value} {xs : List Value} (h : w.ownsRow B e size v n xs) (hB : B' ≤ B) : w.ownsRow B' e size v n xs := by
 refine ⟨h.1, ?_⟩
 rcases h.2 with h0 | ⟨g, cap, cur, h1, h2, h3⟩
 ·exact .inl h0
 ·exact .inr ⟨g, cap, cur, h1, by omega, h3⟩
theorem own_same {w w' : World} {B : Nat} {e : TypeId} {size n : Nat} {v : Value} {xs : List Value} (h : w.ownsRow B e size v n xs) (hs : ∀ g, B ≤ g → g < w.heap.size → w'.heap[g]? = w.heap[g]?) : w'.ownsRow B e size v n xs := by
 refine ⟨h.1, ?_⟩
 rcases h.2 with h0 | ⟨g, cap, cur, h1, h2, h3, h4⟩
 ·exact .inl h0
 ·exact .inr ⟨g, cap, cur, h1, h2, (hs g h2 (lt_of_block h3)).trans h3, h4⟩
theorem own_later {w w' : World} {B : Nat} {e : TypeId} {size n : Nat} {v : Value} {xs : List Value} (h : w.ownsRow B e size v n xs) (hb : Below w.heap.size w w') : w'.ownsRow B e size v n xs := own_same h fun g _ hg => hb.block g hg
theorem own_block {w : World} {lo n : Nat} {e : TypeId} {sz : Nat} {v : Value} {xs : List Value} (h : w.ownsRow lo e sz v n xs) : ∀ k, v.ownBlock = some k → lo ≤ k ∧ k < w.heap.size := by
 intro k hk
 rcases h.2 with ⟨rfl, _⟩ | ⟨g, cap, cur, rfl, hg, hh, _⟩
 ·simp [Value.ownBlock] at hk
 ·have : g = k := by simpa [Value.ownBlock] using hk
  subst this
  exact ⟨hg, lt_of_block hh⟩
theorem own_slice {w : World} {lo n : Nat} {e : TypeId} {sz : Nat} {v : Value} {xs : List Value} (h : w.ownsRow lo e sz v n xs) : ∃ A k c, v = .slice A k c := by
 rcases h.2 with ⟨h, _⟩ | ⟨g, cap, cur, h, _⟩ <;> exact ⟨_, _, _, h⟩
theorem own_cells {w : World} {B : Nat} {e : TypeId} {size n : Nat} {v : Value} {xs : List Value} (h : w.ownsRow B e size v n xs) :
  (v = .slice none 0 0 ∧ n = 0) ∨ ∃ g cap, v = .slice (some ⟨g, 0, none⟩) n cap ∧ n ≤ cap ∧ cap ≤ maxLen ∧ (∃ c t, w.heap[g]? = some (.cells c t (0, 0))) ∧ ∀ j u, xs[j]? = some u → w.cell? ⟨g, j, none⟩ = some u := by
 rcases h.2 with h0 | ⟨g, cap, cur, h1, h2, h3, h4, h5, h6, h7⟩
 ·exact .inl h0
 ·refine .inr ⟨g, cap, h1, h4, h5, ⟨_, _, h3⟩, fun j u hj => ?_⟩
  have hl : Lies w g e cur := h3
  rw [hl.cell]
  rw [← h7] at hj
  obtain ⟨hlt, he⟩ := List.getElem?_eq_some_iff.1 hj
  rw [List.getElem_take] at he
  rw [List.length_take] at hlt
  have hl2 : j < cur.toList.length := by omega
  rw [← Array.getElem?_toList, List.getElem?_eq_getElem hl2]
  exact congrArg some he
theorem AtCells.lt {w : World} {a : Addr} (h : AtCells w a) : a.block < w.heap.size := by
 obtain ⟨c, t, h⟩ := h
 exact (Array.getElem?_eq_some_iff.1 h).1
theorem take_step {α : Type} (l : List α) (k : Nat) (x : α) (h : l[k]? = some x) : l.take (k + 1) = l.take k ++ [x] := by
 rw [List.take_add_one, h]
 rfl

abbrev Str := List UInt8
inductive Ty where
 | mk (k : Int) (nm : Str) (v : Int) (kids : List Ty) (ls : List Str) (rv : Int)
namespace Ty
def kind : Ty → Int | .mk k _ _ _ _ _ => k
def kids : Ty → List Ty | .mk _ _ _ l _ _ => l
mutual
def deep : Ty → Nat
 | .mk _ _ _ l _ _ => 1 + deepL l
def deepL : List Ty → Nat
 | [] => 0
 | t :: r => max t.deep (deepL r)
end
mutual
def size : Ty → Nat
 | .mk _ _ _ l _ _ => 1 + sizeL l
def sizeL : List Ty → Nat
 | [] => 0
 | t :: r => t.size + sizeL r
end
end Ty

def Strs (w : World) (v : Value) (ls : List Str) : Prop :=
 ∃ A c, v = .slice A ls.length c ∧ ls.length ≤ c ∧ c ≤ maxLen ∧ (0 < ls.length → ∃ g o, A = some ⟨g, o, none⟩ ∧ ∀ (i : Nat) s, ls[i]? = some s → w.cell? ⟨g, o + i, none⟩ = some (.string (ba s)))
theorem Strs.nil (w : World) : Strs w (.slice none 0 0) [] := ⟨none, 0, rfl, Nat.le_refl _, by unfold maxLen; omega, fun h => absurd h (by simp)⟩
theorem Strs.keep {w w' : World} {v : Value} {ls : List Str} (h : Strs w v ls) (hk : ∀ g, g < w.heap.size → w'.heap[g]? = w.heap[g]?) : Strs w' v ls := by
 obtain ⟨A, c, h1, h2, h3, h4⟩ := h
 refine ⟨A, c, h1, h2, h3, fun h0 => ?_⟩
 obtain ⟨g, o, h5, h6⟩ := h4 h0
 exact ⟨g, o, h5, fun i s hs => (World.cell?_of_block (w := w) (a := ⟨g, o + i, none⟩) (hk g (World.block_lt_of_cell? w _ (h6 i s hs)))).trans (h6 i s hs)⟩
theorem Strs.later {w w' : World} {v : Value} {ls : List Str} (h : Strs w v ls) (hb : Below w.heap.size w w') : Strs w' v ls := h.keep hb.block
theorem Strs.slice {w : World} {v : Value} {ls : List Str} (h : Strs w v ls) : ∃ A c, v = .slice A ls.length c ∧ ls.length ≤ c ∧ c ≤ maxLen := by
 obtain ⟨A, c, h1, h2, h3, _⟩ := h
 exact ⟨A, c, h1, h2, h3⟩

def kidAt (v : Value) (i : Nat) : Addr := match v with | .slice (some a) _ _ => ⟨a.block, a.off + i * 6, none⟩ | _ => ⟨0, 0, none⟩
def SlOk (w : World) (v : Value) (n : Nat) : Prop := ∃ A c, v = .slice A n c ∧ n ≤ c ∧ c ≤ maxLen ∧ (0 < n → ∃ g o, A = some ⟨g, o, none⟩ ∧ AtCells w ⟨g, o, none⟩)
def tyC (k : Int) (nm : Str) (v : Int) (kv lv : Value) (rv : Int) : List Value := [.int .i64 k, .string (ba nm), .int .i64 v, kv, lv, .int .i64 rv]
def ReadsAt (w : World) (a : Addr) (l : List Value) : Prop := ∀ i u, l[i]? = some u → w.cell? ⟨a.block, a.off + i, none⟩ = some u
inductive TA (w : World) : Addr → Ty → Prop
 | mk (a : Addr) (k : Int) (nm : Str) (v : Int) (kids : List Ty) (ls : List Str) (rv : Int) (kv lv : Value) (h0 : a.spot = none) (hat : AtCells w a) (hr : ReadsAt w a (tyC k nm v kv lv rv))
   (hk : SlOk w kv kids.length) (hl : Strs w lv ls) (hks : ∀ (i : Nat) t, kids[i]? = some t → TA w (kidAt kv i) t) : TA w a (.mk k nm v kids ls rv)
def TV (w : World) (t : Ty) (l : List Value) : Prop :=
 match t with
 | .mk k nm v kids ls rv => ∃ kv lv, l = tyC k nm v kv lv rv ∧ SlOk w kv kids.length ∧ Strs w lv ls ∧ ∀ (i : Nat) t, kids[i]? = some t → TA w (kidAt kv i) t

theorem SlOk.keep {w w' : World} {v : Value} {n : Nat} (h : SlOk w v n) (hk : ∀ g, g < w.heap.size → w'.heap[g]? = w.heap[g]?) : SlOk w' v n := by
 obtain ⟨A, c, h1, h2, h3, h4⟩ := h
 refine ⟨A, c, h1, h2, h3, fun h0 => ?_⟩
 obtain ⟨g, o, h5, h6⟩ := h4 h0
 exact ⟨g, o, h5, h6.keep (hk _ h6.lt)⟩
theorem ReadsAt.keep {w w' : World} {a : Addr} {l : List Value} (h : ReadsAt w a l) (hk : w'.heap[a.block]? = w.heap[a.block]?) : ReadsAt w' a l := fun i u hu => (World.cell?_of_block (w := w) (a := ⟨a.block, a.off + i, none⟩) hk).trans (h i u hu)
theorem TA.at_ {w : World} {a : Addr} {t : Ty} (h : TA w a t) : AtCells w a := by cases h; assumption
theorem TA.spot {w : World} {a : Addr} {t : Ty} (h : TA w a t) : a.spot = none := by cases h; assumption
theorem TA.keep {w w' : World} (hk : ∀ g, g < w.heap.size → w'.heap[g]? = w.heap[g]?) {a : Addr} {t : Ty} (h : TA w a t) : TA w' a t := by
 induction h with
 | mk a k nm v kids ls rv kv lv h0 hat hr hsl hl _ ih =>
  exact .mk a k nm v kids ls rv kv lv h0 (hat.keep (hk _ hat.lt)) (hr.keep (hk _ hat.lt)) (hsl.keep hk) (hl.keep hk) ih
theorem TA.later {w w' : World} {a : Addr} {t : Ty} (h : TA w a t) (hb : Below w.heap.size w w') : TA w' a t := h.keep hb.block
theorem TV.keep {w w' : World} (hk : ∀ g, g < w.heap.size → w'.heap[g]? = w.heap[g]?) {t : Ty} {l : List Value} (h : TV w t l) : TV w' t l := by
 obtain ⟨k, nm, v, kids, ls, rv⟩ := t
 obtain ⟨kv, lv, h1, h2, h3, h4⟩ := h
 exact ⟨kv, lv, h1, h2.keep hk, h3.keep hk, fun i t ht => (h4 i t ht).keep hk⟩
theorem TV.later {w w' : World} {t : Ty} {l : List Value} (h : TV w t l) (hb : Below w.heap.size w w') : TV w' t l := h.keep hb.block
theorem TV.len {w : World} {t : Ty} {l : List Value} (h : TV w t l) : l.length = 6 := by
 obtain ⟨k, nm, v, kids, ls, rv⟩ := t
 obtain ⟨kv, lv, rfl, _⟩ := h
 rfl
theorem TV.at_ {w : World} {t : Ty} {l : List Value} (h : TV w t l) {a : Addr} (h0 : a.spot = none) (hat : AtCells w a) (hr : ReadsAt w a l) : TA w a t := by
 obtain ⟨k, nm, v, kids, ls, rv⟩ := t
 obtain ⟨kv, lv, rfl, h1, h2, h3⟩ := h
 exact .mk a k nm v kids ls rv kv lv h0 hat hr h1 h2 h3
theorem TV.new {w : World} {t : Ty} {l : List Value} (h : TV w t l) (e : TypeId) {N : Nat} (hN : w.heap.size = N) : TA (w.alloc (.cells l.toArray e)) ⟨N, 0, none⟩ t := by
 subst hN
 refine (h.later (below_new w _)).at_ rfl ⟨_, _, Lies.new w e l.toArray⟩ (fun i u hu => ?_)
 rw [show (⟨w.heap.size, 0 + i, none⟩ : Addr) = ⟨w.heap.size, i, none⟩ by rw [Nat.zero_add], (Lies.new w e l.toArray).cell]
 simpa using hu
theorem TA.open {w : World} {a : Addr} {k : Int} {nm : Str} {v : Int} {kids : List Ty} {ls : List Str} {rv : Int} (h : TA w a (.mk k nm v kids ls rv)) : ∃ kv lv, a.spot = none ∧ AtCells w a ∧ ReadsAt w a (tyC k nm v kv lv rv) ∧ SlOk w kv kids.length ∧ Strs w lv ls ∧ ∀ (i : Nat) t, kids[i]? = some t → TA w (kidAt kv i) t := by
 cases h with
 | mk _ _ _ _ _ _ _ kv lv h0 hat hr hk hl hks => exact ⟨kv, lv, h0, hat, hr, hk, hl, hks⟩
theorem TA.tv {w : World} {_a : Addr} {k : Int} {nm : Str} {v : Int} {kids : List Ty} {ls : List Str} {rv : Int} {kv lv : Value} (hk : SlOk w kv kids.length) (hl : Strs w lv ls) (hks : ∀ (i : Nat) t, kids[i]? = some t → TA w (kidAt kv i) t) : TV w (.mk k nm v kids ls rv) (tyC k nm v kv lv rv) := ⟨kv, lv, rfl, hk, hl, hks⟩
end Go.Proofs.YtmodmojocclmaaaGreatDoor.K

/- Worlds in which nothing but a block has turned; the cells of a value. -/
namespace Go.Proofs.YtmodmojocclmaaaGreatDoor.K
open Go Go.MapKept Go.ChangeMaps Go.RowKit

structure Bt (b : Nat) (w w' : World) : Prop where
 os : w'.os = w.os
 tape : w'.tape = w.tape
 output : w'.output = w.output
 size : w.heap.size ≤ w'.heap.size
 block : ∀ i, i < w.heap.size → i ≠ b → w'.heap[i]? = w.heap[i]?
theorem Bt.refl (b : Nat) (w : World) : Bt b w w := ⟨rfl, rfl, rfl, Nat.le_refl _, fun _ _ _ => rfl⟩
theorem Bt.trans {b : Nat} {A B C : World} (h : Bt b A B) (k : Bt b B C) : Bt b A C :=
 ⟨k.os.trans h.os, k.tape.trans h.tape, k.output.trans h.output, Nat.le_trans h.size k.size, fun i h1 h2 => (k.block i (Nat.lt_of_lt_of_le h1 h.size) h2).trans (h.block i h1 h2)⟩
theorem Bt.of_below {b : Nat} {w w' : World} (h : Below w.heap.size w w') : Bt b w w' := ⟨h.os, h.tape, h.output, h.size, fun i hi _ => h.block i hi⟩
theorem Bt.below {b B : Nat} {w w' : World} (h : Bt b w w') (hb : B ≤ b) (hB : B ≤ w.heap.size) : Below B w w' := ⟨h.os, h.tape, h.output, h.size, fun i hi => h.block i (by omega) (by omega)⟩
theorem Lies.bt {b : Nat} {w w' : World} (h : Bt b w w') {g : Nat} {t : TypeId} {cs : Array Value} (hl : Lies w g t cs) (hg : g ≠ b) : Lies w' g t cs := (h.block g hl.lt hg).trans hl

def vC (k n : Int) (nm : Str) (kv : Value) : List Value := [.int .i64 k, .int .i64 n, .string (ba nm), kv]
theorem info_val : (Tryz.prog.info? 38).map (fun i => i.size) = some 4 := by kernel_rfl
end Go.Proofs.YtmodmojocclmaaaGreatDoor.K

/- Plain facts on what begins a text: a word stays a word when what is behind it is cut, or begins with a blank or a note. -/
namespace Go.Proofs.YtmodmojocclmaaaGreatDoor

def sepB (c : UInt8) : Bool := c.toNat == 32 || c.toNat == 9 || c.toNat == 13 || c.toNat == 10 || c.toNat == 35
def sepH : List UInt8 → Bool
 | [] => true
 | c :: _ => sepB c

theorem span_take (p : UInt8 → Bool) (r : List UInt8) : ∀ n, Lx.spanN p (r.take n) = min n (Lx.spanN p r) := by
 induction r with
 | nil => intro n; simp [Lx.spanN]
 | cons a r ih =>
  intro n
  cases n with
  | zero => simp [Lx.spanN]
  | succ n =>
   simp only [List.take_succ_cons, Lx.spanN, ih]
   split <;> omega
theorem pre_take (d l : List UInt8) (n : Nat) (h : d.length ≤ n) : Lx.preB d (l.take n) = Lx.preB d l := by
 rw [Bool.eq_iff_iff]
 simp only [Lx.preB, List.isPrefixOf_iff_prefix]
 constructor
 ·intro h1; exact h1.trans (List.take_prefix n l)
 ·intro h1
  rw [List.prefix_take_iff]
  exact ⟨h1, h⟩
theorem pre_take_false (d l : List UInt8) (n : Nat) (h : Lx.preB d l = false) : Lx.preB d (l.take n) = false := by
 rw [Bool.eq_false_iff] at h ⊢
 intro h1
 apply h
 simp only [Lx.preB, List.isPrefixOf_iff_prefix] at h1 ⊢
 exact h1.trans (List.take_prefix n l)

theorem numF_congr {l l' : List UInt8} {n : Nat} (h : l.take n = l'.take n) : Lx.numF l n = Lx.numF l' n := by unfold Lx.numF; rw [h]
theorem first_take {r : List UInt8} {x : Lx.Tk} {m n : Nat} (h : firstF r = some (x, m)) (hn : m ≤ n) : firstF (r.take n) = some (x, m) := by
 obtain ⟨hm0, hmr⟩ := firstF_bound h
 obtain ⟨k, hk, hb, hr, hno⟩ := firstF_cases h
 have hn0 : 0 < n := by omega
 have hhead : ∀ d, headIn d (r.take n) = headIn d r := by
  intro d
  cases r with
  | nil => simp
  | cons a r => cases n with
   | zero => omega
   | succ n => rfl
 have hno2 : ∀ j, j < k → begF j (r.take n) = false := by
  intro j hj
  have := hno j hj
  match j with
  | 0 => simp only [begF] at this ⊢; rw [hhead]; exact this
  | 1 => simp only [begF] at this ⊢; rw [hhead]; exact this
  | j + 2 => exact pre_take_false _ _ _ this
 have hres : begF k (r.take n) = true ∧ readF k (r.take n) = some (x, m) := by
  match k, hb, hr with
  | 0, hb, hr =>
   simp only [begF] at hb ⊢
   refine ⟨by rw [hhead]; exact hb, ?_⟩
   simp only [readF] at hr ⊢
   have hmd : m = digN r := by
    simp only [Lx.numF] at hr; split at hr
    ·simp only [Option.some.injEq, Prod.mk.injEq] at hr; omega
    ·cases hr
   have e : digN (r.take n) = digN r := by
    have := span_take (Lx.inB Lx.digs) r n
    simp only [digN] at hmd ⊢; omega
   rw [e, ← hr]
   exact numF_congr (by rw [List.take_take]; congr 1; omega)
  | 1, hb, hr =>
   simp only [begF] at hb ⊢
   refine ⟨by rw [hhead]; exact hb, ?_⟩
   simp only [readF] at hr ⊢
   have hmi : insN r ≤ m ∧ (m = insN r → Lx.preB [33] (r.drop (insN r)) = true → Lx.nameF r (insN r) = Lx.nameF r (insN r)) := by
    refine ⟨?_, fun _ _ => rfl⟩
    simp only [Lx.nameF] at hr
    split at hr
    ·cases hr
    split at hr
    ·simp only [Option.some.injEq, Prod.mk.injEq] at hr; omega
    split at hr
    ·simp only [Option.some.injEq, Prod.mk.injEq] at hr; omega
    split at hr
    ·simp only [Option.some.injEq, Prod.mk.injEq] at hr; omega
    ·simp only [Option.some.injEq, Prod.mk.injEq] at hr; omega
   have e : insN (r.take n) = insN r := by
    have := span_take (Lx.inB Lx.inss) r n
    have := hmi.1
    simp only [insN] at this ⊢; omega
   have e1 : (r.take n).take (insN r) = r.take (insN r) := by rw [List.take_take]; congr 1; have := hmi.1; omega
   have e2 : Lx.capB (r.take n) = Lx.capB r := by
    cases r with
    | nil => simp
    | cons a r => cases n with
     | zero => omega
     | succ n => rfl
   have e3 : (r.take n).drop (insN r) = (r.drop (insN r)).take (n - insN r) := by rw [List.drop_take]
   rw [e, ← hr]
   unfold Lx.nameF
   rw [e1, e2, e3]
   by_cases hp : Lx.preB [33] (r.drop (insN r)) = true
   ·by_cases hlt : insN r < n
    ·rw [pre_take [33] _ _ (by simp; omega)]
    ·have hin : insN r = m := by have := hmi.1; omega
     simp only [Lx.nameF, hp, if_true] at hr
     split at hr
     ·cases hr
     split
     ·rename_i h1 h2; exact absurd h2 h1
     split at hr
     ·rename_i hcap; simp [hcap]
     split at hr
     ·rename_i hcap hkw; simp [hcap, hkw]
     ·simp only [Option.some.injEq, Prod.mk.injEq] at hr; omega
   ·rw [pre_take_false _ _ _ (Bool.eq_false_iff.2 hp), Bool.eq_false_iff.2 hp]
  | k + 2, hb, hr =>
   simp only [readF, Option.some.injEq, Prod.mk.injEq] at hr
   refine ⟨?_, by simp only [readF, Option.some.injEq, Prod.mk.injEq]; exact hr⟩
   simp only [begF] at hb ⊢
   rw [pre_take _ _ _ (by omega)]
   exact hb
 rw [firstF_hit _ k hk hno2 hres.1, hres.2]
end Go.Proofs.YtmodmojocclmaaaGreatDoor
