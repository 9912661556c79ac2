/- Contracts of package lex, fourth part: a number, and the two closures of the table's first rows. -/
import Derived.Test.YtgffhjcnfjgpnaaDoorWalkC
import Derived.Test.YtgffhjcnfjgpnaaDoorNumMath
import Derived.Lib.AtoiErrMem
namespace Go.Proofs.YtgffhjcnfjgpnaaDoor
open Go.RowKit

theorem bcell {W w1 : World} (hb : Below W.heap.size W w1) : (∀ b o, b < W.heap.size → w1.cell? ⟨b, o, none⟩ = W.cell? ⟨b, o, none⟩) ∧ (∀ b o, b < W.heap.size → w1.frozen? ⟨b, o, none⟩ = W.frozen? ⟨b, o, none⟩) :=
  ⟨fun b o h => hb.cell (p := ⟨b, o, none⟩) h, fun b o h => hb.frozen (p := ⟨b, o, none⟩) h⟩
theorem below_set4 {B g : Nat} {w w' : World} (h : Below B w w') (hg : B ≤ g) {a b c d : Value} : Below B w ((((w'.setCell ⟨g, 0, none⟩ a).setCell ⟨g, 1, none⟩ b).setCell ⟨g, 2, none⟩ c).setCell ⟨g, 3, none⟩ d) :=
  (((h.setCell (p := ⟨g, 0, none⟩) hg _).setCell (p := ⟨g, 1, none⟩) hg _).setCell (p := ⟨g, 2, none⟩) hg _).setCell (p := ⟨g, 3, none⟩) hg _
theorem parseInt_ok (s : ByteArray) (hmax : s.size ≤ 9223372036854775806) (v : Int) (h : Lib.parseIntB 64 s.data.toList = .ok v) (w : World) :
    Calls Tryd.prog 32 #[.string s, .int .i64 10, .int .i64 64] w fun e w' => e = .returned (.tuple #[.int .i64 v, .nilIface]) ∧ Below w.heap.size w w' :=
  (Tryd.strconv_ParseInt_10_at64_ok s hmax v h w).mono fun _ _ ⟨he, hw⟩ => ⟨he, by
    rcases hw with rfl | ⟨t, rfl⟩
    · exact Below.refl _ _
    · exact Lib.bytesWorld_below _ _ _⟩
theorem valN_digits (s : ByteArray) (n : Nat) : (s.extract 0 n).data.toList = s.data.toList.take n := by rw [Lib.extract_data]; simp
def NumEnd (l : List UInt8) (n : Nat) (w : World) (e : Ending) (w' : World) : Prop := e = .returned (resV (Lx.numF l n)) ∧ Below w.heap.size w w'
set_option maxHeartbeats 1000000 in
theorem number_any (s : ByteArray) (n : Nat) (w : World) (h0 : 0 < n) (hs : n ≤ s.size) (hl : s.size ≤ 140737488351232) (hd : ∀ c ∈ s.data.toList.take n, digB c)
    (te : TypeId) (pe : Value) (hv : w.cell? ⟨2, 0, none⟩ = some (.iface te pe)) :
    Calls Tryd.prog 23 #[.string s, .int .i64 (n : Int)] w (NumEnd s.data.toList n w) := by
  have HX := Lib.hid (extract_ba0 s n)
  have hne : s.data.toList.take n ≠ [] := by
    intro h
    have h2 := congrArg List.length h
    rw [List.length_take, Array.length_toList] at h2
    have h3 : s.data.size = s.size := rfl
    simp only [List.length_nil] at h2
    omega
  have hb : (s.extract 0 n).size ≤ 9223372036854775806 := by simp; omega
  have hb2 : (s.extract 0 n).size ≤ 281474976710656 := by simp; omega
  by_cases hval : Lx.valN (s.data.toList.take n) < 9223372036854775808
  · have hp := parse_ok _ hne hd hval
    rw [← valN_digits] at hp
    have HP := Lib.hid hp
    clear hp hd hne
    have HV := Lib.hid hval
    clear hval
    go_enter Tryd.func23, Tryd.ntmps23
    go_wp2_with (go_at_call 32; refine (parseInt_ok _ (by exact hb) _ HP.out _).mono ?_; rintro e w' ⟨rfl, hw⟩; obtain ⟨hc, hf⟩ := bcell hw)
    refine bodyPost_ret (v := .tuple #[tkV ⟨1, s.data.toList.take n, Lx.valN (s.data.toList.take n), 0⟩, .int .i64 n, .bool true]) ?_ rfl ⟨by rw [Lx.numF, if_pos HV.out]; rfl, ?_⟩
    · simp [results, Tryd.results23, go_sem, hc, tkV, HX.out]
    · exact below_set4 (((Below.refl _ _).alloc (Nat.le_refl _) _).trans (hw.mono (by simp))) (Nat.le_refl _)
  · have hp := parse_range _ hne hd hval
    rw [← valN_digits] at hp
    have HP := Lib.hid hp
    clear hp hd hne
    have HV := Lib.hid hval
    clear hval
    have hv2 : ∀ o, (w.alloc o).cell? ⟨2, 0, none⟩ = some (.iface te pe) := fun o => cell_alloc w o hv
    go_enter Tryd.func23, Tryd.ntmps23
    go_wp2_with (go_at_call 32; refine (Tryd.strconv_ParseInt_10_at64_range _ (by exact hb2) HP.out _ _ (by exact hv2 _) (.inr ⟨_, _, rfl⟩)).mono ?_; rintro e w' ⟨N, rfl, _, _, hw⟩; obtain ⟨hc, hf⟩ := bcell hw)
    refine bodyPost_ret (v := resV none) ?_ rfl ⟨by rw [Lx.numF, if_neg HV.out], ?_⟩
    · simp [results, Tryd.results23, go_sem, hc, resV, zeroV, HX.out]
    · exact below_set4 (((Below.refl _ _).alloc (Nat.le_refl _) _).trans (hw.mono (by simp))) (Nat.le_refl _)

theorem spanN_all (p : UInt8 → Bool) (l : List UInt8) : ∀ c ∈ l.take (Lx.spanN p l), p c = true := by
  induction l with
  | nil => simp [Lx.spanN]
  | cons a r ih =>
    intro c hc
    simp only [Lx.spanN] at hc
    split at hc
    · rename_i h
      simp only [List.take_succ_cons, List.mem_cons] at hc
      rcases hc with rfl | hc
      · exact h
      · exact ih c hc
    · simp at hc
theorem spanN_pos (p : UInt8 → Bool) (s : ByteArray) (h : 0 < s.size) (h0 : p s[0] = true) : 0 < Lx.spanN p s.data.toList := by
  have e := drop_one s 0 h
  simp only [List.drop_zero] at e
  rw [e, Lx.spanN, if_pos h0]; omega
def bS (l : List UInt8) : ByteArray := ⟨l.toArray⟩
def digD : ByteArray := ⟨#[48, 57]⟩
def letD : ByteArray := ⟨#[65, 90, 97, 122, 95, 95]⟩
def insD : ByteArray := ⟨#[65, 90, 97, 122, 95, 95, 48, 57]⟩
def fun30 (p : Addr) : Value := .func (.func 30) #[] #[.pointer (some p)]
def digN (l : List UInt8) : Nat := Lx.spanN (Lx.inB Lx.digs) l
def insN (l : List UInt8) : Nat := Lx.spanN (Lx.inB Lx.inss) l
theorem digN_le (s : ByteArray) : digN s.data.toList ≤ s.size := by have := spanN_le (Lx.inB Lx.digs) s.data.toList; simpa [digN] using this
theorem insN_le (s : ByteArray) : insN s.data.toList ≤ s.size := by have := spanN_le (Lx.inB Lx.inss) s.data.toList; simpa [insN] using this

def Reads0 (l : List UInt8) (w : World) (e : Ending) (w' : World) : Prop := e = .returned (resV (Lx.numF l (digN l))) ∧ Below w.heap.size w w'
def Reads1 (l : List UInt8) (w : World) (e : Ending) (w' : World) : Prop := e = .returned (resV (Lx.nameF l (insN l))) ∧ Below w.heap.size w w'
theorem span_dig (s : ByteArray) (p : Addr) (w : World) (hc : w.cell? p = some (.string digD)) (hs : s.size ≤ 140737488351232) :
    Calls Tryd.prog 24 #[.string s, .func (.func 30) #[] #[.pointer (some p)]] w fun e w' => e = .returned (.int .i64 (digN s.data.toList : Nat)) ∧ w = w' :=
  span_any s digD p w hc (by decide) hs
theorem span_ins (s : ByteArray) (p : Addr) (w : World) (hc : w.cell? p = some (.string insD)) (hs : s.size ≤ 140737488351232) :
    Calls Tryd.prog 24 #[.string s, .func (.func 30) #[] #[.pointer (some p)]] w fun e w' => e = .returned (.int .i64 (insN s.data.toList : Nat)) ∧ w = w' :=
  span_any s insD p w hc (by decide) hs
theorem res_cases (r : Option (Lx.Tk × Nat)) : r = none ∨ ∃ x m, r = some (x, m) := by
  rcases r with _ | ⟨x, m⟩
  · exact .inl rfl
  · exact .inr ⟨x, m, rfl⟩

set_option maxHeartbeats 1000000 in
theorem kinds1_any (s : ByteArray) (p q : Addr) (w : World) (hl : s.size ≤ 140737488351232) (h0 : 0 < digN s.data.toList)
    (hq : w.cell? q = some (fun30 p)) (hp : w.cell? p = some (.string digD))
    (te : TypeId) (pe : Value) (hv : w.cell? ⟨2, 0, none⟩ = some (.iface te pe)) :
    Calls Tryd.prog 22 #[.string s, .pointer (some q)] w (Reads0 s.data.toList w) := by
  have hq1 : ∀ o, (w.alloc o).cell? q = some (.func (.func 30) #[] #[.pointer (some p)]) := fun o => cell_alloc w o hq
  have hp1 : ∀ o, (w.alloc o).cell? p = some (.string digD) := fun o => cell_alloc w o hp
  have hv1 : ∀ o, (w.alloc o).cell? ⟨2, 0, none⟩ = some (.iface te pe) := fun o => cell_alloc w o hv
  have hdig : ∀ c ∈ s.data.toList.take (digN s.data.toList), digB c := fun c hc => (inB_digs c).1 (spanN_all _ _ c hc)
  have HD := Lib.hid hdig
  clear hdig
  have hle := digN_le s
  rcases res_cases (Lx.numF s.data.toList (digN s.data.toList)) with ho | ⟨x, m, ho⟩
  all_goals
    have HO := Lib.hid ho
    clear ho
    go_enter Tryd.func22, Tryd.ntmps22
    go_wp2_with (first | (go_at_call 24; refine (span_dig s p _ (by exact hp1 _) hl).mono ?_; rintro e w' ⟨rfl, rfl⟩) | (go_at_call 23; refine (number_any s (digN s.data.toList) _ h0 hle hl HD.out te pe (by exact hv1 _)).mono ?_; rintro e w' ⟨rfl, hw⟩; rw [HO.out]; simp only [resV, tkV, zeroV]; obtain ⟨hc, hf⟩ := bcell hw))
    refine bodyPost_ret (v := resV (Lx.numF s.data.toList (digN s.data.toList))) ?_ rfl ⟨rfl, ?_⟩
    · rw [HO.out]; simp [results, Tryd.results22, go_sem, hc, tkV, resV, zeroV]
    · exact below_set4 (((Below.refl _ _).alloc (Nat.le_refl _) _).trans (hw.mono (by simp))) (Nat.le_refl _)
set_option maxHeartbeats 1000000 in
theorem kinds2_any (s : ByteArray) (p q : Addr) (w : World) (hl : s.size ≤ 140737488351232) (h0 : 0 < insN s.data.toList)
    (hq : w.cell? q = some (fun30 p)) (hp : w.cell? p = some (.string insD)) :
    Calls Tryd.prog 25 #[.string s, .pointer (some q)] w (Reads1 s.data.toList w) := by
  have hq1 : ∀ o, (w.alloc o).cell? q = some (.func (.func 30) #[] #[.pointer (some p)]) := fun o => cell_alloc w o hq
  have hp1 : ∀ o, (w.alloc o).cell? p = some (.string insD) := fun o => cell_alloc w o hp
  have hle := insN_le s
  rcases res_cases (Lx.nameF s.data.toList (insN s.data.toList)) with ho | ⟨x, m, ho⟩
  all_goals
    have HO := Lib.hid ho
    clear ho
    go_enter Tryd.func25, Tryd.ntmps25
    go_wp2_with (first | (go_at_call 24; refine (span_ins s p _ (by exact hp1 _) hl).mono ?_; rintro e w' ⟨rfl, rfl⟩) | (go_at_call 26; refine (name_any s (insN s.data.toList) _ h0 hle hl).mono ?_; rintro e w' ⟨rfl, hw⟩; rw [HO.out]; simp only [resV, tkV, zeroV]; obtain ⟨hc, hf⟩ := bcell hw))
    refine bodyPost_ret (v := resV (Lx.nameF s.data.toList (insN s.data.toList))) ?_ rfl ⟨rfl, ?_⟩
    · rw [HO.out]; simp [results, Tryd.results25, go_sem, hc, tkV, resV, zeroV]
    · exact below_set4 (((Below.refl _ _).alloc (Nat.le_refl _) _).trans (hw.mono (by simp))) (Nat.le_refl _)
end Go.Proofs.YtgffhjcnfjgpnaaDoor
