/- How deep a term is, read off memory. -/
import Derived.Test.YtnkfkaahjplnmaaGreatDoorGfTerms
import Derived.Test.YtnkfkaahjplnmaaGreatDoorGlUnary
import Derived.Test.YtnkfkaahjplnmaaGreatDoorGaPure
import Derived.Test.YtnkfkaahjplnmaaGreatDoorGgLists
import Derived.Outline
namespace Go.Proofs.YtnkfkaahjplnmaaGreatDoor
open Go.RowKit Pz

def rowA (sz off : Nat) : Value → List Addr
  | .slice (some a) n _ => (List.range n).map fun i => ⟨a.block, a.off + i * sz + off, none⟩
  | _ => []
def cellV (w : World) (a : Addr) (k : Nat) : Value := (w.cell? ⟨a.block, a.off + k, none⟩).getD undef
/-- Where the terms stand that stand right below the one at an address. -/
def kidsA (w : World) (a : Addr) : List Addr := rowA 21 0 (cellV w a 5) ++ rowA 23 2 (cellV w a 6)
def maxL : List Nat → Nat
  | [] => 0
  | x :: r => max x (maxL r)
def sumL : List Nat → Nat
  | [] => 0
  | x :: r => x + sumL r
def dA (w : World) : Nat → Addr → Nat
  | 0, _ => 0
  | n + 1, a => 1 + maxL ((kidsA w a).map (dA w n))
def nA (w : World) : Nat → Addr → Nat
  | 0, _ => 0
  | n + 1, a => 1 + sumL ((kidsA w a).map (nA w n))
/-- A list's value as terms have them. -/
def SlOk (w : World) (p : Addr) : Prop := ∃ v, w.cell? p = some v ∧ (v = .slice none 0 0 ∨ ∃ g n c, v = .slice (some ⟨g, 0, none⟩) n c ∧ n ≤ c ∧ c ≤ maxLen)
/-- The memory at an address is a term's, to some depth. -/
def OkT (w : World) : Nat → Addr → Prop
  | 0, _ => True
  | n + 1, a => a.spot = none ∧ AtCells w a ∧ SlOk w ⟨a.block, a.off + 5, none⟩ ∧ SlOk w ⟨a.block, a.off + 6, none⟩ ∧ ∀ b ∈ kidsA w a, OkT w n b

theorem AtCells.lt {w : World} {a : Addr} (h : AtCells w a) : a.block < w.heap.size := by
  obtain ⟨c, t, h⟩ := h
  exact (Array.getElem?_eq_some_iff.1 h).1
theorem cellV_keep {w w' : World} {a : Addr} (h : w'.heap[a.block]? = w.heap[a.block]?) (k : Nat) : cellV w' a k = cellV w a k := by
  unfold cellV
  rw [World.cell?_of_block (w := w) (a := ⟨a.block, a.off + k, none⟩) h]
theorem kidsA_keep {w w' : World} {a : Addr} (h : w'.heap[a.block]? = w.heap[a.block]?) : kidsA w' a = kidsA w a := by
  unfold kidsA
  rw [cellV_keep h, cellV_keep h]
/-- What leaves the blocks that are there alone leaves depth and number. -/
theorem okT_keep {w w' : World} (hk : ∀ g, g < w.heap.size → w'.heap[g]? = w.heap[g]?) : ∀ n a, OkT w n a → OkT w' n a ∧ dA w' n a = dA w n a ∧ nA w' n a = nA w n a
  | 0, _, _ => ⟨trivial, rfl, rfl⟩
  | n + 1, a, ⟨h0, h1, h2, h3, h4⟩ => by
    have hb := hk _ h1.lt
    have ek : kidsA w' a = kidsA w a := kidsA_keep hb
    have hs : ∀ k, SlOk w ⟨a.block, k, none⟩ → SlOk w' ⟨a.block, k, none⟩ := fun k ⟨v, hv, h⟩ => ⟨v, (World.cell?_of_block (w := w) (a := ⟨a.block, k, none⟩) hb).trans hv, h⟩
    refine ⟨⟨h0, h1.keep hb, hs _ h2, hs _ h3, fun b hb' => ?_⟩, ?_, ?_⟩
    · rw [ek] at hb'
      exact (okT_keep hk n b (h4 b hb')).1
    · simp only [dA, ek]
      rw [List.map_congr_left fun b hb' => (okT_keep hk n b (h4 b hb')).2.1]
    · simp only [nA, ek]
      rw [List.map_congr_left fun b hb' => (okT_keep hk n b (h4 b hb')).2.2]

theorem own_cells {w : World} {P : Nat → Prop} {e : TypeId} {size n : Nat} {v : Value} {xs : List Value} (h : OwnP w P e size v n xs) :
    (v = .slice none 0 0 ∧ n = 0) ∨ ∃ g cap, v = .slice (some ⟨g, 0, none⟩) n cap ∧ n ≤ cap ∧ cap ≤ maxLen ∧ (∃ c t, w.heap[g]? = some (.cells c t (0, 0))) ∧ ∀ j u, xs[j]? = some u → w.cell? ⟨g, j, none⟩ = some u := by
  rcases h.2 with h0 | ⟨g, cap, cur, h1, h2, h3, h4, h5, h6, h7⟩
  · exact .inl h0
  · refine .inr ⟨g, cap, h1, h4, h5, ⟨_, _, h3⟩, fun j u hj => ?_⟩
    have hl : Lies w g e cur := h3
    rw [hl.cell]
    rw [← h7] at hj
    have := (List.getElem?_eq_some_iff.1 hj)
    obtain ⟨hlt, he⟩ := this
    rw [List.getElem_take] at he
    rw [List.length_take] at hlt
    have hl2 : j < cur.toList.length := by omega
    rw [← Array.getElem?_toList, List.getElem?_eq_getElem hl2]
    exact congrArg some he
theorem flat_idx {α : Type} (sz : Nat) : ∀ (ls : List (List α)), (∀ l ∈ ls, l.length = sz) → ∀ (i j : Nat) (l : List α) (u : α), ls[i]? = some l → l[j]? = some u → ls.flatten[i * sz + j]? = some u := by
  intro ls
  induction ls with
  | nil => intro _ i j l u h; simp at h
  | cons x r ih =>
    intro hl i j l u h hu
    have hx : x.length = sz := hl x (by simp)
    rw [List.flatten_cons]
    cases i with
    | zero =>
      have : x = l := by simpa using h
      subst this
      rw [List.getElem?_append_left (by have := (List.getElem?_eq_some_iff.1 hu).1; omega)]
      simpa using hu
    | succ i =>
      rw [List.getElem?_append_right (by rw [hx, Nat.succ_mul]; omega)]
      rw [show (i + 1) * sz + j - x.length = i * sz + j by rw [hx, Nat.succ_mul]; omega]
      exact ih (fun y hy => hl y (by simp [hy])) i j l u (by simpa using h) hu

theorem max_kids {w : World} {n : Nat} : ∀ (ts : List Tm) (l : List Addr), l.length = ts.length → (∀ (i : Nat) a t, l[i]? = some a → ts[i]? = some t → dA w n a = min n t.deep) → maxL (l.map (dA w n)) = min n (deepL ts)
  | [], [], _, _ => by simp [maxL, deepL]
  | [], _ :: _, h, _ => by simp at h
  | _ :: _, [], h, _ => by simp at h
  | t :: ts, a :: l, h, H => by
    have h1 := max_kids ts l (by simpa using h) (fun i a t h1 h2 => H (i + 1) a t (by simpa using h1) (by simpa using h2))
    have h2 := H 0 a t rfl rfl
    simp only [List.map_cons, maxL, deepL, h1, h2]
    omega
theorem max_arms {w : World} {n : Nat} : ∀ (ts : List Arm) (l : List Addr), l.length = ts.length → (∀ (i : Nat) a t, l[i]? = some a → ts[i]? = some t → dA w n a = min n t.2.2.deep) → maxL (l.map (dA w n)) = min n (deepA ts)
  | [], [], _, _ => by simp [maxL, deepA]
  | [], _ :: _, h, _ => by simp at h
  | _ :: _, [], h, _ => by simp at h
  | t :: ts, a :: l, h, H => by
    have h1 := max_arms ts l (by simpa using h) (fun i a t h1 h2 => H (i + 1) a t (by simpa using h1) (by simpa using h2))
    have h2 := H 0 a t rfl rfl
    simp only [List.map_cons, maxL, deepA, h1, h2]
    omega
theorem sum_kids {w : World} {n : Nat} : ∀ (ts : List Tm) (l : List Addr), l.length = ts.length → (∀ (i : Nat) a t, l[i]? = some a → ts[i]? = some t → nA w n a ≤ t.size) → sumL (l.map (nA w n)) ≤ sizeL ts
  | [], [], _, _ => by simp [sumL, sizeL]
  | [], _ :: _, h, _ => by simp at h
  | _ :: _, [], h, _ => by simp at h
  | t :: ts, a :: l, h, H => by
    have h1 := sum_kids ts l (by simpa using h) (fun i a t h1 h2 => H (i + 1) a t (by simpa using h1) (by simpa using h2))
    have h2 := H 0 a t rfl rfl
    simp only [List.map_cons, sumL, sizeL]
    omega
theorem sum_arms {w : World} {n : Nat} : ∀ (ts : List Arm) (l : List Addr), l.length = ts.length → (∀ (i : Nat) a t, l[i]? = some a → ts[i]? = some t → nA w n a ≤ t.2.2.size) → sumL (l.map (nA w n)) ≤ sizeA ts
  | [], [], _, _ => by simp [sumL, sizeA]
  | [], _ :: _, h, _ => by simp at h
  | _ :: _, [], h, _ => by simp at h
  | t :: ts, a :: l, h, H => by
    have h1 := sum_arms ts l (by simpa using h) (fun i a t h1 h2 => H (i + 1) a t (by simpa using h1) (by simpa using h2))
    have h2 := H 0 a t rfl rfl
    simp only [List.map_cons, sumL, sizeA]
    omega
theorem maxL_append : ∀ a b, maxL (a ++ b) = max (maxL a) (maxL b)
  | [], b => by simp [maxL]
  | x :: a, b => by simp only [List.cons_append, maxL, maxL_append a b]; omega
theorem sumL_append : ∀ a b, sumL (a ++ b) = sumL a + sumL b
  | [], b => by simp [sumL]
  | x :: a, b => by simp only [List.cons_append, sumL, sumL_append a b]; omega

/-- The cells of a list lie from an address on. -/
def ReadsAt (w : World) (a : Addr) (l : List Value) : Prop := ∀ i u, l[i]? = some u → w.cell? ⟨a.block, a.off + i, none⟩ = some u
theorem rowA_len {sz off n : Nat} {g c : Nat} : (rowA sz off (.slice (some ⟨g, 0, none⟩) n c)).length = n := by simp [rowA]
theorem rowA_get {sz off n : Nat} {g c i : Nat} {a : Addr} (h : (rowA sz off (.slice (some ⟨g, 0, none⟩) n c))[i]? = some a) : i < n ∧ a = ⟨g, i * sz + off, none⟩ := by
  simp only [rowA, List.getElem?_map] at h
  rcases Nat.lt_or_ge i n with hi | hi
  · rw [List.getElem?_range hi] at h
    simp only [Option.map_some, Option.some.injEq, Nat.zero_add] at h
    exact ⟨hi, h.symm⟩
  · rw [List.getElem?_eq_none (by simpa using hi)] at h
    cases h
theorem deep_ht {w : World} {P : Nat → Prop} {t : Tm} {l : List Value} (h : HT w P t l) : ∀ (a : Addr), a.spot = none → AtCells w a → ReadsAt w a l → ∀ n, OkT w n a ∧ dA w n a = min n t.deep ∧ nA w n a ≤ t.size := by
  induction h with
  | mk k pos nm pm m kids arms kv av kc vv bc hk hkl hks hvl hbl ha hav has ih1 ih2 =>
    intro a h0 hat hr n
    cases n with
    | zero => exact ⟨trivial, by simp [dA], by simp [nA]⟩
    | succ n =>
      have c5 : w.cell? ⟨a.block, a.off + 5, none⟩ = some kv := hr 5 kv rfl
      have c6 : w.cell? ⟨a.block, a.off + 6, none⟩ = some av := hr 6 av rfl
      have e5 : cellV w a 5 = kv := by unfold cellV; rw [c5]; rfl
      have e6 : cellV w a 6 = av := by unfold cellV; rw [c6]; rfl
      have al : (List.zipWith (fun (a : Arm) (x : Value × List Value) => Value.string (ba a.1) :: x.1 :: x.2) arms (vv.zip bc)).length = arms.length := by simp [hvl, hbl]
      have H1 : SlOk w ⟨a.block, a.off + 5, none⟩ ∧ (rowA 21 0 kv).length = kids.length ∧ ∀ (i : Nat) b t, (rowA 21 0 kv)[i]? = some b → kids[i]? = some t → OkT w n b ∧ dA w n b = min n t.deep ∧ nA w n b ≤ t.size := by
        rcases own_cells hk.2 with ⟨rfl, hz⟩ | ⟨g, cap, rfl, hc1, hc2, hc3, hc4⟩
        · exact ⟨⟨_, c5, .inl rfl⟩, by simp [rowA]; omega, fun i b t hb => by simp [rowA] at hb⟩
        · refine ⟨⟨_, c5, .inr ⟨_, _, _, rfl, hc1, hc2⟩⟩, by rw [rowA_len, hkl], fun i b t hb ht => ?_⟩
          obtain ⟨hi, rfl⟩ := rowA_get hb
          obtain ⟨c, hc⟩ : ∃ c, kc[i]? = some c := ⟨_, List.getElem?_eq_getElem hi⟩
          refine ih1 i t c ht hc ⟨g, i * 21 + 0, none⟩ rfl hc3 (fun j u hj => ?_) n
          have := hc4 _ _ (flat_idx 21 kc hk.1 i j c u hc hj)
          simpa [Nat.add_assoc] using this
      have H2 : SlOk w ⟨a.block, a.off + 6, none⟩ ∧ (rowA 23 2 av).length = arms.length ∧ ∀ (i : Nat) b t, (rowA 23 2 av)[i]? = some b → arms[i]? = some t → OkT w n b ∧ dA w n b = min n t.2.2.deep ∧ nA w n b ≤ t.2.2.size := by
        rcases own_cells ha.2 with ⟨rfl, hz⟩ | ⟨g, cap, rfl, hc1, hc2, hc3, hc4⟩
        · exact ⟨⟨_, c6, .inl rfl⟩, by simp [rowA]; omega, fun i b t hb => by simp [rowA] at hb⟩
        · refine ⟨⟨_, c6, .inr ⟨_, _, _, rfl, hc1, hc2⟩⟩, by rw [rowA_len, al], fun i b t hb ht => ?_⟩
          obtain ⟨hi, rfl⟩ := rowA_get hb
          have hia : i < arms.length := by omega
          obtain ⟨c, hc⟩ : ∃ c, bc[i]? = some c := ⟨_, List.getElem?_eq_getElem (by omega)⟩
          obtain ⟨v, hv⟩ : ∃ v, vv[i]? = some v := ⟨_, List.getElem?_eq_getElem (by omega)⟩
          refine ih2 i t c ht hc ⟨g, i * 23 + 2, none⟩ rfl hc3 (fun j u hj => ?_) n
          have hz : (List.zipWith (fun (a : Arm) (x : Value × List Value) => Value.string (ba a.1) :: x.1 :: x.2) arms (vv.zip bc))[i]? = some (Value.string (ba t.1) :: v :: c) := by
            rw [List.getElem?_zipWith, ht, (List.getElem?_zip_eq_some (z := (v, c))).2 ⟨hv, hc⟩]
          have := hc4 _ _ (flat_idx 23 _ ha.1 i (j + 2) _ u hz (by simpa using hj))
          have e : i * 23 + 2 + j = i * 23 + (j + 2) := by omega
          show w.cell? ⟨g, i * 23 + 2 + j, none⟩ = some u
          rw [e]
          exact this
      have ek : kidsA w a = rowA 21 0 kv ++ rowA 23 2 av := by unfold kidsA; rw [e5, e6]
      refine ⟨⟨h0, hat, H1.1, H2.1, fun b hb => ?_⟩, ?_, ?_⟩
      · rw [ek, List.mem_append] at hb
        rcases hb with hb | hb
        · obtain ⟨i, hi⟩ := List.mem_iff_getElem?.1 hb
          have hlt := (List.getElem?_eq_some_iff.1 hi).1
          exact (H1.2.2 i b _ hi (List.getElem?_eq_getElem (by omega))).1
        · obtain ⟨i, hi⟩ := List.mem_iff_getElem?.1 hb
          have hlt := (List.getElem?_eq_some_iff.1 hi).1
          exact (H2.2.2 i b _ hi (List.getElem?_eq_getElem (by omega))).1
      · simp only [dA, ek, List.map_append, maxL_append, Tm.deep]
        rw [max_kids kids _ H1.2.1 (fun i b t h1 h2 => (H1.2.2 i b t h1 h2).2.1), max_arms arms _ H2.2.1 (fun i b t h1 h2 => (H2.2.2 i b t h1 h2).2.1)]
        omega
      · simp only [nA, ek, List.map_append, sumL_append, Tm.size]
        have s1 := sum_kids kids _ H1.2.1 (fun i b t h1 h2 => (H1.2.2 i b t h1 h2).2.2)
        have s2 := sum_arms arms _ H2.2.1 (fun i b t h1 h2 => (H2.2.2 i b t h1 h2).2.2)
        omega
end Go.Proofs.YtnkfkaahjplnmaaGreatDoor

/- The contract of what gathers what stands right below some terms. -/
namespace Go.Proofs.YtnkfkaahjplnmaaGreatDoor
open Go.RowKit Pz

def addU (M : List Addr) (d : Addr) : List Addr := if d ∈ M then M else M ++ [d]
def ptrV (a : Addr) : Value := .pointer (some a)
/-- The addresses gathered so far: the map's, and the list's. -/
def BSt (w0 : World) (M : List Addr) (W : World) : Prop :=
  ∃ v, Lies W (w0.heap.size + 1) 111 #[.map (some w0.heap.size)] ∧ Lies W (w0.heap.size + 2) 84 #[v] ∧ PtrSet W (.agg #[]) w0.heap.size M ∧
    W.ownsRow (w0.heap.size + 3) 86 1 v M.length (M.map ptrV) ∧ Below w0.heap.size w0 W
theorem zero_unit (w : World) : (zeroValue 112).run Tryz.prog w = .ok (.agg #[]) w := by go_simp
theorem info_ptr : (Tryz.prog.info? 86).map (fun i => (i.zero, i.size, i.bytes)) = some (some (.pointer none), 1, 8) := by kernel_rfl
theorem size_term : ∃ inf, Tryz.prog.info? 39 = some inf ∧ inf.size ≠ 0 := by
  obtain ⟨ie, h1, _, h3⟩ := info39
  exact ⟨ie, h1, by omega⟩

set_option maxRecDepth 100000 in
set_option maxHeartbeats 2000000 in
theorem add_any (w0 w : World) (M : List Addr) (d : Addr) (hst : BSt w0 M w) (hd : AtCells w0 d) (hM : ∀ x ∈ M, AtCells w0 x) (hl : M.length ≤ 1000000000) :
    Calls Tryz.prog 42 #[.pointer (some d), .pointer (some ⟨w0.heap.size + 1, 0, none⟩), .pointer (some ⟨w0.heap.size + 2, 0, none⟩)] w fun e w' => e = .returned (.tuple #[]) ∧ BSt w0 (addU M d) w' := by
  obtain ⟨v, h1, h2, h3, h4, h5⟩ := hst
  have hd' : AtCells w d := hd.keep (h5.block _ hd.lt)
  have hM' : ∀ x ∈ M, AtCells w x := fun x hx => (hM x hx).keep (h5.block _ (hM x hx).lt)
  obtain ⟨inf, hinf, hsz⟩ := size_term
  obtain ⟨i0, hi, hz0, hz1, hz2⟩ := info_parts info_ptr
  have hvs : ∃ A k c, v = .slice A k c := by rcases (OwnP.of h4).2 with ⟨h, _⟩ | ⟨g, cap, cur, h, _⟩ <;> exact ⟨_, _, _, h⟩
  obtain ⟨A0, k0, c0, rfl⟩ := hvs
  have a1 := h1.cell 0
  have a2 := h2.cell 0
  have f2 := h2.free 0
  have hlt3 := h2.lt
  have hzu := zero_unit w
  by_cases hm : d ∈ M
  · have hdec : decide (d ∈ M) = true := decide_eq_true hm
    go_enter Tryz.func42, Tryz.ntmps42
    go_wp2_with (first | (at_lookup; refine wpList_lookup_ptr _ rfl (.tmp 7) (.tmp 8) 111 rfl rfl h3 Tryz.underlying111 Tryz.underlying86 hinf hsz hzu d rfl hd' hM' ?_; rw [hdec]))
    go_end0
    unfold addU
    rw [if_pos hm]
    have hb := below_new w (.cells #[] 112)
    exact ⟨rfl, _, h1.later hb, h2.later hb, h3.keep (hb.block _ (by omega)), own_later h4 hb, h5.trans (hb.mono (by omega))⟩
  · have hdec : decide (d ∈ M) = false := decide_eq_false hm
    have hb := below_new w (.cells #[] 112)
    have h1b := h1.later hb
    have b1 := h1b.cell 0
    have h2b := h2.later hb
    have h3b := h3.keep (hb.block w0.heap.size (by omega))
    have hd2 : AtCells (w.alloc (.cells #[] 112)) d := hd'.keep (hb.block _ hd'.lt)
    have hM2 : ∀ x ∈ M, AtCells (w.alloc (.cells #[] 112)) x := fun x hx => (hM' x hx).keep (hb.block _ (hM' x hx).lt)
    have h4b := own_later h4 hb
    have h5b := h5.trans (hb.mono (by omega))
    have hone : ∀ u ∈ [Value.pointer (some d)], u.oneCell' = true := by simp [Value.oneCell']
    go_enter Tryz.func42, Tryz.ntmps42
    go_wp2_with (first | (at_lookup; refine wpList_lookup_ptr _ rfl (.tmp 7) (.tmp 8) 111 rfl rfl h3 Tryz.underlying111 Tryz.underlying86 hinf hsz hzu d rfl hd' hM' ?_; rw [hdec]) | (at_mapUpdate; go_loud (refine wpList_update_ptr _ rfl (.tmp 14) (.tmp 15) (.tmp 16) 111 rfl rfl h3b Tryz.underlying111 Tryz.underlying86 hinf hsz d rfl rfl hd2 hM2 hm ?_); intro w1 hs1 hg1; have l2 := h2b.grown hg1 (by simp); have e2 := l2.cell 0; have g2 := l2.free 0; have hz1w := hg1.size; have own1 := (OwnP.of h4b).same (w' := w1) (fun g hg hlt => hg1.block g hlt (fun e => by have hg' : w0.heap.size + 3 ≤ g := hg; injection e with e; omega))) | (at_builtin; go_loud (refine wpList_append_own_at _ rfl (.tmp 17) (.tmp 19) 84 rfl (w0.heap.size + 3) 86 i0 (.pointer none) 1 8 Tryz.underlying84 hi hz0 hz1 hz2 rfl (by decide) _ M.length (M.map ptrV) rfl (own_later (show w1.ownsRow (w0.heap.size + 3) 86 1 (.slice A0 k0 c0) M.length (M.map ptrV) from own1) (below_new w1 (.cells #[.pointer (some d)] 86))) ⟨w1.heap.size, 0, none⟩ 1 1 [.pointer (some d)] rfl rfl (new_cells _ _ _ rfl) hone (by unfold maxLen; omega) (by omega) (by have := hb.size; simp; omega) ?_)))
    intro v' w2 hown2 hgr _ hat
    have hrow : ∀ q, Value.ownBlock (.slice A0 k0 c0) = some q → w0.heap.size + 3 ≤ q := fun q hq => (own_block h4 q hq).1
    have l3 := (l2.alloc (.cells #[.pointer (some d)] 86)).grown hgr (fun e => by have := hrow _ e.symm; omega)
    have e3 := l3.cell 0
    have g3 := l3.free 0
    have hvs' : ∃ A k c, v' = .slice A k c := by rcases (OwnP.of hown2).2 with ⟨h, _⟩ | ⟨g, cap, cur, h, _⟩ <;> exact ⟨_, _, _, h⟩
    obtain ⟨A9, k9, c9, rfl⟩ := hvs'
    go_wp2_with fail
    go_end0
    unfold addU
    rw [if_neg hm]
    have hne : ∀ g, g ≠ w0.heap.size → g < w.heap.size → some g ≠ Value.ownBlock (.slice A0 k0 c0) → g ≠ w0.heap.size + 2 → (w2.setCell ⟨w0.heap.size + 2, 0, none⟩ (.slice A9 k9 c9)).heap[g]? = w.heap[g]? := by
      intro g hg hlt hno hg2
      rw [Below.heap_setCell _ _ _ _ hg2]
      have e1 := hb.block g hlt
      have e2 := hg1.block g (by have := hb.size; omega) (fun e => by injection e with e; omega)
      have e3 := Below.heap_alloc w1 (.cells #[.pointer (some d)] 86) g (by have := hb.size; omega)
      have e4 := hgr.block g (by have := hb.size; simp; omega) hno
      rw [e4, e3, e2, e1]
    refine ⟨rfl, .slice A9 k9 c9, ?_, ?_, ?_, ?_, ?_⟩
    · exact (hne _ (by omega) (by omega) (fun e => by have := hrow _ e.symm; omega) (by omega)).trans h1
    · exact l3.set 0 _
    · refine hs1.keep ?_
      rw [Below.heap_setCell _ _ _ _ (by show w0.heap.size ≠ w0.heap.size + 2; omega), hgr.block _ (by have := hb.size; simp; omega) (fun e => by have := hrow _ e.symm; omega), Below.heap_alloc _ _ _ (by have := hb.size; omega)]
    · rw [List.length_append, List.map_append]
      exact (OwnP.of hown2).same (fun g hg _ => Below.heap_setCell _ _ _ _ (by have hg' : w0.heap.size + 3 ≤ g := hg; show g ≠ w0.heap.size + 2; omega))
    · refine ⟨?_, ?_, ?_, ?_, fun g hg => ?_⟩
      · exact hgr.os.trans (hg1.os.trans h5.os)
      · exact hgr.tape.trans (hg1.tape.trans h5.tape)
      · exact hgr.output.trans (hg1.output.trans h5.output)
      · have := hgr.size
        have := hb.size
        simp [World.setCell] at *
        omega
      · exact (hne g (by omega) (by omega) (fun e => by have := hrow _ e.symm; omega) (by omega)).trans (h5.block g hg)
end Go.Proofs.YtnkfkaahjplnmaaGreatDoor

/- The contract of what gathers what stands right below some terms, and of Depth. -/
namespace Go.Proofs.YtnkfkaahjplnmaaGreatDoor
open Go.RowKit Pz

theorem mem_addU {M : List Addr} {d x : Addr} : x ∈ addU M d ↔ x ∈ M ∨ x = d := by
  unfold addU
  split
  · constructor
    · exact .inl
    · rintro (h | rfl) <;> assumption
  · simp
theorem mem_addUs {x : Addr} : ∀ (l M : List Addr), x ∈ l.foldl addU M ↔ x ∈ M ∨ x ∈ l
  | [], M => by simp
  | d :: l, M => by
    rw [List.foldl_cons, mem_addUs l, mem_addU]
    simp [or_assoc]
theorem sub_addUs : ∀ (l M : List Addr), (l.foldl addU M).Sublist (M ++ l)
  | [], M => by simp
  | d :: l, M => by
    rw [List.foldl_cons]
    refine (sub_addUs l (addU M d)).trans ?_
    unfold addU
    split
    · exact List.Sublist.append (List.Sublist.refl _) (List.sublist_cons_self _ _)
    · rw [List.append_assoc]; exact List.Sublist.refl _
theorem len_addUs (l M : List Addr) : (l.foldl addU M).length ≤ M.length + l.length := by
  have := (sub_addUs l M).length_le
  simpa using this

/-- A slice of pointers that reads as a list. -/
def Pl (w : World) (v : Value) (L : List Addr) : Prop :=
  ∃ A c, v = .slice A L.length c ∧ L.length ≤ c ∧ (0 < L.length → ∃ g o, A = some ⟨g, o, none⟩ ∧ g < w.heap.size ∧ ∀ (i : Nat) x, L[i]? = some x → w.cell? ⟨g, o + i, none⟩ = some (ptrV x))
theorem Pl.own {w : World} {B : Nat} {v : Value} {L : List Addr} (h : w.ownsRow B 86 1 v L.length (L.map ptrV)) : Pl w v L := by
  rcases own_cells (OwnP.of h) with ⟨rfl, h0⟩ | ⟨g, cap, rfl, hc, _, ⟨cs, t, hh⟩, hx⟩
  · exact ⟨none, 0, by rw [h0], by omega, fun h1 => by omega⟩
  · refine ⟨_, cap, rfl, hc, fun _ => ⟨g, 0, rfl, (Array.getElem?_eq_some_iff.1 hh).1, fun i x hi => ?_⟩⟩
    rw [Nat.zero_add]
    exact hx i _ (by rw [List.getElem?_map, hi]; rfl)
theorem Pl.lit (w : World) (t : TypeId) (L : List Addr) {N : Nat} (hN : w.heap.size = N) : Pl (w.alloc (.cells (L.map ptrV).toArray t)) (.slice (some ⟨N, 0, none⟩) L.length L.length) L := by
  subst hN
  refine ⟨_, _, rfl, Nat.le_refl _, fun _ => ⟨_, 0, rfl, by simp, fun i x hi => ?_⟩⟩
  have h := (Lies.new w t (L.map ptrV).toArray).cell (0 + i)
  rw [h]
  simp [hi]
/-- What lies right below the terms of a list. -/
def nextA (w : World) (L : List Addr) : List Addr := (L.flatMap (kidsA w)).foldl addU []
theorem slok_form {w : World} {p : Addr} (h : SlOk w p) (sz off : Nat) : ∃ A n c, w.cell? p = some (.slice A n c) ∧ n ≤ c ∧ (rowA sz off (.slice A n c)).length = n ∧ ∀ j, j < n → ∃ g, A = some ⟨g, 0, none⟩ ∧ (rowA sz off (.slice A n c))[j]? = some ⟨g, j * sz + off, none⟩ := by
  obtain ⟨v, hv, rfl | ⟨g, n, c, rfl, h1, _⟩⟩ := h
  · exact ⟨none, 0, 0, hv, Nat.le_refl _, by simp [rowA], fun j hj => by omega⟩
  · refine ⟨_, n, c, hv, h1, rowA_len, fun j hj => ⟨g, rfl, ?_⟩⟩
    simp [rowA, hj]
theorem take_step {α : Type} (l : List α) (k : Nat) (x : α) (h : l[k]? = some x) : l.take (k + 1) = l.take k ++ [x] := by
  rw [List.take_add_one, h]
  rfl
theorem BSt.below {w0 W : World} {M : List Addr} (h : BSt w0 M W) : Below w0.heap.size w0 W := by
  obtain ⟨_, _, _, _, _, h⟩ := h
  exact h

set_option maxRecDepth 100000 in
set_option maxHeartbeats 8000000 in
theorem below_any (w : World) (v : Value) (L : List Addr) (hv : Pl w v L) (hok : ∀ a ∈ L, OkT w 2 a) (hn : (L.flatMap (kidsA w)).length ≤ 100000000) (hL : L.length ≤ 100000000) :
    Calls Tryz.prog 22 #[v] w fun e w' => ∃ v', e = .returned v' ∧ w'.ownsRow (w.heap.size + 3) 86 1 v' (nextA w L).length ((nextA w L).map ptrV) ∧ Below w.heap.size w w' := by
  obtain ⟨A, c, rfl, hc, hcell⟩ := hv
  have HC := Lib.hid hcell
  have HOK := Lib.hid hok
  have m0 := PtrSet.made w (.agg #[])
  have l1 := Lies.new' (w.alloc (.map #[] 0)) 111 #[.map (some w.heap.size)] (N := w.heap.size + 1) (by simp)
  have l2 := Lies.new' ((w.alloc (.map #[] 0)).alloc (.cells #[.map (some w.heap.size)] 111)) 84 #[.slice none 0 0] (N := w.heap.size + 2) (by simp)
  have hst : BSt w [] (((w.alloc (.map #[] 0)).alloc (.cells #[.map (some w.heap.size)] 111)).alloc (.cells #[.slice none 0 0] 84)) :=
    ⟨.slice none 0 0, l1.alloc _, l2, (m0.keep (Below.heap_alloc _ _ _ (by simp))).keep (Below.heap_alloc _ _ _ (by simp; omega)), World.ownsRow_nil _ _ _ _,
      ((((Below.refl _ w).alloc (Nat.le_refl _) _).alloc (by simp) _).alloc (by simp; omega) _)⟩
  have hmm := @run_makeMap Tryz.prog
  clear hcell hok l1 l2 m0
  go_enter Tryz.func22, Tryz.ntmps22
  go_wp2
  go_loopw [14] (fun i wr => ∃ k : Nat, k ≤ L.length ∧ i = .int .i64 k ∧ BSt w (((L.take k).flatMap (kidsA w)).foldl addU []) wr) (fun i _ => L.length - (intOf i).toNat)
  case atStart => exact ⟨0, Nat.zero_le _, rfl, hst⟩
  case round =>
    obtain ⟨k, hk, rfl, hS⟩ := hrel
    clear hst
    by_cases hlt : k < L.length
    · obtain ⟨g, o, rfl, hg, hcl⟩ := HC.out (by omega)
      obtain ⟨a, ha⟩ : ∃ a, L[k]? = some a := ⟨_, List.getElem?_eq_getElem hlt⟩
      have ham : a ∈ L := List.mem_of_getElem? ha
      have hok := HOK.out a ham
      have hB := hS.below
      have ck := (hB.cell (p := ⟨g, o + k, none⟩) hg).trans (hcl k a ha)
      unfold ptrV at ck
      obtain ⟨b, oa, sp⟩ := a
      obtain ⟨hsp, hat, h5, h6, hkids⟩ := hok
      have hsp' : sp = none := hsp
      subst hsp'
      have hbl : b < w.heap.size := hat.lt
      obtain ⟨A5, n5, q5, e5, hq5, hl5, hr5⟩ := slok_form h5 21 0
      obtain ⟨A6, n6, q6, e6, hq6, hl6, hr6⟩ := slok_form h6 23 2
      have hkA : kidsA w ⟨b, oa, none⟩ = rowA 21 0 (.slice A5 n5 q5) ++ rowA 23 2 (.slice A6 n6 q6) := by
        unfold kidsA cellV
        rw [e5, e6]
        rfl
      have hkc : k < c := by omega
      have htot : ((L.take k).flatMap (kidsA w)).length + (n5 + n6) ≤ 100000000 := by
        have h1 : (L.take (k + 1)).flatMap (kidsA w) = (L.take k).flatMap (kidsA w) ++ (rowA 21 0 (.slice A5 n5 q5) ++ rowA 23 2 (.slice A6 n6 q6)) := by
          rw [take_step L k _ ha, List.flatMap_append, ← hkA]
          simp
        have h2 : (L.flatMap (kidsA w)) = (L.take (k + 1)).flatMap (kidsA w) ++ (L.drop (k + 1)).flatMap (kidsA w) := by rw [← List.flatMap_append, List.take_append_drop]
        have h3 := congrArg List.length h1
        have h4 := congrArg List.length h2
        simp only [List.length_append, hl5, hl6] at h3 h4
        omega
      obtain ⟨M, hM⟩ : ∃ M, M = ((L.take k).flatMap (kidsA w)).foldl addU [] := ⟨_, rfl⟩
      rw [← hM] at hS
      have hMlen : M.length + (n5 + n6) ≤ 100000000 := by
        have := len_addUs ((L.take k).flatMap (kidsA w)) []
        rw [← hM] at this
        simp only [List.length_nil] at this
        omega
      have hkat : ∀ x ∈ kidsA w ⟨b, oa, none⟩, AtCells w x := fun x hx => (hkids x hx).2.1
      have hMat : ∀ x ∈ M, AtCells w x := by
        intro x hx
        rw [hM, mem_addUs] at hx
        rcases hx with hx | hx
        · cases hx
        · obtain ⟨y, hy, hxy⟩ := List.mem_flatMap.1 hx
          exact ((HOK.out y (List.mem_of_mem_take hy)).2.2.2.2 x hxy).2.1
      have hnext : ((L.take (k + 1)).flatMap (kidsA w)).foldl addU [] = (rowA 23 2 (.slice A6 n6 q6)).foldl addU ((rowA 21 0 (.slice A5 n5 q5)).foldl addU M) := by
        rw [take_step L k _ ha, List.flatMap_append, List.foldl_append, ← hM]
        simp only [List.flatMap_cons, List.flatMap_nil, List.append_nil]
        rw [hkA, List.foldl_append]
      have HN := Lib.hid hnext
      have HKA := Lib.hid hkA
      have HR5 := Lib.hid hr5
      have HR6 := Lib.hid hr6
      have HL5 := Lib.hid hl5
      have HL6 := Lib.hid hl6
      have HKAT := Lib.hid hkat
      have HMAT := Lib.hid hMat
      have E5 := Lib.hid e5
      have E6 := Lib.hid e6
      have c5 : wr.cell? ⟨b, oa + 5, none⟩ = some (.slice A5 n5 q5) := (hB.cell (p := ⟨b, oa + 5, none⟩) hbl).trans e5
      clear hnext hkA hr5 hr6 hl5 hl6 hkat hMat hkids h5 h6 hM hcl htot ha e5 e6
      go_wp2
      go_loopw [23] (fun i W => ∃ j : Nat, j ≤ n5 ∧ i = .int .i64 j ∧ BSt w (((rowA 21 0 (.slice A5 n5 q5)).take j).foldl addU M) W) (fun i _ => n5 - (intOf i).toNat)
      case atStart => exact ⟨0, Nat.zero_le _, rfl, hS⟩
      case round =>
        obtain ⟨j, hj, rfl, hSj⟩ := hrel
        have hBj := hSj.below
        by_cases hjn : j < n5
        · obtain ⟨g5, hA5, hx5⟩ := HR5.out j hjn
          subst hA5
          have c5' : wr.cell? ⟨b, oa + 5, none⟩ = some (.slice (some ⟨g5, 0, none⟩) n5 q5) := (hBj.cell (p := ⟨b, oa + 5, none⟩) hbl).trans E5.out
          have hjq : j < q5 := by omega
          have hmem : (⟨g5, j * 21, none⟩ : Addr) ∈ kidsA w ⟨b, oa, none⟩ := by rw [HKA.out]; exact List.mem_append_left _ (List.mem_of_getElem? hx5)
          have hadd := add_any w wr _ ⟨g5, j * 21, none⟩ hSj (HKAT.out _ hmem) (fun x hx => by
            rw [mem_addUs] at hx
            rcases hx with hx | hx
            · exact HMAT.out x hx
            · exact HKAT.out x (by rw [HKA.out]; exact List.mem_append_left _ (List.mem_of_mem_take hx))) (by have := len_addUs ((rowA 21 0 (.slice (some ⟨g5, 0, none⟩) n5 q5)).take j) M; have := HL5.out; simp at *; omega)
          have HADD := Lib.hid hadd
          have HX5 := Lib.hid hx5
          clear hadd hx5 hS
          go_wp2_with fail
          refine HADD.out.mono ?_
          rintro e W2 ⟨rfl, hS2⟩
          go_wp2_with fail
          go_roundw
          case rel =>
            refine ⟨j + 1, by omega, by simp, ?_⟩
            rw [take_step _ j _ HX5.out, List.foldl_append]
            exact hS2
          case measure => (simp [intOf] <;> omega)
        · obtain rfl : j = n5 := by omega
          rw [List.take_of_length_le (Nat.le_of_eq HL5.out)] at hSj
          have c6 : wr.cell? ⟨b, oa + 6, none⟩ = some (.slice A6 n6 q6) := (hBj.cell (p := ⟨b, oa + 6, none⟩) hbl).trans E6.out
          go_wp2
          go_loopw [40] (fun i W => ∃ j' : Nat, j' ≤ n6 ∧ i = .int .i64 j' ∧ BSt w (((rowA 23 2 (.slice A6 n6 q6)).take j').foldl addU ((rowA 21 0 (.slice A5 j q5)).foldl addU M)) W) (fun i _ => n6 - (intOf i).toNat)
          case atStart => exact ⟨0, Nat.zero_le _, rfl, hSj⟩
          case round =>
            obtain ⟨j6, hj6, rfl, hS6⟩ := hrel
            have hB6 := hS6.below
            by_cases hjn6 : j6 < n6
            · obtain ⟨g6, hA6, hx6⟩ := HR6.out j6 hjn6
              subst hA6
              have c6' : wr.cell? ⟨b, oa + 6, none⟩ = some (.slice (some ⟨g6, 0, none⟩) n6 q6) := (hB6.cell (p := ⟨b, oa + 6, none⟩) hbl).trans E6.out
              have hjq6 : j6 < q6 := by omega
              have hmem : (⟨g6, j6 * 23 + 2, none⟩ : Addr) ∈ kidsA w ⟨b, oa, none⟩ := by rw [HKA.out]; exact List.mem_append_right _ (List.mem_of_getElem? hx6)
              have hadd := add_any w wr _ ⟨g6, j6 * 23 + 2, none⟩ hS6 (HKAT.out _ hmem) (fun x hx => by
                rw [mem_addUs, mem_addUs] at hx
                rcases hx with (hx | hx) | hx
                · exact HMAT.out x hx
                · exact HKAT.out x (by rw [HKA.out]; exact List.mem_append_left _ hx)
                · exact HKAT.out x (by rw [HKA.out]; exact List.mem_append_right _ (List.mem_of_mem_take hx))) (by
                  have h1 := len_addUs (rowA 21 0 (.slice A5 j q5)) M
                  have h2 := len_addUs ((rowA 23 2 (.slice (some ⟨g6, 0, none⟩) n6 q6)).take j6) ((rowA 21 0 (.slice A5 j q5)).foldl addU M)
                  have h3 := HL5.out
                  have h4 := HL6.out
                  rw [List.length_take] at h2
                  omega)
              have HADD := Lib.hid hadd
              have HX6 := Lib.hid hx6
              clear hadd hx6 hS hSj
              go_wp2_with fail
              refine HADD.out.mono ?_
              rintro e W2 ⟨rfl, hS2⟩
              go_wp2_with fail
              go_roundw
              case rel =>
                refine ⟨j6 + 1, by omega, by simp, ?_⟩
                rw [take_step _ j6 _ HX6.out, List.foldl_append]
                exact hS2
              case measure => (simp [intOf] <;> omega)
            · obtain rfl : j6 = n6 := by omega
              rw [List.take_of_length_le (Nat.le_of_eq HL6.out)] at hS6
              go_wp2
              go_roundw
              case rel =>
                refine ⟨k + 1, by omega, by simp, ?_⟩
                rw [HN.out]
                exact hS6
              case measure => (simp [intOf] <;> omega)
    · obtain rfl : k = L.length := by omega
      rw [List.take_length] at hS
      obtain ⟨v', h1, h2, h3, h4, h5⟩ := hS
      have a2 := h2.cell 0
      go_wp2
      go_ret
      exact ⟨v', rfl, h4, h5⟩
end Go.Proofs.YtnkfkaahjplnmaaGreatDoor

/- The contract of Depth. -/
namespace Go.Proofs.YtnkfkaahjplnmaaGreatDoor
open Go.RowKit Pz

theorem deep_pos (t : Tm) : 1 ≤ t.deep := by cases t; simp only [Tm.deep]; omega
theorem maxL_le : ∀ (l : List Nat) (x : Nat), x ∈ l → x ≤ maxL l
  | [], x, h => by cases h
  | y :: l, x, h => by
    simp only [maxL]
    rcases List.mem_cons.1 h with rfl | h
    · omega
    · have := maxL_le l x h; omega
theorem maxL_of_le : ∀ (l : List Nat) (m : Nat), (∀ x ∈ l, x ≤ m) → maxL l ≤ m
  | [], m, _ => by simp [maxL]
  | y :: l, m, h => by
    simp only [maxL]
    have h1 := h y (by simp)
    have h2 := maxL_of_le l m (fun x hx => h x (by simp [hx]))
    omega
theorem maxL_same {l m : List Nat} (h1 : ∀ x ∈ l, x ∈ m) (h2 : ∀ x ∈ m, x ∈ l) : maxL l = maxL m := by
  have a := maxL_of_le l (maxL m) (fun x hx => maxL_le m x (h1 x hx))
  have b := maxL_of_le m (maxL l) (fun x hx => maxL_le l x (h2 x hx))
  omega
theorem sumL_sub {l m : List Nat} (h : l.Sublist m) : sumL l ≤ sumL m := by
  induction h with
  | slnil => exact Nat.le_refl _
  | cons x _ ih => simp only [sumL]; omega
  | cons_cons x _ ih => simp only [sumL]; omega
theorem next_max {w : World} (n : Nat) (L : List Addr) : maxL ((nextA w L).map (dA w n)) = maxL ((L.flatMap (kidsA w)).map (dA w n)) := by
  unfold nextA
  apply maxL_same
  · intro x hx
    obtain ⟨a, ha, rfl⟩ := List.mem_map.1 hx
    rw [mem_addUs] at ha
    rcases ha with ha | ha
    · cases ha
    · exact List.mem_map_of_mem ha
  · intro x hx
    obtain ⟨a, ha, rfl⟩ := List.mem_map.1 hx
    exact List.mem_map_of_mem (by rw [mem_addUs]; exact .inr ha)
theorem max_flat {w : World} (n : Nat) : ∀ (L : List Addr), L ≠ [] → maxL (L.map (dA w (n + 1))) = 1 + maxL ((L.flatMap (kidsA w)).map (dA w n))
  | [], h => absurd rfl h
  | [a], _ => by simp [maxL, dA]
  | a :: b :: L, _ => by
    have ih := max_flat (w := w) n (b :: L) (by simp)
    rw [List.map_cons, maxL, ih, (List.flatMap_cons : (a :: b :: L).flatMap (kidsA w) = _), List.map_append, maxL_append, dA]
    omega
theorem sum_flat {w : World} (n : Nat) : ∀ (L : List Addr), sumL (L.map (nA w (n + 1))) = L.length + sumL ((L.flatMap (kidsA w)).map (nA w n))
  | [] => by simp [sumL]
  | a :: L => by
    rw [List.map_cons, sumL, sum_flat n L, List.flatMap_cons, List.map_append, sumL_append, nA, List.length_cons]
    omega
theorem sum_one {w : World} : ∀ (L : List Addr), L.length ≤ sumL (L.map (nA w 1))
  | [] => by simp
  | a :: L => by
    have := sum_one (w := w) L
    have h1 : 1 ≤ nA w 1 a := by unfold nA; omega
    simp only [List.map_cons, sumL, List.length_cons]
    omega
structure DRel (w1 : World) (t : Tm) (d : Nat) (L : List Addr) (wr : World) : Prop where
  below : Below w1.heap.size w1 wr
  le : d ≤ t.deep
  ok : ∀ n, ∀ a ∈ L, OkT w1 n a
  max : ∀ n, maxL (L.map (dA w1 n)) = min n (t.deep - d)
  sum : ∀ n, sumL (L.map (nA w1 n)) ≤ t.size
theorem DRel.step {w1 wr wr' : World} {t : Tm} {d : Nat} {L : List Addr} (h : DRel w1 t d L wr) (h0 : L ≠ []) (hb : Below w1.heap.size w1 wr') : DRel w1 t (d + 1) (nextA w1 L) wr' := by
  have hm : ∀ n, maxL ((L.flatMap (kidsA w1)).map (dA w1 n)) = min n (t.deep - (d + 1)) ∧ d + 1 ≤ t.deep := by
    intro n
    have h1 := max_flat (w := w1) n L h0
    rw [h.max (n + 1)] at h1
    omega
  refine ⟨hb, (hm 0).2, fun n a ha => ?_, fun n => by rw [next_max]; exact (hm n).1, fun n => ?_⟩
  · unfold nextA at ha
    rw [mem_addUs] at ha
    rcases ha with ha | ha
    · cases ha
    · obtain ⟨b, hb', hab⟩ := List.mem_flatMap.1 ha
      exact (h.ok (n + 1) b hb').2.2.2.2 a hab
  · have h1 := sum_flat (w := w1) n L
    have h2 := h.sum (n + 1)
    have h3 : sumL ((nextA w1 L).map (nA w1 n)) ≤ sumL ((L.flatMap (kidsA w1)).map (nA w1 n)) := by
      refine sumL_sub ?_
      have := sub_addUs (L.flatMap (kidsA w1)) []
      rw [List.nil_append] at this
      exact this.map _
    omega
theorem DRel.bound {w1 wr : World} {t : Tm} {d : Nat} {L : List Addr} (h : DRel w1 t d L wr) : L.length ≤ t.size ∧ (L.flatMap (kidsA w1)).length ≤ t.size := by
  have h1 := sum_one (w := w1) L
  have h2 := h.sum 1
  have h3 : sumL (L.map (nA w1 2)) = _ := sum_flat (w := w1) 1 L
  have h4 := h.sum 2
  have h5 := sum_one (w := w1) (L.flatMap (kidsA w1))
  omega
theorem DRel.there {w1 wr : World} {t : Tm} {d : Nat} {L : List Addr} (h : DRel w1 t d L wr) : (∀ a ∈ L, OkT wr 2 a) ∧ L.flatMap (kidsA wr) = L.flatMap (kidsA w1) := by
  refine ⟨fun a ha => (okT_keep (fun g hg => h.below.block g hg) 2 a (h.ok 2 a ha)).1, ?_⟩
  have hk : ∀ a ∈ L, kidsA wr a = kidsA w1 a := fun a ha => kidsA_keep (h.below.block _ (h.ok 1 a ha).2.1.lt)
  have h1 := List.map_congr_left hk
  rw [List.flatMap_def, List.flatMap_def, h1]

set_option maxRecDepth 100000 in
set_option maxHeartbeats 4000000 in
theorem depth_any (l : List Value) (t : Tm) (P : Nat → Prop) (w : World) (ht : HT w P t l) (hs : t.size ≤ 90000000) :
    Calls Tryz.prog 11 #[.agg l.toArray] w fun e w' => e = .returned (.int .i64 ((min t.deep 1000 : Nat) : Int)) ∧ Below w.heap.size w w' := by
  have l0 := Lies.new w 39 l.toArray
  have hb0 := below_new w (.cells l.toArray 39)
  have ht1 := ht.later hb0
  have hr0 : ReadsAt (w.alloc (.cells l.toArray 39)) ⟨w.heap.size, 0, none⟩ l := fun i u hu => by
    have := l0.cell (0 + i)
    rw [this]
    simpa using hu
  have hd := deep_ht ht1 ⟨w.heap.size, 0, none⟩ rfl ⟨_, _, l0⟩ hr0
  have hsz1 : (w.alloc (.cells l.toArray 39)).heap.size = w.heap.size + 1 := by simp
  have hone := ht.one
  have hlen := ht.len
  have hdp := deep_pos t
  have hD0 : DRel (w.alloc (.cells l.toArray 39)) t 0 [⟨w.heap.size, 0, none⟩] (w.alloc (.cells l.toArray 39)) :=
    ⟨Below.refl _ _, Nat.zero_le _, fun n a ha => by rw [List.mem_singleton.1 ha]; exact (hd n).1, fun n => by simp [maxL, (hd n).2.1], fun n => by simp [sumL, (hd n).2.2]⟩
  obtain ⟨w1, hw1⟩ : ∃ w1, w1 = w.alloc (.cells l.toArray 39) := ⟨_, rfl⟩
  rw [← hw1] at hD0 hsz1 hb0
  have hbL := below_new w1 (.cells #[ptrV ⟨w.heap.size, 0, none⟩] 86)
  have hpl := Pl.lit w1 86 [⟨w.heap.size, 0, none⟩] hsz1
  have hD0' : DRel w1 t 0 [⟨w.heap.size, 0, none⟩] (w1.alloc (.cells #[ptrV ⟨w.heap.size, 0, none⟩] 86)) := ⟨hbL, hD0.le, hD0.ok, hD0.max, hD0.sum⟩
  have hth := hD0'.there
  have hbd := hD0'.bound
  have hbel := below_any (w1.alloc (.cells #[ptrV ⟨w.heap.size, 0, none⟩] 86)) _ _ hpl hth.1 (by rw [hth.2]; omega) (by omega)
  have HBEL := Lib.hid hbel
  have HTH := Lib.hid hth
  have HW := Lib.hid hw1
  unfold ptrV at HBEL
  clear hbel hth ht1 hr0 hd l0
  go_enter Tryz.func11, Tryz.ntmps11
  go_wp2_with fail
  rw [← HW.out]
  refine HBEL.out.mono ?_
  rintro e w2 ⟨v2, rfl, hown2, hb2⟩
  have hpl2 := Pl.own hown2
  have hb12 := hbL.trans (hb2.mono hbL.size)
  have hD2 := hD0'.step (by simp) hb12
  have hnx : nextA (w1.alloc (.cells #[ptrV ⟨w.heap.size, 0, none⟩] 86)) [⟨w.heap.size, 0, none⟩] = nextA w1 [⟨w.heap.size, 0, none⟩] := by unfold nextA; rw [HTH.out.2]
  unfold ptrV at hnx
  rw [hnx] at hpl2
  clear HBEL HTH hown2 hbd hD0 hD0'
  have hst : ∃ (d : Nat) (L : List Addr), Value.int .i64 1 = .int .i64 (d : Int) ∧ 1 ≤ d ∧ d ≤ 1000 ∧ Pl w2 v2 L ∧ DRel w1 t d L w2 := ⟨1, _, rfl, by omega, by omega, hpl2, hD2⟩
  clear hD2 hpl2 hnx
  go_wp2_with fail
  go_loopw [3, 4] (fun dv lv wr => ∃ (d : Nat) (L : List Addr), dv = .int .i64 (d : Int) ∧ 1 ≤ d ∧ d ≤ 1000 ∧ Pl wr lv L ∧ DRel w1 t d L wr) (fun dv _ _ => 1000 - (intOf dv).toNat)
  case atStart => exact hst
  case round =>
    obtain ⟨d, L, rfl, hd1, hd2, hpl, hD⟩ := hrel
    clear hst
    have hm1 := hD.max 1
    have hle := hD.le
    have hbw : Below w.heap.size w wr := hb0.trans (hD.below.mono hb0.size)
    by_cases hL : L = []
    · subst hL
      obtain ⟨A, c, rfl, _, _⟩ := hpl
      have hdeep : t.deep = d := by
        simp only [List.map_nil, maxL] at hm1
        omega
      go_wp2
      go_ret
      have hmin : min t.deep 1000 = d := by omega
      rw [hmin]
      exact ⟨rfl, hbw⟩
    · have hL0 : 0 < L.length := List.length_pos_iff.2 hL
      have hLi : (0 : Int) < (L.length : Int) := by omega
      have hpl0 := hpl
      obtain ⟨A, c, rfl, hc, _⟩ := hpl
      by_cases hd : d < 1000
      · have hth := hD.there
        have hbd := hD.bound
        have hbel := below_any wr _ L hpl0 hth.1 (by rw [hth.2]; omega) (by omega)
        have HBEL := Lib.hid hbel
        have hnx : nextA wr L = nextA w1 L := by unfold nextA; rw [hth.2]
        have HNX := Lib.hid hnx
        clear hbel hth hnx
        go_wp2_with fail
        refine HBEL.out.mono ?_
        rintro e w3 ⟨v3, rfl, hown3, hb3⟩
        have hpl3 := Pl.own hown3
        rw [HNX.out] at hpl3
        have hD3 := hD.step hL (hD.below.trans (hb3.mono hD.below.size))
        go_wp2_with fail
        go_roundw
        case rel => exact ⟨d + 1, _, by simp, by omega, by omega, hpl3, hD3⟩
        case measure => (simp [intOf] <;> omega)
      · have hde : d = 1000 := by omega
        have hdi : ¬ (d : Int) < 1000 := by omega
        go_wp2
        go_ret
        have hmin : min t.deep 1000 = d := by omega
        rw [hmin, hde]
        exact ⟨rfl, hbw⟩
end Go.Proofs.YtnkfkaahjplnmaaGreatDoor
