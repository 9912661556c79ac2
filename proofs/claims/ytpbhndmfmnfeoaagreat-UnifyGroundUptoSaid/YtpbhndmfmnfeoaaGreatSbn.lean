/- What stands between two turns of whole: the logic of it. -/
import Derived.Test.YtpbhndmfmnfeoaaGreatSbm
import Derived.Outline
namespace Go.Proofs.YtpbhndmfmnfeoaaGreat
open Go.RowKit

theorem StrR.kept {X : Nat → Prop} {w w' : World} {v : Value} {ls : List Str} (h : StrR w v ls) (hk : Kept X w w') (hb : ∀ b, v.ownBlock = some b → b < w.heap.size ∧ ¬ X b) : StrR w' v ls := by
  refine ⟨?_, h.2⟩
  rcases h.1 with h | ⟨ad, c, rfl, h2, h3⟩
  · exact .inl h
  · refine .inr ⟨ad, c, rfl, h2, fun j q hq => ?_⟩
    obtain ⟨h4, h5⟩ := hb ad.block rfl
    have e : (ad.add j).block = ad.block := by unfold Addr.add; split <;> simp_all
    refine (World.cell?_of_block (w := w) ?_).trans (h3 j q hq)
    rw [e]
    exact hk.2 _ h4 h5
theorem tfv_new (T : Int → Option Ty) {w : World} {k : Int} {nm : Str} {v : Int} {kids : List Ty} {ls : List Str} {rv : Int} {kv lv : Value} {s0 : Bool} (hi : oks k v rv) (hl : StrR w lv ls)
    (hk : (kids = [] ∧ kv = .slice none 0 0) ∨ (0 < kids.length ∧ ∃ G, kv = .slice (some ⟨G, 0, none⟩) kids.length kids.length ∧ ∀ (i : Nat) t, kids[i]? = some t → TF w ⟨G, i * 6, none⟩ (fsT T s0 t))) : TFV w (.mk k nm v (kids.map (fsT T s0)) ls rv) (tyC k nm v kv lv rv) := by
  refine ⟨kv, lv, rfl, ?_, hl, hi, fun i t ht => ?_⟩
  · rcases hk with ⟨rfl, rfl⟩ | ⟨h0, G, rfl, h1⟩
    · exact .inl ⟨rfl, rfl⟩
    · have h2 := (h1 0 (kids[0]'h0) (List.getElem?_eq_getElem h0)).at_
      refine .inr ⟨G, by rw [List.length_map], by rw [List.length_map]; exact h0, ?_⟩
      rw [Nat.zero_mul] at h2
      exact h2
  · rw [List.getElem?_map] at ht
    obtain ⟨u, hu, rfl⟩ := Option.map_eq_some_iff.1 ht
    rcases hk with ⟨rfl, rfl⟩ | ⟨h0, G, rfl, h1⟩
    · simp at hu
    · have h2 := h1 i u hu
      simp only [kidAt, Nat.zero_add]
      exact h2
/-- The parts of a task. -/
structure TkOK (T : Int → Option Ty) (R : Int → Option (List Str × Int)) (w0 : World) (B : Nat) (W : World) (k : Tk) : Prop where
  pos : 0 < k.ts.length
  few : k.ts.length ≤ 1000000
  src : SlR k.src k.ts.length
  kids : ∀ (i : Nat) t, k.ts[i]? = some t → TR w0 (kidAt k.src i) t
  lies : ∃ cur, Lies W k.G 44 cur ∧ cur.size = k.ts.length * 6
  old : B ≤ k.G
  rows : k.said = true ∨ ∀ t ∈ k.ts, rowsFree R T t
def wkL (T : Int → Option Ty) (said : Bool) (ts : List Ty) : Nat := (ts.map fun t => (fsT T said t).size).sum
def wk (T : Int → Option Ty) (k : Tk) : Nat := wkL T k.said k.ts
def wks (T : Int → Option Ty) (ks : List Tk) : Nat := (ks.map (wk T)).sum
theorem wkL_app (T : Int → Option Ty) (said : Bool) (a b : List Ty) : wkL T said (a ++ b) = wkL T said a + wkL T said b := by simp [wkL]
theorem wks_app (T : Int → Option Ty) (a b : List Tk) : wks T (a ++ b) = wks T a + wks T b := by simp [wks]
theorem wkL_len (T : Int → Option Ty) (said : Bool) : ∀ ts, ts.length ≤ wkL T said ts
  | [] => Nat.le_refl _
  | t :: r => by
    have := wkL_len T said r
    have := Ty.size_pos (fsT T said t)
    simp only [wkL, List.map_cons, List.sum_cons, List.length_cons] at *
    omega
theorem wks_len (T : Int → Option Ty) : ∀ ks : List Tk, (∀ k ∈ ks, 0 < k.ts.length) → ks.length ≤ wks T ks
  | [], _ => Nat.le_refl _
  | k :: r, h => by
    have := wks_len T r fun k hk => h k (List.mem_cons_of_mem _ hk)
    have := wkL_len T k.said k.ts
    have := h k (List.mem_cons_self ..)
    simp only [wks, wk, List.map_cons, List.sum_cons, List.length_cons] at *
    omega
theorem sizeL_map (T : Int → Option Ty) (said : Bool) : ∀ ts, Ty.sizeL (ts.map (fsT T said)) = wkL T said ts
  | [] => rfl
  | t :: r => by simp only [List.map_cons, Ty.sizeL, sizeL_map T said r, wkL, List.sum_cons]
theorem rowsFreeL_mem {R : Int → Option (List Str × Int)} {T : Int → Option Ty} : ∀ {l : List Ty}, rowsFreeL R T l → ∀ t ∈ l, rowsFree R T t
  | _ :: _, h, _, .head _ => h.1
  | _ :: _, h, _, .tail _ hm => rowsFreeL_mem h.2 _ hm
theorem hdT_rows {R : Int → Option (List Str × Int)} {T : Int → Option Ty} {said : Bool} {t : Ty} (h : said = true ∨ rowsFree R T t) {k : Int} {nm : Str} {v : Int} {kids : List Ty} {ls : List Str} {rv : Int} {s0 : Bool} (hd : hdT T said t = (.mk k nm v kids ls rv, s0)) : s0 = true ∨ ∀ t ∈ kids, rowsFree R T t := by
  obtain ⟨k', nm', v', kids', ls', rv'⟩ := t
  cases said with
  | true =>
    simp only [hdT, if_true, Prod.mk.injEq] at hd
    exact .inl hd.2.symm
  | false =>
    simp only [hdT, Bool.false_eq_true, if_false] at hd
    cases hi : insT T k' v' with
    | some u =>
      rw [hi] at hd
      simp only [Prod.mk.injEq] at hd
      exact .inl hd.2.symm
    | none =>
      rw [hi] at hd
      simp only [Prod.mk.injEq, Ty.mk.injEq] at hd
      obtain ⟨⟨rfl, rfl, rfl, rfl, rfl, rfl⟩, rfl⟩ := hd
      refine .inr ?_
      rcases h with h | h
      · cases h
      · simp only [rowsFree, hi, Option.isSome_none, Bool.false_eq_true, false_or] at h
        exact rowsFreeL_mem h.2
/-- The list that is a type's own stands in this block. -/
def rtOf (l : List Value) (g : Nat) : Prop := ∃ n c, l[3]? = some (.slice (some ⟨g, 0, none⟩) n c)
/-- Each list that was made stands in one place alone: those that are whole, those to do, and one of which so many places are written. -/
def JI (l : List Value) (B : Nat) (W : World) (td : Value) (P : List Nat) (G0 i : Nat) : Prop :=
  ∃ (D : List Nat) (E : List (Nat × Nat × Nat)), (E.map (·.2.2)).Nodup ∧ (∀ g ∈ D, B ≤ g ∧ g < W.heap.size ∧ td.ownBlock ≠ some g ∧ g ∉ P) ∧ (∀ e ∈ E, ¬ rtOf l e.2.2 ∧ (e.2.2 ∈ D ∨ e.2.2 ∈ P)) ∧
    (∀ g, rtOf l g → g ∈ D ∨ g ∈ P) ∧ ∀ g j q n c, (g ∈ D ∨ (g = G0 ∧ j < i)) → W.cell? ⟨g, j * 6 + 3, none⟩ = some (.slice (some ⟨q, 0, none⟩) n c) → (g, j, q) ∈ E
theorem JI.stepN {l : List Value} {B : Nat} {W W3 : World} {td td' : Value} {P : List Nat} {G0 i : Nat} (h : JI l B W td P G0 i) (hsz : W.heap.size ≤ W3.heap.size)
    (hkeep : ∀ g, B ≤ g → g < W.heap.size → td.ownBlock ≠ some g → g ∉ P → W3.heap[g]? = W.heap[g]?) (hlow : ∀ j, j < i * 6 → W3.cell? ⟨G0, j, none⟩ = W.cell? ⟨G0, j, none⟩) (htd : ∀ b, td'.ownBlock = some b → td.ownBlock = some b ∨ W.heap.size ≤ b)
    (hc : W3.cell? ⟨G0, i * 6 + 3, none⟩ = some (.slice none 0 0)) : JI l B W3 td' P G0 (i + 1) := by
  obtain ⟨D, E, h1, h2, h3, h4, h5⟩ := h
  refine ⟨D, E, h1, fun g hg => ?_, h3, h4, fun g j q n c hg hq => ?_⟩
  · obtain ⟨a1, a2, a3, a4⟩ := h2 g hg
    exact ⟨a1, by omega, fun e => (htd g e).elim a3 (by omega), a4⟩
  · rcases hg with hg | ⟨rfl, hj⟩
    · obtain ⟨a1, a2, a3, a4⟩ := h2 g hg
      rw [World.cell?_of_block (w := W) (a := ⟨g, j * 6 + 3, none⟩) (hkeep g a1 a2 a3 a4)] at hq
      exact h5 g j q n c (.inl hg) hq
    · by_cases e : j = i
      · rw [e, hc] at hq; cases hq
      · rw [hlow _ (by omega)] at hq
        exact h5 g j q n c (.inr ⟨rfl, by omega⟩) hq
theorem JI.stepG {l : List Value} {B : Nat} {W W3 : World} {td td' : Value} {P : List Nat} {G0 i G m d : Nat} (h : JI l B W td P G0 i) (hP : ∀ g ∈ P, g < W.heap.size) (hsz : W.heap.size ≤ W3.heap.size)
    (hkeep : ∀ g, B ≤ g → g < W.heap.size → td.ownBlock ≠ some g → g ∉ P → W3.heap[g]? = W.heap[g]?) (hlow : ∀ j, j < i * 6 → W3.cell? ⟨G0, j, none⟩ = W.cell? ⟨G0, j, none⟩) (htd : ∀ b, td'.ownBlock = some b → td.ownBlock = some b ∨ W.heap.size ≤ b)
    (hG : W.heap.size ≤ G) (hc : W3.cell? ⟨G0, i * 6 + 3, none⟩ = some (.slice (some ⟨G, 0, none⟩) m d)) : JI l B W3 td' (P ++ [G]) G0 (i + 1) := by
  obtain ⟨D, E, h1, h2, h3, h4, h5⟩ := h
  have hlt : ∀ g, g ∈ D ∨ g ∈ P → g < W.heap.size := fun g hg => hg.elim (fun h => (h2 g h).2.1) (hP g)
  refine ⟨D, (G0, i, G) :: E, ?_, fun g hg => ?_, fun e he => ?_, fun g hg => (h4 g hg).imp id fun h => List.mem_append_left _ h, fun g j q n c hg hq => ?_⟩
  · rw [List.map_cons, List.nodup_cons]
    refine ⟨fun hm => ?_, h1⟩
    obtain ⟨e, he, e2⟩ := List.mem_map.1 hm
    have := hlt _ (h3 e he).2
    have e2 : e.2.2 = G := e2
    omega
  · obtain ⟨a1, a2, a3, a4⟩ := h2 g hg
    exact ⟨a1, by omega, fun e => (htd g e).elim a3 (by omega), fun hm => (List.mem_append.1 hm).elim a4 fun hm => by have := List.mem_singleton.1 hm; omega⟩
  · rcases List.mem_cons.1 he with rfl | he
    · exact ⟨fun hr => by have := hlt _ (h4 _ hr); have h : G < W.heap.size := this; omega, .inr (List.mem_append_right _ (List.mem_singleton.2 rfl))⟩
    · exact ⟨(h3 e he).1, (h3 e he).2.imp id fun h => List.mem_append_left _ h⟩
  · rcases hg with hg | ⟨rfl, hj⟩
    · obtain ⟨a1, a2, a3, a4⟩ := h2 g hg
      rw [World.cell?_of_block (w := W) (a := ⟨g, j * 6 + 3, none⟩) (hkeep g a1 a2 a3 a4)] at hq
      exact List.mem_cons_of_mem _ (h5 g j q n c (.inl hg) hq)
    · by_cases e : j = i
      · rw [e, hc] at hq
        injection hq with hq
        injection hq with hq
        injection hq with hq
        injection hq with hq
        rw [e, ← hq]
        exact List.mem_cons_self ..
      · rw [hlow _ (by omega)] at hq
        exact List.mem_cons_of_mem _ (h5 g j q n c (.inr ⟨rfl, by omega⟩) hq)
theorem JI.perm {l : List Value} {B : Nat} {W W3 : World} {td td' : Value} {P P' : List Nat} {G0 i G1 : Nat} (h : JI l B W td P G0 i) (hi : i = 0) (hsz : W.heap.size ≤ W3.heap.size) (hm : ∀ g, g ∈ P ↔ g ∈ P')
    (hkeep : ∀ g, B ≤ g → g < W.heap.size → td.ownBlock ≠ some g → g ∉ P → W3.heap[g]? = W.heap[g]?) (htd : ∀ b, td'.ownBlock = some b → td.ownBlock = some b ∨ W.heap.size ≤ b) : JI l B W3 td' P' G1 0 := by
  subst hi
  obtain ⟨D, E, h1, h2, h3, h4, h5⟩ := h
  refine ⟨D, E, h1, fun g hg => ?_, fun e he => ⟨(h3 e he).1, (h3 e he).2.imp id (hm _).1⟩, fun g hg => (h4 g hg).imp id (hm _).1, fun g j q n c hg hq => ?_⟩
  · obtain ⟨a1, a2, a3, a4⟩ := h2 g hg
    exact ⟨a1, by omega, fun e => (htd g e).elim a3 (by omega), fun h => a4 ((hm g).2 h)⟩
  · rcases hg with hg | ⟨_, hj⟩
    · obtain ⟨a1, a2, a3, a4⟩ := h2 g hg
      rw [World.cell?_of_block (w := W) (a := ⟨g, j * 6 + 3, none⟩) (hkeep g a1 a2 a3 a4)] at hq
      exact h5 g j q n c (.inl hg) hq
    · omega
theorem JI.close {l : List Value} {B : Nat} {W : World} {td : Value} {P : List Nat} {G0 i : Nat} (h : JI l B W td (G0 :: P) G0 i) (hB : B ≤ G0) (hlt : G0 < W.heap.size) (htd : td.ownBlock ≠ some G0) (hn : G0 ∉ P) (hc : ∀ j, i ≤ j → W.cell? ⟨G0, j * 6 + 3, none⟩ = none) : JI l B W td P 0 0 := by
  obtain ⟨D, E, h1, h2, h3, h4, h5⟩ := h
  have hsw : ∀ g, g ∈ D ∨ g ∈ G0 :: P → g ∈ G0 :: D ∨ g ∈ P := fun g hg => by
    rcases hg with hg | hg
    · exact .inl (List.mem_cons_of_mem _ hg)
    · rcases List.mem_cons.1 hg with rfl | hg
      · exact .inl (List.mem_cons_self ..)
      · exact .inr hg
  refine ⟨G0 :: D, E, h1, fun g hg => ?_, fun e he => ⟨(h3 e he).1, hsw _ (h3 e he).2⟩, fun g hg => hsw g (h4 g hg), fun g j q n c hg hq => ?_⟩
  · rcases List.mem_cons.1 hg with rfl | hg
    · exact ⟨hB, hlt, htd, hn⟩
    · obtain ⟨a1, a2, a3, a4⟩ := h2 g hg
      exact ⟨a1, a2, a3, fun h => a4 (List.mem_cons_of_mem _ h)⟩
  · rcases hg with hg | ⟨_, hj⟩
    · rcases List.mem_cons.1 hg with rfl | hg
      · by_cases hj : j < i
        · exact h5 g j q n c (.inr ⟨rfl, hj⟩) hq
        · rw [hc j (by omega)] at hq; cases hq
      · exact h5 g j q n c (.inl hg) hq
    · omega
/-- A type's lists each stand in one place alone. -/
def Tree1 (B : Nat) (l : List Value) (W : World) : Prop :=
  ∃ (D : List Nat) (E : List (Nat × Nat × Nat)), (E.map (·.2.2)).Nodup ∧ (∀ g ∈ D, B ≤ g ∧ g < W.heap.size) ∧ (∀ e ∈ E, ¬ rtOf l e.2.2 ∧ e.2.2 ∈ D) ∧
    (∀ g, rtOf l g → g ∈ D) ∧ ∀ g j q n c, g ∈ D → W.cell? ⟨g, j * 6 + 3, none⟩ = some (.slice (some ⟨q, 0, none⟩) n c) → (g, j, q) ∈ E
theorem JI.tree {l : List Value} {B : Nat} {W : World} {td : Value} {G0 i : Nat} (h : JI l B W td [] G0 i) : Tree1 B l W := by
  obtain ⟨D, E, h1, h2, h3, h4, h5⟩ := h
  exact ⟨D, E, h1, fun g hg => ⟨(h2 g hg).1, (h2 g hg).2.1⟩, fun e he => ⟨(h3 e he).1, (h3 e he).2.elim id (fun h => by cases h)⟩, fun g hg => (h4 g hg).elim id (fun h => by cases h), fun g j q n c hg hq => h5 g j q n c (.inl hg) hq⟩
theorem Tree1.mono {B B' : Nat} {l : List Value} {W : World} (h : Tree1 B l W) (hb : B' ≤ B) : Tree1 B' l W := by
  obtain ⟨D, E, h1, h2, h3⟩ := h
  exact ⟨D, E, h1, fun g hg => ⟨Nat.le_trans hb (h2 g hg).1, (h2 g hg).2⟩, h3⟩
theorem Tree1.kept {B : Nat} {l : List Value} {W W' : World} (h : Tree1 B l W) (hk : Kept (fun b => b < B) W W') : Tree1 B l W' := by
  obtain ⟨D, E, h1, h2, h3, h4, h5⟩ := h
  refine ⟨D, E, h1, fun g hg => ⟨(h2 g hg).1, Nat.lt_of_lt_of_le (h2 g hg).2 hk.1⟩, h3, h4, fun g j q n c hg hq => ?_⟩
  rw [World.cell?_of_block (w := W) (a := ⟨g, j * 6 + 3, none⟩) (hk.2 g (h2 g hg).2 (by have := (h2 g hg).1; omega))] at hq
  exact h5 g j q n c hg hq
/-- The state within a task: so many of its types are done. -/
structure IS (T : Int → Option Ty) (R : Int → Option (List Str × Int)) (w0 w : World) (p B : Nat) (vt vr : Value) (t : Ty) (l : List Value) (F : Nat → Prop) (k0 : Tk) (N : Nat) (W : World) (td : Value) (ks : List Tk) (i : Nat) : Prop where
  aps : ApS W p B vt vr td ks.length (ks.flatMap tkC)
  ok : ∀ k ∈ k0 :: ks, TkOK T R w0 B W k
  nd : ((k0 :: ks).map Tk.G).Nodup
  prom : Prom T B td (k0 :: ks) W t l
  promL : PromL T B td ks k0 i W
  chg : Chg p (.slice none 0 0) w W
  fx : ∀ b, F b → b < W.heap.size ∧ ¬ Xs B td (k0 :: ks) b
  tdG : ∀ k ∈ k0 :: ks, td.ownBlock ≠ some k.G
  work : wks T ks + i = N + wkL T k0.said (k0.ts.take i)
  tree : JI l B W td ((k0 :: ks).map Tk.G) k0.G i
theorem below_kept {w w' : World} (h : Below w.heap.size w w') (X : Nat → Prop) : Kept X w w' := ⟨h.size, fun b hb _ => h.block b hb⟩
set_option maxHeartbeats 1000000 in
theorem IS.step {T : Int → Option Ty} {R : Int → Option (List Str × Int)} {w0 w : World} {p B : Nat} {vt vr : Value} {t : Ty} {l : List Value} {F : Nat → Prop} {k0 : Tk} {N : Nat} {W : World} {td : Value} {ks : List Tk} {i : Nat} (h : IS T R w0 w p B vt vr t l F k0 N W td ks i)
    (hpB : p < B) (hB : w.heap.size ≤ B) (hBW : B ≤ W.heap.size) {W1 : World} (hb : Below W.heap.size W W1) {u : Ty} (hu : k0.ts[i]? = some u) {k : Int} {nm : Str} {v : Int} {kids : List Ty} {ls : List Str} {rv : Int} {s0 : Bool} (hd : hdT T k0.said u = (.mk k nm v kids ls rv, s0)) (hkl : kids.length ≤ 1000000) (hoks : oks k v rv)
    {e : Ending} {W2 : World} (hbe : BecEnd w0 W1 p B vt vr td ks.length (ks.flatMap tkC) k nm v kids ls rv s0 e W2) :
    ∃ lc : List Value, e = .returned (.agg lc.toArray) ∧ (∃ A1 n1 c1 A2 n2 c2, lc = tyC k nm v (.slice A1 n1 c1) (.slice A2 n2 c2) rv) ∧ Kept (Xs B td (k0 :: ks)) W W2 ∧ (∃ cur, Lies W2 k0.G 44 cur ∧ cur.size = k0.ts.length * 6) ∧ W1.heap.size ≤ W2.heap.size ∧ W2.os = W1.os ∧ (∀ b, b < W1.heap.size → b ≠ p → td.ownBlock ≠ some b → W2.heap[b]? = W1.heap[b]?) ∧
    ∀ W3 : World, W3.heap.size = W2.heap.size → W3.os = W2.os → W3.tape = W2.tape → W3.output = W2.output → (∀ b, b ≠ k0.G → W3.heap[b]? = W2.heap[b]?) → (∃ cur, Lies W3 k0.G 44 cur ∧ cur.size = k0.ts.length * 6) →
      (∀ j, j < i * 6 → W3.cell? ⟨k0.G, j, none⟩ = W2.cell? ⟨k0.G, j, none⟩) → (∀ j q, lc[j]? = some q → W3.cell? ⟨k0.G, i * 6 + j, none⟩ = some q) →
      ∃ td' ks', IS T R w0 w p B vt vr t l F k0 N W3 td' ks' (i + 1) ∧ Kept (Xs B td (k0 :: ks)) W W3 := by
  obtain ⟨kv', lv', td', n', tc', rfl, hlv, hlb, haps, htd, hchg, hcase⟩ := hbe
  have hW1 := hb.size
  have hk0m : k0 ∈ k0 :: ks := List.mem_cons_self ..
  have hGlt : ∀ k ∈ k0 :: ks, k.G < W.heap.size := fun k hk => by obtain ⟨cur, h1, _⟩ := (h.ok k hk).lies; exact h1.lt
  have hGB : ∀ k ∈ k0 :: ks, B ≤ k.G := fun k hk => (h.ok k hk).old
  have hXt : ∀ b, td.ownBlock = some b → b < W.heap.size := fun b hb => (own_block h.aps.row b hb).2
  have hk12 : Kept (Xs B td (k0 :: ks)) W W2 := ⟨Nat.le_trans hW1 hchg.size, fun b hb' hn => (hchg.block b (by omega) (fun e => hn (.inl (by omega))) (fun e => hn (.inr (.inl e)))).trans (hb.block b hb')⟩
  have hkeepG : ∀ k ∈ k0 :: ks, W2.heap[k.G]? = W.heap[k.G]? := fun k hk => (hchg.block k.G (by have := hGlt k hk; omega) (by have := hGB k hk; omega) (h.tdG k hk)).trans (hb.block _ (hGlt k hk))
  have hlies2 : ∀ k ∈ k0 :: ks, ∃ cur, Lies W2 k.G 44 cur ∧ cur.size = k.ts.length * 6 := fun k hk => by
    obtain ⟨cur, h1, h2⟩ := (h.ok k hk).lies
    exact ⟨cur, (hkeepG k hk).trans h1, h2⟩
  have hshape : ∃ A1 n1 c1 A2 n2 c2, tyC k nm v kv' lv' rv = tyC k nm v (.slice A1 n1 c1) (.slice A2 n2 c2) rv := by
    obtain ⟨A1, n1, c1, h1⟩ : ∃ A n c, kv' = .slice A n c := by rcases hcase with ⟨_, rfl, _⟩ | ⟨_, _, _, _, rfl, _⟩ <;> exact ⟨_, _, _, rfl⟩
    obtain ⟨A2, n2, c2, h2⟩ : ∃ A n c, lv' = .slice A n c := by rcases hlv.1 with ⟨rfl, _⟩ | ⟨_, _, rfl, _⟩ <;> exact ⟨_, _, _, rfl⟩
    exact ⟨A1, n1, c1, A2, n2, c2, by rw [h1, h2]⟩
  refine ⟨tyC k nm v kv' lv' rv, rfl, hshape, hk12, hlies2 k0 hk0m, hchg.size, hchg.os, hchg.block, fun W3 hs3 hos3 htp3 hou3 hoth hcur3 hlow hnew => ?_⟩
  have hk3 : Kept (Xs B td (k0 :: ks)) W W3 := ⟨by rw [hs3]; exact hk12.1, fun b hb' hn => (hoth b (fun e => hn (.inr (.inr ⟨k0, hk0m, e.symm⟩)))).trans (hk12.2 b hb' hn)⟩
  have hsz := fsT_hd T k0.said u hd
  have hwsz : (fsT T k0.said u).size = 1 + wkL T s0 kids := by rw [hsz]; simp only [Ty.size, sizeL_map]
  have htake : wkL T k0.said (k0.ts.take (i + 1)) = wkL T k0.said (k0.ts.take i) + (1 + wkL T s0 kids) := by
    rw [take_step _ _ _ hu, wkL_app, ← hwsz]
    simp [wkL]
  have hat3 : AtCells W3 ⟨k0.G, 0, none⟩ := by obtain ⟨cur, h1, _⟩ := hcur3; exact ⟨cur, _, h1⟩
  have hc02 : ∀ j, W2.cell? ⟨k0.G, j, none⟩ = W.cell? ⟨k0.G, j, none⟩ := fun j => World.cell?_of_block (w := W) (a := ⟨k0.G, j, none⟩) (hkeepG k0 hk0m)
  have hrows := hdT_rows (R := R) ((h.ok k0 hk0m).rows.imp id fun hr => hr u (List.mem_of_getElem? hu)) hd
  have htd2 : ∀ b, td'.ownBlock = some b → td.ownBlock = some b ∨ W.heap.size ≤ b := fun b hb' => by
    rcases htd with e | ⟨g, e, hg⟩
    · exact .inl (by rw [← e]; exact hb')
    · rw [e] at hb'; injection hb' with hb'; exact .inr (by omega)
  have hchg3 : Chg p (.slice none 0 0) w W3 := by
    have hw := h.chg.size
    refine ⟨hos3.trans (hchg.os.trans (hb.os.trans h.chg.os)), htp3.trans (hchg.tape.trans (hb.tape.trans h.chg.tape)), hou3.trans (hchg.output.trans (hb.output.trans h.chg.output)), by have := hchg.size; omega, fun b h1 h2 h3 => ?_⟩
    have hbB : b < B := by omega
    refine (hoth b (fun e => by have := hGB k0 hk0m; omega)).trans ((hchg.block b (by omega) h2 (fun e => by have := (own_block h.aps.row b e).1; omega)).trans ((hb.block b (by omega)).trans (h.chg.block b h1 h2 h3)))
  have hok3 : ∀ k' ∈ k0 :: ks, TkOK T R w0 B W3 k' := fun k' hk' => by
    have ho := h.ok k' hk'
    refine ⟨ho.pos, ho.few, ho.src, ho.kids, ?_, ho.old, ho.rows⟩
    by_cases e : k'.G = k0.G
    · have hk0 : k' = k0 := by
        rcases List.mem_cons.1 hk' with e2 | hm
        · exact e2
        · exfalso
          have hnd := h.nd
          simp only [List.map_cons, List.nodup_cons] at hnd
          exact hnd.1 (List.mem_map.2 ⟨k', hm, e⟩)
      rw [hk0]
      exact hcur3
    · obtain ⟨cur, h1, h2⟩ := hlies2 k' hk'
      exact ⟨cur, (hoth _ e).trans h1, h2⟩
  have hlblt : ∀ b, lv'.ownBlock = some b → W.heap.size ≤ b ∧ b < W3.heap.size := fun b hb' => by
    obtain ⟨h1, h2, _⟩ := hlb b hb'
    rw [hs3]
    exact ⟨by omega, h2⟩
  have hlv3 : StrR W3 lv' ls := hlv.kept (X := fun b => b = k0.G) ⟨by rw [hs3]; exact Nat.le_refl _, fun b _ hn => hoth b hn⟩ fun b hb' => ⟨(hlb b hb').2.1, fun e => by have := hlblt b hb'; have := hGlt k0 hk0m; omega⟩
  have hpW : p < W.heap.size := h.aps.at_.lt
  have hPJ : ∀ g ∈ (k0 :: ks).map Tk.G, g < W.heap.size := fun g hg => by
    obtain ⟨k', hk', rfl⟩ := List.mem_map.1 hg
    exact hGlt k' hk'
  have hkeepJ : ∀ g, B ≤ g → g < W.heap.size → td.ownBlock ≠ some g → g ∉ (k0 :: ks).map Tk.G → W3.heap[g]? = W.heap[g]? := fun g h1 h2 h3 h4 =>
    (hoth g (fun e => h4 (by rw [e]; exact List.mem_map.2 ⟨k0, hk0m, rfl⟩))).trans ((hchg.block g (by omega) (by omega) h3).trans (hb.block g h2))
  have hlowJ : ∀ j, j < i * 6 → W3.cell? ⟨k0.G, j, none⟩ = W.cell? ⟨k0.G, j, none⟩ := fun j hj => (hlow j hj).trans (hc02 j)
  rcases hcase with ⟨rfl, rfl, rfl, rfl⟩ | ⟨h0, G, cur, kv0, rfl, hG, hlG, hcurs, htG, hlG2, rfl, rfl, hsl, hkk⟩
  · have hxs : ∀ b, b < W.heap.size → ¬ Xs B td (k0 :: ks) b → ¬ Xs B td' (k0 :: ks) b := fun b hb' hn hx => by
      rcases hx with hx | hx | hx
      · exact hn (.inl hx)
      · rcases htd2 b hx with h1 | h1
        · exact hn (.inr (.inl h1))
        · omega
      · exact hn (.inr (.inr hx))
    refine ⟨td', ks, ⟨⟨(hoth p (by have := hGB k0 hk0m; omega)).trans haps.at_, own_sameB haps.row fun b hb' => hoth b (fun e => ?_)⟩, hok3, h.nd, h.prom.keep hk3 hxs (fun k' hk' => hk'), ?_, hchg3, fun b hF => ?_, fun k' hk' e => ?_, ?_, h.tree.stepN hk3.1 hkeepJ hlowJ htd2 (hnew 3 _ rfl)⟩, hk3⟩
    · rcases htd2 b hb' with h1 | h1
      · exact h.tdG k0 hk0m (e ▸ h1)
      · have := hGlt k0 hk0m; omega
    · refine h.promL.step hk3 hxs (fun k' hk' => hk') (fun j hj => (hlow j hj).trans (hc02 j)) fun w' hk' hc' hat hd' t' ht' => ?_
      rw [hu] at ht'
      injection ht' with ht'
      subst ht'
      rw [hsz]
      have hlw : StrR w' lv' ls := hlv3.kept hk' fun b hb' => ⟨(hlblt b hb').2, fun hx => by
        have h1 := hlblt b hb'
        rcases hx with hx | hx | ⟨k', hm, hx⟩
        · omega
        · exact (hlb b hb').2.2 hx
        · have := hGlt k' hm; omega⟩
      obtain ⟨cw, tw, hw⟩ := hat
      have hr : ReadsAt w' ⟨k0.G, i * 6, none⟩ (tyC k nm v (.slice none 0 0) lv' rv) := fun j q hq => (hc' (i * 6 + j) (by have := (List.getElem?_eq_some_iff.1 hq).1; simp only [tyC, List.length_cons, List.length_nil] at this; omega)).trans (hnew j q hq)
      exact .mk _ k nm v [] ls rv _ _ rfl ⟨cw, tw, hw⟩ hr (.inl ⟨rfl, rfl⟩) hlw hoks (fun j q hq => by simp at hq)
    · obtain ⟨h1, h2⟩ := h.fx b hF
      exact ⟨Nat.lt_of_lt_of_le h1 hk3.1, hxs b h1 h2⟩
    · rcases htd2 _ e with h1 | h1
      · exact h.tdG k' hk' h1
      · have := hGlt k' hk'; omega
    · have := h.work
      rw [htake]
      simp only [wkL, List.map_nil, List.sum_nil] at *
      omega
  · obtain ⟨nk, hnk⟩ : ∃ nk : Tk, nk = ⟨kv0, kids, G, s0⟩ := ⟨_, rfl⟩
    have hGW : W.heap.size ≤ G := by omega
    have hlG3 : Lies W3 G 44 cur := (hoth G (by have := hGlt k0 hk0m; omega)).trans hlG
    have hxs : ∀ b, b < W.heap.size → ¬ Xs B td (k0 :: ks) b → ¬ Xs B td' (k0 :: (ks ++ [nk])) b := fun b hb' hn hx => by
      rcases hx with hx | hx | ⟨k', hm, hx⟩
      · exact hn (.inl hx)
      · rcases htd2 b hx with h1 | h1
        · exact hn (.inr (.inl h1))
        · omega
      · rcases List.mem_cons.1 hm with h1 | h1
        · exact hn (.inr (.inr ⟨k', by rw [h1]; exact hk0m, hx⟩))
        · rcases List.mem_append.1 h1 with h1 | h1
          · exact hn (.inr (.inr ⟨k', List.mem_cons_of_mem _ h1, hx⟩))
          · rw [List.mem_singleton.1 h1, hnk] at hx; have hx : G = b := hx; omega
    have hsub : ∀ k' ∈ k0 :: ks, k' ∈ k0 :: (ks ++ [nk]) := fun k' hm => by
      rcases List.mem_cons.1 hm with h1 | h1
      · rw [h1]; exact List.mem_cons_self ..
      · exact List.mem_cons_of_mem _ (List.mem_append_left _ h1)
    have hmem : ∀ k' ∈ k0 :: (ks ++ [nk]), k' ∈ k0 :: ks ∨ k' = nk := fun k' hm => by
      rcases List.mem_cons.1 hm with h1 | h1
      · exact .inl (by rw [h1]; exact hk0m)
      · rcases List.mem_append.1 h1 with h1 | h1
        · exact .inl (List.mem_cons_of_mem _ h1)
        · exact .inr (List.mem_singleton.1 h1)
    refine ⟨td', ks ++ [nk], ⟨⟨(hoth p (by have := hGB k0 hk0m; omega)).trans haps.at_, ?_⟩, fun k' hk' => ?_, ?_, h.prom.keep hk3 hxs hsub, ?_, hchg3, fun b hF => ?_, fun k' hk' e => ?_, ?_, ?_⟩, hk3⟩
    · have hr := own_sameB (w' := W3) haps.row fun b hb' => hoth b (fun e => by
        rcases htd2 b hb' with h1 | h1
        · exact h.tdG k0 hk0m (e ▸ h1)
        · have := hGlt k0 hk0m; omega)
      have e1 : (ks ++ [nk]).flatMap tkC = ks.flatMap tkC ++ [kv0, .slice (some ⟨G, 0, none⟩) kids.length kids.length, .bool s0] := by rw [List.flatMap_append, hnk]; simp [tkC]
      rw [e1, List.length_append]
      exact hr
    · rcases hmem k' hk' with h1 | h1
      · exact hok3 k' h1
      · rw [h1, hnk]
        exact ⟨h0, hkl, hsl, hkk, ⟨cur, hlG3, hcurs⟩, by show B ≤ G; omega, hrows⟩
    · have hnd := h.nd
      rw [show k0 :: (ks ++ [nk]) = (k0 :: ks) ++ [nk] from rfl, List.map_append, List.nodup_append]
      refine ⟨hnd, by simp, fun a ha b hb' => ?_⟩
      obtain ⟨k', hk', rfl⟩ := List.mem_map.1 ha
      simp only [List.map_cons, List.map_nil, List.mem_singleton] at hb'
      have := hGlt k' hk'
      rw [hb', hnk]
      show k'.G ≠ G
      omega
    · refine h.promL.step hk3 hxs (fun k' hk' => List.mem_append_left _ hk') (fun j hj => (hlow j hj).trans (hc02 j)) fun w' hk' hc' hat hd' t' ht' => ?_
      rw [hu] at ht'
      injection ht' with ht'
      subst ht'
      rw [hsz]
      have hlw : StrR w' lv' ls := hlv3.kept hk' fun b hb' => ⟨(hlblt b hb').2, fun hx => by
        have h1 := hlblt b hb'
        rcases hx with hx | hx | ⟨k', hm, hx⟩
        · omega
        · exact (hlb b hb').2.2 hx
        · rcases hmem k' hm with h2 | h2
          · have := hGlt k' h2; omega
          · rw [h2, hnk] at hx
            exact hlG2 b hb' hx.symm⟩
      have hdn := hd' nk (List.mem_append_right _ (List.mem_singleton.2 rfl))
      rw [hnk] at hdn
      have hnew' := tfv_new T (w := w') (kv := .slice (some ⟨G, 0, none⟩) kids.length kids.length) (nm := nm) hoks hlw (.inr ⟨h0, G, rfl, hdn⟩)
      obtain ⟨kv2, lv2, hl2, hs2, hst2, ho2, hk2⟩ := hnew'
      have hr : ReadsAt w' ⟨k0.G, i * 6, none⟩ (tyC k nm v (.slice (some ⟨G, 0, none⟩) kids.length kids.length) lv' rv) := fun j q hq => (hc' (i * 6 + j) (by have := (List.getElem?_eq_some_iff.1 hq).1; simp only [tyC, List.length_cons, List.length_nil] at this; omega)).trans (hnew j q hq)
      rw [hl2] at hr
      obtain ⟨cw, tw, hw⟩ := hat
      exact .mk _ k nm v _ ls rv kv2 lv2 rfl ⟨cw, tw, hw⟩ hr hs2 hst2 ho2 hk2
    · obtain ⟨h1, h2⟩ := h.fx b hF
      exact ⟨Nat.lt_of_lt_of_le h1 hk3.1, hxs b h1 h2⟩
    · rcases hmem k' hk' with h2 | h2
      · rcases htd2 _ e with h1 | h1
        · exact h.tdG k' h2 h1
        · have := hGlt k' h2; omega
      · rw [h2, hnk] at e
        exact htG e
    · have := h.work
      rw [htake, wks_app]
      have e2 : wks T [nk] = wkL T s0 kids := by rw [hnk]; simp [wks, wk]
      omega
    · have ht := h.tree.stepG (G := G) (m := kids.length) (d := kids.length) hPJ hk3.1 hkeepJ hlowJ htd2 hGW (hnew 3 _ rfl)
      have e2 : (k0 :: (ks ++ [nk])).map Tk.G = (k0 :: ks).map Tk.G ++ [G] := by rw [hnk]; simp
      rw [e2]
      exact ht
end Go.Proofs.YtpbhndmfmnfeoaaGreat
