/- The list of tasks, where something may be said of rows, too: the logic of it. -/
import Derived.Test.YthdfomcpoofkaaaMg18
import Derived.Test.YthdfomcpoofkaaaSbo
import Derived.Outline
namespace Go.Proofs.Ythdfomcpoofkaaa.Ri
open Go.RowKit

structure TT where
  t : Int → Option Ty
  r : Int → Option (List Str × Int)
mutual
/-- What becomes of a type, rows too. -/
def apT (T : TT) : Ty → Ty
  | .mk k nm v kids ls rv => match insT T.t k v with | some u => u | none => .mk k nm v (apTL T kids) (apR T.r (ls, rv)).1 (apR T.r (ls, rv)).2
def apTL (T : TT) : List Ty → List Ty
  | [] => []
  | t :: r => apT T t :: apTL T r
end
mutual
/-- What becomes of its rows is not too long. -/
def rowsFree (T : TT) : Ty → Prop
  | .mk k _ v kids ls rv => (insT T.t k v).isSome = true ∨ (fitR T.r (ls, rv) ∧ rowsFreeL T kids)
def rowsFreeL (T : TT) : List Ty → Prop
  | [] => True
  | t :: r => rowsFree T t ∧ rowsFreeL T r
end
theorem apTL_map (T : TT) : ∀ l, apTL T l = l.map (apT T)
  | [] => rfl
  | t :: r => by simp only [apTL, List.map_cons, apTL_map T r]
/-- The type that is copied, its row as it is to be, and whether it is met in what is said. -/
def hdT (T : TT) (said : Bool) (t : Ty) : Ty × Bool :=
  match t with
  | .mk k nm v kids ls rv => if said then (.mk k nm v kids ls rv, true) else match insT T.t k v with | some u => (u, true) | none => (.mk k nm v kids (apR T.r (ls, rv)).1 (apR T.r (ls, rv)).2, false)
/-- What becomes of a type. -/
def fsT (T : TT) (said : Bool) (t : Ty) : Ty := if said then t else apT T t
theorem fsT_hd (T : TT) (said : Bool) (t : Ty) {k : Int} {nm : Str} {v : Int} {kids : List Ty} {ls : List Str} {rv : Int} {s0 : Bool} (h : hdT T said t = (.mk k nm v kids ls rv, s0)) : fsT T said t = .mk k nm v (kids.map (fsT T s0)) ls rv := by
  obtain ⟨k', nm', v', kids', ls', rv'⟩ := t
  have hid : ∀ l : List Ty, l.map (fsT T true) = l := fun l => by
    have : fsT T true = id := by funext t; rfl
    rw [this, List.map_id]
  cases said with
  | true =>
    simp only [hdT, if_true, Prod.mk.injEq] at h
    obtain ⟨h1, rfl⟩ := h
    rw [hid]
    exact h1
  | false =>
    simp only [hdT, Bool.false_eq_true, if_false] at h
    cases hi : insT T.t k' v' with
    | some u =>
      rw [hi] at h
      simp only [Prod.mk.injEq] at h
      obtain ⟨h1, rfl⟩ := h
      rw [hid]
      simp only [fsT, Bool.false_eq_true, if_false, apT, hi]
      exact h1
    | none =>
      rw [hi] at h
      simp only [Prod.mk.injEq, Ty.mk.injEq] at h
      obtain ⟨⟨rfl, rfl, rfl, rfl, rfl, rfl⟩, rfl⟩ := h
      have hf : fsT T false = apT T := by funext t; rfl
      simp only [hf, apT, hi, apTL_map]
theorem apR_ok {w : World} {R : Int → Option (List Str × Int)} {g : GMap} (h : RM w R g) {ls : List Str} {rv : Int} (hv : i64ok rv) : i64ok (apR R (ls, rv)).2 := by
  unfold apR
  cases hi : insR R rv with
  | none => exact hv
  | some u =>
    unfold insR at hi
    split at hi
    · cases hi
    · have h1 := h rv hv
      rw [hi] at h1
      obtain ⟨l, _, lv, _, _, h2⟩ := h1
      exact h2
theorem become_any (w0 w : World) (p B : Nat) (vt vr td : Value) (n : Nat) (tc : List Value) (m : Nat) (T : TT) (hs : SubV w0 (.agg #[vt, vr]) m T.t T.r) (hm : m ≤ 1000000) (hB0 : Below w0.heap.size w0 w) (hpB : p < B) (hBw : B ≤ w.heap.size) (haps : ApS w p B vt vr td n tc) (hn : n ≤ 1000000)
    (t : Ty) (l : List Value) (ht : TRV w0 t l) (said : Bool) (hrf : said = true ∨ rowsFree T t) (k : Int) (nm : Str) (v : Int) (kids : List Ty) (ls : List Str) (rv : Int) (s0 : Bool) (hd : hdT T said t = (.mk k nm v kids ls rv, s0)) (hkl : kids.length ≤ 1000000) :
    Calls Try.prog 61 #[.pointer (some ⟨p, 0, none⟩), .agg l.toArray, .bool said] w (BecEnd w0 w p B vt vr td n tc k nm v kids ls rv s0) := by
  obtain ⟨kO, nmO, vO, kidsO, lsO, rvO⟩ := t
  cases said with
  | true => exact Go.Proofs.Ythdfomcpoofkaaa.become_any w0 w p B vt vr td n tc m T.t T.r hs hm hB0 hpB hBw haps hn _ l ht true (.inl rfl) k nm v kids ls rv s0 hd hkl
  | false =>
    cases hi : insT T.t kO vO with
    | some u =>
      refine Go.Proofs.Ythdfomcpoofkaaa.become_any w0 w p B vt vr td n tc m T.t T.r hs hm hB0 hpB hBw haps hn _ l ht false (.inr ?_) k nm v kids ls rv s0 ?_ hkl
      · simp only [Go.Proofs.Ythdfomcpoofkaaa.rowsFree, hi, Option.isSome_some, true_or]
      · simp only [hdT, Bool.false_eq_true, if_false, hi] at hd
        simp only [Go.Proofs.Ythdfomcpoofkaaa.hdT, Bool.false_eq_true, if_false, hi]
        exact hd
    | none =>
      have hf : fitR T.r (lsO, rvO) := by
        rcases hrf with h | h
        · cases h
        · simp only [rowsFree, hi, Option.isSome_none, Bool.false_eq_true, false_or] at h
          exact h.1
      simp only [hdT, Bool.false_eq_true, if_false, hi, Prod.mk.injEq, Ty.mk.injEq] at hd
      obtain ⟨⟨rfl, rfl, rfl, rfl, rfl, rfl⟩, rfl⟩ := hd
      exact become_none w0 w p B vt vr td n tc m T.t T.r hs hm hB0 hpB hBw haps hn l _ _ _ _ lsO rvO ht hi _ _ rfl hf hkl
/-- Of a list nothing is still to do. -/
def DoneK (T : TT) (w : World) (k : Tk) : Prop := ∀ (i : Nat) t, k.ts[i]? = some t → TF w ⟨k.G, i * 6, none⟩ (fsT T k.said t)
/-- The promise: in whatever later world in which nothing is still to do the cells are the type. -/
def Prom (T : TT) (B : Nat) (td : Value) (ks : List Tk) (w : World) (t : Ty) (l : List Value) : Prop :=
  ∀ w', Kept (Xs B td ks) w w' → (∀ k ∈ ks, DoneK T w' k) → TFV w' t l
/-- .. of the first types of a list. -/
def PromL (T : TT) (B : Nat) (td : Value) (ks : List Tk) (k : Tk) (n : Nat) (w : World) : Prop :=
  ∀ w', Kept (Xs B td (k :: ks)) w w' → (∀ j, j < n * 6 → w'.cell? ⟨k.G, j, none⟩ = w.cell? ⟨k.G, j, none⟩) → AtCells w' ⟨k.G, 0, none⟩ → (∀ k' ∈ ks, DoneK T w' k') → ∀ (i : Nat) t, i < n → k.ts[i]? = some t → TF w' ⟨k.G, i * 6, none⟩ (fsT T k.said t)
theorem Prom.keep {T : TT} {B : Nat} {td td' : Value} {ks ks' : List Tk} {w w1 : World} {t : Ty} {l : List Value} (h : Prom T B td ks w t l) (hk : Kept (Xs B td ks) w w1) (hx : ∀ i, i < w.heap.size → ¬ Xs B td ks i → ¬ Xs B td' ks' i) (hs : ∀ k ∈ ks, k ∈ ks') : Prom T B td' ks' w1 t l :=
  fun w' hk' hd => h w' (hk.trans hk' hx) fun k hm => hd k (hs k hm)
/-- A list is done: what was promised with it is promised without it. -/
theorem Prom.done {T : TT} {B : Nat} {td : Value} {ks : List Tk} {k : Tk} {w : World} {t : Ty} {l : List Value} (h : Prom T B td (k :: ks) w t l) (hl : PromL T B td ks k k.ts.length w) (hat : AtCells w ⟨k.G, 0, none⟩) (hG : ¬ Xs B td ks k.G) : Prom T B td ks w t l := by
  intro w' hk hd
  have hk' : Kept (Xs B td (k :: ks)) w w' := ⟨hk.1, fun b hb hn => hk.2 b hb (fun hx => hn (by
    rcases hx with h | h | ⟨k', h1, h2⟩
    · exact .inl h
    · exact .inr (.inl h)
    · exact .inr (.inr ⟨k', List.mem_cons_of_mem _ h1, h2⟩)))⟩
  have hG' := hk.2 k.G hat.lt hG
  have hdk : DoneK T w' k := fun i t hi => hl w' hk' (fun j _ => World.cell?_of_block (w := w) (a := ⟨k.G, j, none⟩) hG') (hat.keep hG') hd i t (List.getElem?_eq_some_iff.1 hi).1 hi
  exact h w' hk' fun k' hm => by
    rcases List.mem_cons.1 hm with rfl | hm
    · exact hdk
    · exact hd k' hm
/-- A type more of a list. -/
theorem PromL.step {T : TT} {B : Nat} {td td' : Value} {ks ks' : List Tk} {k : Tk} {n : Nat} {w w1 : World} (h : PromL T B td ks k n w) (hk : Kept (Xs B td (k :: ks)) w w1) (hx : ∀ i, i < w.heap.size → ¬ Xs B td (k :: ks) i → ¬ Xs B td' (k :: ks') i) (hs : ∀ k ∈ ks, k ∈ ks')
    (hc : ∀ j, j < n * 6 → w1.cell? ⟨k.G, j, none⟩ = w.cell? ⟨k.G, j, none⟩)
    (hnew : ∀ w', Kept (Xs B td' (k :: ks')) w1 w' → (∀ j, j < (n + 1) * 6 → w'.cell? ⟨k.G, j, none⟩ = w1.cell? ⟨k.G, j, none⟩) → AtCells w' ⟨k.G, 0, none⟩ → (∀ k' ∈ ks', DoneK T w' k') → ∀ t, k.ts[n]? = some t → TF w' ⟨k.G, n * 6, none⟩ (fsT T k.said t)) : PromL T B td' ks' k (n + 1) w1 := by
  intro w' hk' hc' hat hd i t hi ht
  by_cases hin : i < n
  · exact h w' (hk.trans hk' hx) (fun j hj => (hc' j (by omega)).trans (hc j hj)) hat (fun k' hm => hd k' (hs k' hm)) i t hin ht
  · obtain rfl : i = n := by omega
    exact hnew w' hk' hc' hat hd t ht
theorem PromL.zero (T : TT) (B : Nat) (td : Value) (ks : List Tk) (k : Tk) (w : World) : PromL T B td ks k 0 w := fun _ _ _ _ _ i _ hi => by omega
theorem tfv_new (T : TT) {w : World} {k : Int} {nm : Str} {v : Int} {kids : List Ty} {ls : List Str} {rv : Int} {kv lv : Value} {s0 : Bool} (hi : oks k v rv) (hl : StrR w lv ls)
    (hk : (kids = [] ∧ kv = .slice none 0 0) ∨ (0 < kids.length ∧ ∃ G, kv = .slice (some ⟨G, 0, none⟩) kids.length kids.length ∧ ∀ (i : Nat) t, kids[i]? = some t → TF w ⟨G, i * 6, none⟩ (fsT T s0 t))) : TFV w (.mk k nm v (kids.map (fsT T s0)) ls rv) (tyC k nm v kv lv rv) := by
  refine ⟨kv, lv, rfl, ?_, hl, hi, fun i t ht => ?_⟩
  · rcases hk with ⟨rfl, rfl⟩ | ⟨h0, G, rfl, h1⟩
    · exact .inl ⟨rfl, rfl⟩
    · have h2 := (h1 0 (kids[0]'h0) (List.getElem?_eq_getElem h0)).at_
      refine .inr ⟨G, by rw [List.length_map], by rw [List.length_map]; exact h0, ?_⟩
      rw [Nat.zero_mul] at h2
      exact h2
  · rw [List.getElem?_map] at ht
    obtain ⟨u, hu, rfl⟩ := Option.map_eq_some_iff.1 ht
    rcases hk with ⟨rfl, rfl⟩ | ⟨h0, G, rfl, h1⟩
    · simp at hu
    · have h2 := h1 i u hu
      simp only [kidAt, Nat.zero_add]
      exact h2
/-- The parts of a task. -/
structure TkOK (T : TT) (w0 : World) (B : Nat) (W : World) (k : Tk) : Prop where
  pos : 0 < k.ts.length
  few : k.ts.length ≤ 1000000
  src : SlR k.src k.ts.length
  kids : ∀ (i : Nat) t, k.ts[i]? = some t → TR w0 (kidAt k.src i) t
  lies : ∃ cur, Lies W k.G 28 cur ∧ cur.size = k.ts.length * 6
  old : B ≤ k.G
  rows : k.said = true ∨ ∀ t ∈ k.ts, rowsFree T t
def wkL (T : TT) (said : Bool) (ts : List Ty) : Nat := (ts.map fun t => (fsT T said t).size).sum
def wk (T : TT) (k : Tk) : Nat := wkL T k.said k.ts
def wks (T : TT) (ks : List Tk) : Nat := (ks.map (wk T)).sum
theorem wkL_app (T : TT) (said : Bool) (a b : List Ty) : wkL T said (a ++ b) = wkL T said a + wkL T said b := by simp [wkL]
theorem wks_app (T : TT) (a b : List Tk) : wks T (a ++ b) = wks T a + wks T b := by simp [wks]
theorem wkL_len (T : TT) (said : Bool) : ∀ ts, ts.length ≤ wkL T said ts
  | [] => Nat.le_refl _
  | t :: r => by
    have := wkL_len T said r
    have := Ty.size_pos (fsT T said t)
    simp only [wkL, List.map_cons, List.sum_cons, List.length_cons] at *
    omega
theorem wks_len (T : TT) : ∀ ks : List Tk, (∀ k ∈ ks, 0 < k.ts.length) → ks.length ≤ wks T ks
  | [], _ => Nat.le_refl _
  | k :: r, h => by
    have := wks_len T r fun k hk => h k (List.mem_cons_of_mem _ hk)
    have := wkL_len T k.said k.ts
    have := h k (List.mem_cons_self ..)
    simp only [wks, wk, List.map_cons, List.sum_cons, List.length_cons] at *
    omega
theorem sizeL_map (T : TT) (said : Bool) : ∀ ts, Ty.sizeL (ts.map (fsT T said)) = wkL T said ts
  | [] => rfl
  | t :: r => by simp only [List.map_cons, Ty.sizeL, sizeL_map T said r, wkL, List.sum_cons]
theorem rowsFreeL_mem {T : TT} : ∀ {l : List Ty}, rowsFreeL T l → ∀ t ∈ l, rowsFree T t
  | _ :: _, h, _, .head _ => h.1
  | _ :: _, h, _, .tail _ hm => rowsFreeL_mem h.2 _ hm
theorem hdT_rows {T : TT} {said : Bool} {t : Ty} (h : said = true ∨ rowsFree T t) {k : Int} {nm : Str} {v : Int} {kids : List Ty} {ls : List Str} {rv : Int} {s0 : Bool} (hd : hdT T said t = (.mk k nm v kids ls rv, s0)) : s0 = true ∨ ∀ t ∈ kids, rowsFree T t := by
  obtain ⟨k', nm', v', kids', ls', rv'⟩ := t
  cases said with
  | true =>
    simp only [hdT, if_true, Prod.mk.injEq] at hd
    exact .inl hd.2.symm
  | false =>
    simp only [hdT, Bool.false_eq_true, if_false] at hd
    cases hi : insT T.t k' v' with
    | some u =>
      rw [hi] at hd
      simp only [Prod.mk.injEq] at hd
      exact .inl hd.2.symm
    | none =>
      rw [hi] at hd
      simp only [Prod.mk.injEq, Ty.mk.injEq] at hd
      obtain ⟨⟨rfl, rfl, rfl, rfl, rfl, rfl⟩, rfl⟩ := hd
      refine .inr ?_
      rcases h with h | h
      · cases h
      · simp only [rowsFree, hi, Option.isSome_none, Bool.false_eq_true, false_or] at h
        exact rowsFreeL_mem h.2
/-- The state within a task: so many of its types are done. -/
structure IS (T : TT) (w0 w : World) (p B : Nat) (vt vr : Value) (t : Ty) (l : List Value) (F : Nat → Prop) (k0 : Tk) (N : Nat) (W : World) (td : Value) (ks : List Tk) (i : Nat) : Prop where
  aps : ApS W p B vt vr td ks.length (ks.flatMap tkC)
  ok : ∀ k ∈ k0 :: ks, TkOK T w0 B W k
  nd : ((k0 :: ks).map Tk.G).Nodup
  prom : Prom T B td (k0 :: ks) W t l
  promL : PromL T B td ks k0 i W
  chg : Chg p (.slice none 0 0) w W
  fx : ∀ b, F b → b < W.heap.size ∧ ¬ Xs B td (k0 :: ks) b
  tdG : ∀ k ∈ k0 :: ks, td.ownBlock ≠ some k.G
  work : wks T ks + i = N + wkL T k0.said (k0.ts.take i)
  tree : JI l B W td ((k0 :: ks).map Tk.G) k0.G i
set_option maxHeartbeats 1000000 in
theorem IS.step {T : TT} {w0 w : World} {p B : Nat} {vt vr : Value} {t : Ty} {l : List Value} {F : Nat → Prop} {k0 : Tk} {N : Nat} {W : World} {td : Value} {ks : List Tk} {i : Nat} (h : IS T w0 w p B vt vr t l F k0 N W td ks i)
    (hpB : p < B) (hB : w.heap.size ≤ B) (hBW : B ≤ W.heap.size) {W1 : World} (hb : Below W.heap.size W W1) {u : Ty} (hu : k0.ts[i]? = some u) {k : Int} {nm : Str} {v : Int} {kids : List Ty} {ls : List Str} {rv : Int} {s0 : Bool} (hd : hdT T k0.said u = (.mk k nm v kids ls rv, s0)) (hkl : kids.length ≤ 1000000) (hoks : oks k v rv)
    {e : Ending} {W2 : World} (hbe : BecEnd w0 W1 p B vt vr td ks.length (ks.flatMap tkC) k nm v kids ls rv s0 e W2) :
    ∃ lc : List Value, e = .returned (.agg lc.toArray) ∧ (∃ A1 n1 c1 A2 n2 c2, lc = tyC k nm v (.slice A1 n1 c1) (.slice A2 n2 c2) rv) ∧ Kept (Xs B td (k0 :: ks)) W W2 ∧ (∃ cur, Lies W2 k0.G 28 cur ∧ cur.size = k0.ts.length * 6) ∧ W1.heap.size ≤ W2.heap.size ∧ W2.os = W1.os ∧ (∀ b, b < W1.heap.size → b ≠ p → td.ownBlock ≠ some b → W2.heap[b]? = W1.heap[b]?) ∧
    ∀ W3 : World, W3.heap.size = W2.heap.size → W3.os = W2.os → W3.tape = W2.tape → W3.output = W2.output → (∀ b, b ≠ k0.G → W3.heap[b]? = W2.heap[b]?) → (∃ cur, Lies W3 k0.G 28 cur ∧ cur.size = k0.ts.length * 6) →
      (∀ j, j < i * 6 → W3.cell? ⟨k0.G, j, none⟩ = W2.cell? ⟨k0.G, j, none⟩) → (∀ j q, lc[j]? = some q → W3.cell? ⟨k0.G, i * 6 + j, none⟩ = some q) →
      ∃ td' ks', IS T w0 w p B vt vr t l F k0 N W3 td' ks' (i + 1) ∧ Kept (Xs B td (k0 :: ks)) W W3 := by
  obtain ⟨kv', lv', td', n', tc', rfl, hlv, hlb, haps, htd, hchg, hcase⟩ := hbe
  have hW1 := hb.size
  have hk0m : k0 ∈ k0 :: ks := List.mem_cons_self ..
  have hGlt : ∀ k ∈ k0 :: ks, k.G < W.heap.size := fun k hk => by obtain ⟨cur, h1, _⟩ := (h.ok k hk).lies; exact h1.lt
  have hGB : ∀ k ∈ k0 :: ks, B ≤ k.G := fun k hk => (h.ok k hk).old
  have hXt : ∀ b, td.ownBlock = some b → b < W.heap.size := fun b hb => (own_block h.aps.row b hb).2
  have hk12 : Kept (Xs B td (k0 :: ks)) W W2 := ⟨Nat.le_trans hW1 hchg.size, fun b hb' hn => (hchg.block b (by omega) (fun e => hn (.inl (by omega))) (fun e => hn (.inr (.inl e)))).trans (hb.block b hb')⟩
  have hkeepG : ∀ k ∈ k0 :: ks, W2.heap[k.G]? = W.heap[k.G]? := fun k hk => (hchg.block k.G (by have := hGlt k hk; omega) (by have := hGB k hk; omega) (h.tdG k hk)).trans (hb.block _ (hGlt k hk))
  have hlies2 : ∀ k ∈ k0 :: ks, ∃ cur, Lies W2 k.G 28 cur ∧ cur.size = k.ts.length * 6 := fun k hk => by
    obtain ⟨cur, h1, h2⟩ := (h.ok k hk).lies
    exact ⟨cur, (hkeepG k hk).trans h1, h2⟩
  have hshape : ∃ A1 n1 c1 A2 n2 c2, tyC k nm v kv' lv' rv = tyC k nm v (.slice A1 n1 c1) (.slice A2 n2 c2) rv := by
    obtain ⟨A1, n1, c1, h1⟩ : ∃ A n c, kv' = .slice A n c := by rcases hcase with ⟨_, rfl, _⟩ | ⟨_, _, _, _, rfl, _⟩ <;> exact ⟨_, _, _, rfl⟩
    obtain ⟨A2, n2, c2, h2⟩ : ∃ A n c, lv' = .slice A n c := by rcases hlv.1 with ⟨rfl, _⟩ | ⟨_, _, rfl, _⟩ <;> exact ⟨_, _, _, rfl⟩
    exact ⟨A1, n1, c1, A2, n2, c2, by rw [h1, h2]⟩
  refine ⟨tyC k nm v kv' lv' rv, rfl, hshape, hk12, hlies2 k0 hk0m, hchg.size, hchg.os, hchg.block, fun W3 hs3 hos3 htp3 hou3 hoth hcur3 hlow hnew => ?_⟩
  have hk3 : Kept (Xs B td (k0 :: ks)) W W3 := ⟨by rw [hs3]; exact hk12.1, fun b hb' hn => (hoth b (fun e => hn (.inr (.inr ⟨k0, hk0m, e.symm⟩)))).trans (hk12.2 b hb' hn)⟩
  have hsz := fsT_hd T k0.said u hd
  have hwsz : (fsT T k0.said u).size = 1 + wkL T s0 kids := by rw [hsz]; simp only [Ty.size, sizeL_map]
  have htake : wkL T k0.said (k0.ts.take (i + 1)) = wkL T k0.said (k0.ts.take i) + (1 + wkL T s0 kids) := by
    rw [take_step _ _ _ hu, wkL_app, ← hwsz]
    simp [wkL]
  have hat3 : AtCells W3 ⟨k0.G, 0, none⟩ := by obtain ⟨cur, h1, _⟩ := hcur3; exact ⟨cur, _, h1⟩
  have hc02 : ∀ j, W2.cell? ⟨k0.G, j, none⟩ = W.cell? ⟨k0.G, j, none⟩ := fun j => World.cell?_of_block (w := W) (a := ⟨k0.G, j, none⟩) (hkeepG k0 hk0m)
  have hrows := hdT_rows ((h.ok k0 hk0m).rows.imp id fun hr => hr u (List.mem_of_getElem? hu)) hd
  have htd2 : ∀ b, td'.ownBlock = some b → td.ownBlock = some b ∨ W.heap.size ≤ b := fun b hb' => by
    rcases htd with e | ⟨g, e, hg⟩
    · exact .inl (by rw [← e]; exact hb')
    · rw [e] at hb'; injection hb' with hb'; exact .inr (by omega)
  have hchg3 : Chg p (.slice none 0 0) w W3 := by
    have hw := h.chg.size
    refine ⟨hos3.trans (hchg.os.trans (hb.os.trans h.chg.os)), htp3.trans (hchg.tape.trans (hb.tape.trans h.chg.tape)), hou3.trans (hchg.output.trans (hb.output.trans h.chg.output)), by have := hchg.size; omega, fun b h1 h2 h3 => ?_⟩
    have hbB : b < B := by omega
    refine (hoth b (fun e => by have := hGB k0 hk0m; omega)).trans ((hchg.block b (by omega) h2 (fun e => by have := (own_block h.aps.row b e).1; omega)).trans ((hb.block b (by omega)).trans (h.chg.block b h1 h2 h3)))
  have hok3 : ∀ k' ∈ k0 :: ks, TkOK T w0 B W3 k' := fun k' hk' => by
    have ho := h.ok k' hk'
    refine ⟨ho.pos, ho.few, ho.src, ho.kids, ?_, ho.old, ho.rows⟩
    by_cases e : k'.G = k0.G
    · have hk0 : k' = k0 := by
        rcases List.mem_cons.1 hk' with e2 | hm
        · exact e2
        · exfalso
          have hnd := h.nd
          simp only [List.map_cons, List.nodup_cons] at hnd
          exact hnd.1 (List.mem_map.2 ⟨k', hm, e⟩)
      rw [hk0]
      exact hcur3
    · obtain ⟨cur, h1, h2⟩ := hlies2 k' hk'
      exact ⟨cur, (hoth _ e).trans h1, h2⟩
  have hlblt : ∀ b, lv'.ownBlock = some b → W.heap.size ≤ b ∧ b < W3.heap.size := fun b hb' => by
    obtain ⟨h1, h2, _⟩ := hlb b hb'
    rw [hs3]
    exact ⟨by omega, h2⟩
  have hlv3 : StrR W3 lv' ls := hlv.kept (X := fun b => b = k0.G) ⟨by rw [hs3]; exact Nat.le_refl _, fun b _ hn => hoth b hn⟩ fun b hb' => ⟨(hlb b hb').2.1, fun e => by have := hlblt b hb'; have := hGlt k0 hk0m; omega⟩
  have hpW : p < W.heap.size := h.aps.at_.lt
  have hPJ : ∀ g ∈ (k0 :: ks).map Tk.G, g < W.heap.size := fun g hg => by
    obtain ⟨k', hk', rfl⟩ := List.mem_map.1 hg
    exact hGlt k' hk'
  have hkeepJ : ∀ g, B ≤ g → g < W.heap.size → td.ownBlock ≠ some g → g ∉ (k0 :: ks).map Tk.G → W3.heap[g]? = W.heap[g]? := fun g h1 h2 h3 h4 =>
    (hoth g (fun e => h4 (by rw [e]; exact List.mem_map.2 ⟨k0, hk0m, rfl⟩))).trans ((hchg.block g (by omega) (by omega) h3).trans (hb.block g h2))
  have hlowJ : ∀ j, j < i * 6 → W3.cell? ⟨k0.G, j, none⟩ = W.cell? ⟨k0.G, j, none⟩ := fun j hj => (hlow j hj).trans (hc02 j)
  rcases hcase with ⟨rfl, rfl, rfl, rfl⟩ | ⟨h0, G, cur, kv0, rfl, hG, hlG, hcurs, htG, hlG2, rfl, rfl, hsl, hkk⟩
  · have hxs : ∀ b, b < W.heap.size → ¬ Xs B td (k0 :: ks) b → ¬ Xs B td' (k0 :: ks) b := fun b hb' hn hx => by
      rcases hx with hx | hx | hx
      · exact hn (.inl hx)
      · rcases htd2 b hx with h1 | h1
        · exact hn (.inr (.inl h1))
        · omega
      · exact hn (.inr (.inr hx))
    refine ⟨td', ks, ⟨⟨(hoth p (by have := hGB k0 hk0m; omega)).trans haps.at_, own_sameB haps.row fun b hb' => hoth b (fun e => ?_)⟩, hok3, h.nd, h.prom.keep hk3 hxs (fun k' hk' => hk'), ?_, hchg3, fun b hF => ?_, fun k' hk' e => ?_, ?_, h.tree.stepN hk3.1 hkeepJ hlowJ htd2 (hnew 3 _ rfl)⟩, hk3⟩
    · rcases htd2 b hb' with h1 | h1
      · exact h.tdG k0 hk0m (e ▸ h1)
      · have := hGlt k0 hk0m; omega
    · refine h.promL.step hk3 hxs (fun k' hk' => hk') (fun j hj => (hlow j hj).trans (hc02 j)) fun w' hk' hc' hat hd' t' ht' => ?_
      rw [hu] at ht'
      injection ht' with ht'
      subst ht'
      rw [hsz]
      have hlw : StrR w' lv' ls := hlv3.kept hk' fun b hb' => ⟨(hlblt b hb').2, fun hx => by
        have h1 := hlblt b hb'
        rcases hx with hx | hx | ⟨k', hm, hx⟩
        · omega
        · exact (hlb b hb').2.2 hx
        · have := hGlt k' hm; omega⟩
      obtain ⟨cw, tw, hw⟩ := hat
      have hr : ReadsAt w' ⟨k0.G, i * 6, none⟩ (tyC k nm v (.slice none 0 0) lv' rv) := fun j q hq => (hc' (i * 6 + j) (by have := (List.getElem?_eq_some_iff.1 hq).1; simp only [tyC, List.length_cons, List.length_nil] at this; omega)).trans (hnew j q hq)
      exact .mk _ k nm v [] ls rv _ _ rfl ⟨cw, tw, hw⟩ hr (.inl ⟨rfl, rfl⟩) hlw hoks (fun j q hq => by simp at hq)
    · obtain ⟨h1, h2⟩ := h.fx b hF
      exact ⟨Nat.lt_of_lt_of_le h1 hk3.1, hxs b h1 h2⟩
    · rcases htd2 _ e with h1 | h1
      · exact h.tdG k' hk' h1
      · have := hGlt k' hk'; omega
    · have := h.work
      rw [htake]
      simp only [wkL, List.map_nil, List.sum_nil] at *
      omega
  · obtain ⟨nk, hnk⟩ : ∃ nk : Tk, nk = ⟨kv0, kids, G, s0⟩ := ⟨_, rfl⟩
    have hGW : W.heap.size ≤ G := by omega
    have hlG3 : Lies W3 G 28 cur := (hoth G (by have := hGlt k0 hk0m; omega)).trans hlG
    have hxs : ∀ b, b < W.heap.size → ¬ Xs B td (k0 :: ks) b → ¬ Xs B td' (k0 :: (ks ++ [nk])) b := fun b hb' hn hx => by
      rcases hx with hx | hx | ⟨k', hm, hx⟩
      · exact hn (.inl hx)
      · rcases htd2 b hx with h1 | h1
        · exact hn (.inr (.inl h1))
        · omega
      · rcases List.mem_cons.1 hm with h1 | h1
        · exact hn (.inr (.inr ⟨k', by rw [h1]; exact hk0m, hx⟩))
        · rcases List.mem_append.1 h1 with h1 | h1
          · exact hn (.inr (.inr ⟨k', List.mem_cons_of_mem _ h1, hx⟩))
          · rw [List.mem_singleton.1 h1, hnk] at hx; have hx : G = b := hx; omega
    have hsub : ∀ k' ∈ k0 :: ks, k' ∈ k0 :: (ks ++ [nk]) := fun k' hm => by
      rcases List.mem_cons.1 hm with h1 | h1
      · rw [h1]; exact List.mem_cons_self ..
      · exact List.mem_cons_of_mem _ (List.mem_append_left _ h1)
    have hmem : ∀ k' ∈ k0 :: (ks ++ [nk]), k' ∈ k0 :: ks ∨ k' = nk := fun k' hm => by
      rcases List.mem_cons.1 hm with h1 | h1
      · exact .inl (by rw [h1]; exact hk0m)
      · rcases List.mem_append.1 h1 with h1 | h1
        · exact .inl (List.mem_cons_of_mem _ h1)
        · exact .inr (List.mem_singleton.1 h1)
    refine ⟨td', ks ++ [nk], ⟨⟨(hoth p (by have := hGB k0 hk0m; omega)).trans haps.at_, ?_⟩, fun k' hk' => ?_, ?_, h.prom.keep hk3 hxs hsub, ?_, hchg3, fun b hF => ?_, fun k' hk' e => ?_, ?_, ?_⟩, hk3⟩
    · have hr := own_sameB (w' := W3) haps.row fun b hb' => hoth b (fun e => by
        rcases htd2 b hb' with h1 | h1
        · exact h.tdG k0 hk0m (e ▸ h1)
        · have := hGlt k0 hk0m; omega)
      have e1 : (ks ++ [nk]).flatMap tkC = ks.flatMap tkC ++ [kv0, .slice (some ⟨G, 0, none⟩) kids.length kids.length, .bool s0] := by rw [List.flatMap_append, hnk]; simp [tkC]
      rw [e1, List.length_append]
      exact hr
    · rcases hmem k' hk' with h1 | h1
      · exact hok3 k' h1
      · rw [h1, hnk]
        exact ⟨h0, hkl, hsl, hkk, ⟨cur, hlG3, hcurs⟩, by show B ≤ G; omega, hrows⟩
    · have hnd := h.nd
      rw [show k0 :: (ks ++ [nk]) = (k0 :: ks) ++ [nk] from rfl, List.map_append, List.nodup_append]
      refine ⟨hnd, by simp, fun a ha b hb' => ?_⟩
      obtain ⟨k', hk', rfl⟩ := List.mem_map.1 ha
      simp only [List.map_cons, List.map_nil, List.mem_singleton] at hb'
      have := hGlt k' hk'
      rw [hb', hnk]
      show k'.G ≠ G
      omega
    · refine h.promL.step hk3 hxs (fun k' hk' => List.mem_append_left _ hk') (fun j hj => (hlow j hj).trans (hc02 j)) fun w' hk' hc' hat hd' t' ht' => ?_
      rw [hu] at ht'
      injection ht' with ht'
      subst ht'
      rw [hsz]
      have hlw : StrR w' lv' ls := hlv3.kept hk' fun b hb' => ⟨(hlblt b hb').2, fun hx => by
        have h1 := hlblt b hb'
        rcases hx with hx | hx | ⟨k', hm, hx⟩
        · omega
        · exact (hlb b hb').2.2 hx
        · rcases hmem k' hm with h2 | h2
          · have := hGlt k' h2; omega
          · rw [h2, hnk] at hx
            exact hlG2 b hb' hx.symm⟩
      have hdn := hd' nk (List.mem_append_right _ (List.mem_singleton.2 rfl))
      rw [hnk] at hdn
      have hnew' := tfv_new T (w := w') (kv := .slice (some ⟨G, 0, none⟩) kids.length kids.length) (nm := nm) hoks hlw (.inr ⟨h0, G, rfl, hdn⟩)
      obtain ⟨kv2, lv2, hl2, hs2, hst2, ho2, hk2⟩ := hnew'
      have hr : ReadsAt w' ⟨k0.G, i * 6, none⟩ (tyC k nm v (.slice (some ⟨G, 0, none⟩) kids.length kids.length) lv' rv) := fun j q hq => (hc' (i * 6 + j) (by have := (List.getElem?_eq_some_iff.1 hq).1; simp only [tyC, List.length_cons, List.length_nil] at this; omega)).trans (hnew j q hq)
      rw [hl2] at hr
      obtain ⟨cw, tw, hw⟩ := hat
      exact .mk _ k nm v _ ls rv kv2 lv2 rfl ⟨cw, tw, hw⟩ hr hs2 hst2 ho2 hk2
    · obtain ⟨h1, h2⟩ := h.fx b hF
      exact ⟨Nat.lt_of_lt_of_le h1 hk3.1, hxs b h1 h2⟩
    · rcases hmem k' hk' with h2 | h2
      · rcases htd2 _ e with h1 | h1
        · exact h.tdG k' h2 h1
        · have := hGlt k' h2; omega
      · rw [h2, hnk] at e
        exact htG e
    · have := h.work
      rw [htake, wks_app]
      have e2 : wks T [nk] = wkL T s0 kids := by rw [hnk]; simp [wks, wk]
      omega
    · have ht := h.tree.stepG (G := G) (m := kids.length) (d := kids.length) hPJ hk3.1 hkeepJ hlowJ htd2 hGW (hnew 3 _ rfl)
      have e2 : (k0 :: (ks ++ [nk])).map Tk.G = (k0 :: ks).map Tk.G ++ [G] := by rw [hnk]; simp
      rw [e2]
      exact ht
structure WI (T : TT) (w0 w : World) (p B : Nat) (vt vr : Value) (t : Ty) (l : List Value) (F : Nat → Prop) (g : Nat) (W : World) (td : Value) (ks : List Tk) : Prop where
  aps : ApS W p B vt vr td ks.length (ks.flatMap tkC)
  ok : ∀ k ∈ ks, TkOK T w0 B W k
  nd : (ks.map Tk.G).Nodup
  prom : Prom T B td ks W t l
  chg : Chg p (.slice none 0 0) w W
  fx : ∀ b, F b → b < W.heap.size ∧ ¬ Xs B td ks b
  tdG : ∀ k ∈ ks, td.ownBlock ≠ some k.G
  work : wks T ks ≤ g
  tree : JI l B W td (ks.map Tk.G) 0 0
/-- The row of what is to do, if something is. -/
theorem WI.form {T : TT} {w0 w : World} {p B : Nat} {vt vr : Value} {t : Ty} {l : List Value} {F : Nat → Prop} {g : Nat} {W : World} {td : Value} {ks : List Tk} {k0 : Tk} (h : WI T w0 w p B vt vr t l F g W td (ks ++ [k0])) :
    ∃ b cap, td = .slice (some ⟨b, 0, none⟩) (ks.length + 1) cap ∧ ks.length + 1 ≤ cap ∧ B ≤ b ∧ b < W.heap.size ∧ W.cell? ⟨b, ks.length * 3, none⟩ = some k0.src ∧ W.cell? ⟨b, ks.length * 3 + 1, none⟩ = some (.slice (some ⟨k0.G, 0, none⟩) k0.ts.length k0.ts.length) ∧ W.cell? ⟨b, ks.length * 3 + 2, none⟩ = some (.bool k0.said) ∧
      W.ownsRow B 116 3 (.slice (some ⟨b, 0, none⟩) ks.length cap) ks.length (ks.flatMap tkC) := by
  have hr := h.aps.row
  have hl : (ks ++ [k0]).length = ks.length + 1 := by simp
  have hf : (ks ++ [k0]).flatMap tkC = ks.flatMap tkC ++ tkC k0 := by rw [List.flatMap_append]; simp
  rw [hl, hf] at hr
  rcases hr.2 with ⟨_, h0⟩ | ⟨b, cap, cur, rfl, hb, hh, hc, hm, hs, htk⟩
  · omega
  · have hcell : ∀ j q, (ks.flatMap tkC ++ tkC k0)[j]? = some q → W.cell? ⟨b, j, none⟩ = some q := fun j q hq => by
      have := hr.cells (g := b) rfl j q hq
      rwa [show (⟨b, 0, none⟩ : Addr).add j = ⟨b, j, none⟩ by unfold Addr.add; split <;> simp_all] at this
    have hat : ∀ j q, (tkC k0)[j]? = some q → W.cell? ⟨b, ks.length * 3 + j, none⟩ = some q := fun j q hq => hcell _ q (by rw [← tkC_len ks, List.getElem?_append_right (by omega), Nat.add_sub_cancel_left]; exact hq)
    refine ⟨b, cap, rfl, hc, hb, lt_of_block hh, hat 0 _ rfl, hat 1 _ rfl, hat 2 _ rfl, tkC_len ks, .inr ⟨b, cap, cur, rfl, hb, hh, by omega, hm, hs, ?_⟩⟩
    have h1 : cur.toList.take (ks.length * 3) = (cur.toList.take ((ks.length + 1) * 3)).take (ks.length * 3) := by rw [List.take_take]; congr 1; omega
    rw [h1, htk, ← tkC_len ks]
    exact List.take_left
theorem WI.pop {T : TT} {w0 w : World} {p B : Nat} {vt vr : Value} {t : Ty} {l : List Value} {F : Nat → Prop} {g : Nat} {W : World} {ks : List Tk} {k0 : Tk} {b cap : Nat} (h : WI T w0 w p B vt vr t l F g W (.slice (some ⟨b, 0, none⟩) (ks.length + 1) cap) (ks ++ [k0]))
    (hpB : p < B) (_hwB : w.heap.size ≤ B) (hr : W.ownsRow B 116 3 (.slice (some ⟨b, 0, none⟩) ks.length cap) ks.length (ks.flatMap tkC)) {W' : World} (hp : Lies W' p 85 #[vt, vr, .map none, .slice (some ⟨b, 0, none⟩) ks.length cap])
    (hos : W'.os = W.os) (htp : W'.tape = W.tape) (hou : W'.output = W.output) (hsz : W.heap.size ≤ W'.heap.size) (hbl : ∀ i, i < W.heap.size → i ≠ p → W'.heap[i]? = W.heap[i]?) (F' : Nat → Prop) (hF : ∀ i, F' i → F i ∨ (W.heap.size ≤ i ∧ i < W'.heap.size)) :
    IS T w0 w p B vt vr t l F' k0 (wks T ks) W' (.slice (some ⟨b, 0, none⟩) ks.length cap) ks 0 := by
  have hmem : ∀ k, k ∈ k0 :: ks ↔ k ∈ ks ++ [k0] := fun k => by simp [or_comm]
  have hX : ∀ i, Xs B (.slice (some ⟨b, 0, none⟩) ks.length cap) (k0 :: ks) i ↔ Xs B (.slice (some ⟨b, 0, none⟩) (ks.length + 1) cap) (ks ++ [k0]) i := fun i => by
    unfold Xs
    simp only [Value.ownBlock, hmem]
  have hGB : ∀ k ∈ k0 :: ks, B ≤ k.G ∧ k.G < W.heap.size := fun k hk => by
    have ho := h.ok k ((hmem k).1 hk)
    obtain ⟨cur, h1, _⟩ := ho.lies
    exact ⟨ho.old, h1.lt⟩
  have hpw : p < W.heap.size := h.aps.at_.lt
  have hkept : Kept (Xs B (.slice (some ⟨b, 0, none⟩) (ks.length + 1) cap) (ks ++ [k0])) W W' := ⟨hsz, fun i hi hn => hbl i hi (fun e => hn (.inl (by omega)))⟩
  refine ⟨⟨hp, own_sameB hr fun i hi => ?_⟩, fun k hk => ?_, ?_, h.prom.keep hkept (fun i _ hn hx => hn ((hX i).1 hx)) (fun k hk => (hmem k).2 hk), PromL.zero _ _ _ _ _ _, ?_, fun i hi => ?_, fun k hk => h.tdG k ((hmem k).1 hk), by simp [wkL], h.tree.perm rfl hsz (fun g => ?_) (fun g h1 h2 _ _ => hbl g h2 (by omega)) (fun i hi => .inl hi)⟩
  · obtain ⟨h1, h2⟩ := own_block hr i hi
    exact hbl i h2 (by omega)
  · have ho := h.ok k ((hmem k).1 hk)
    obtain ⟨cur, h1, h2⟩ := ho.lies
    exact ⟨ho.pos, ho.few, ho.src, ho.kids, ⟨cur, (hbl _ h1.lt (by have := ho.old; omega)).trans h1, h2⟩, ho.old, ho.rows⟩
  · have hnd := h.nd
    rw [List.map_append, List.nodup_append] at hnd
    rw [List.map_cons, List.nodup_cons]
    refine ⟨fun hm => ?_, hnd.1⟩
    exact hnd.2.2 _ hm k0.G (by simp) rfl
  · have hw := h.chg.size
    refine ⟨hos.trans h.chg.os, htp.trans h.chg.tape, hou.trans h.chg.output, by omega, fun i h1 h2 h3 => (hbl i (by omega) h2).trans (h.chg.block i h1 h2 h3)⟩
  · rcases hF i hi with h1 | h1
    · obtain ⟨h2, h3⟩ := h.fx i h1
      exact ⟨by omega, fun hx => h3 ((hX i).1 hx)⟩
    · refine ⟨h1.2, fun hx => ?_⟩
      rcases hx with hx | hx | ⟨k, hk, hx⟩
      · have := hGB k0 (List.mem_cons_self ..); omega
      · have := (own_block hr i hx).2; omega
      · have := hGB k hk; omega
  · simp only [List.map_append, List.map_cons, List.map_nil, List.mem_append, List.mem_cons, List.not_mem_nil, or_false]
    exact or_comm
theorem IS.done {T : TT} {w0 w : World} {p B : Nat} {vt vr : Value} {t : Ty} {l : List Value} {F F' : Nat → Prop} {k0 : Tk} {N : Nat} {W : World} {td : Value} {ks : List Tk} (h : IS T w0 w p B vt vr t l F' k0 N W td ks k0.ts.length) (_hpB : p < B) (hF : ∀ b, F b → F' b) :
    WI T w0 w p B vt vr t l F (wks T ks) W td ks ∧ wks T ks < N + wk T k0 := by
  have hk0 := h.ok k0 (List.mem_cons_self ..)
  have hnd := h.nd
  rw [List.map_cons, List.nodup_cons] at hnd
  have hat : AtCells W ⟨k0.G, 0, none⟩ := by obtain ⟨cur, h1, _⟩ := hk0.lies; exact ⟨cur, _, h1⟩
  refine ⟨⟨h.aps, fun k hk => h.ok k (List.mem_cons_of_mem _ hk), hnd.2, h.prom.done h.promL hat (fun hx => ?_), h.chg, fun b hb => ?_, fun k hk => h.tdG k (List.mem_cons_of_mem _ hk), Nat.le_refl _, ?_⟩, ?_⟩
  · rcases hx with hx | hx | ⟨k, hk, hx⟩
    · have := hk0.old; omega
    · exact h.tdG k0 (List.mem_cons_self ..) hx
    · exact hnd.1 (List.mem_map.2 ⟨k, hk, hx⟩)
  · obtain ⟨h1, h2⟩ := h.fx b (hF b hb)
    refine ⟨h1, fun hx => h2 ?_⟩
    rcases hx with hx | hx | ⟨k, hk, hx⟩
    · exact .inl hx
    · exact .inr (.inl hx)
    · exact .inr (.inr ⟨k, List.mem_cons_of_mem _ hk, hx⟩)
  · obtain ⟨cur, h1, h2⟩ := hk0.lies
    exact JI.close h.tree hk0.old h1.lt (h.tdG k0 (List.mem_cons_self ..)) hnd.1 fun j hj => by
      rw [h1.cell, Array.getElem?_eq_none (by omega)]
  · have hw := h.work
    rw [List.take_length] at hw
    have := hk0.pos
    unfold wk
    omega
/-- How the tasks begin. -/
theorem WI.start {T : TT} {w0 w W1 : World} {p B : Nat} {vt vr : Value} {t : Ty} (_hpB : p < B) (_hB : w.heap.size ≤ B) (hBW1 : B ≤ W1.heap.size) (_hpw : p < w.heap.size) (hb1 : Below w.heap.size w W1) {said : Bool} (hrf : said = true ∨ rowsFree T t)
    {k : Int} {nm : Str} {v : Int} {kids : List Ty} {ls : List Str} {rv : Int} {s0 : Bool} (hd : hdT T said t = (.mk k nm v kids ls rv, s0)) (hkl : kids.length ≤ 1000000) (hoks : oks k v rv) {e : Ending} {W2 : World}
    (hbe : BecEnd w0 W1 p B vt vr (.slice none 0 0) 0 [] k nm v kids ls rv s0 e W2) :
    ∃ lc : List Value, e = .returned (.agg lc.toArray) ∧ lc.length = 6 ∧ (∀ q ∈ lc, q.oneCell' = true) ∧ W1.heap.size ≤ W2.heap.size ∧ (∀ b, b < W1.heap.size → b ≠ p → W2.heap[b]? = W1.heap[b]?) ∧
      ∀ (W3 : World) (F : Nat → Prop), Below W2.heap.size W2 W3 → (∀ b, F b → W2.heap.size ≤ b ∧ b < W3.heap.size) → ∃ td ks, WI T w0 w p B vt vr (fsT T said t) lc F (fsT T said t).size W3 td ks := by
  obtain ⟨kv', lv', td', n', tc', rfl, hlv, hlb, haps, htd, hchg, hcase⟩ := hbe
  have hW1 := hb1.size
  have hsz := fsT_hd T said t hd
  have hwsz : (fsT T said t).size = 1 + wkL T s0 kids := by rw [hsz]; simp only [Ty.size, sizeL_map]
  have hone : ∀ q ∈ tyC k nm v kv' lv' rv, q.oneCell' = true := by
    have h1 : lv'.oneCell' = true := hlv.one
    have h2 : kv'.oneCell' = true := by rcases hcase with ⟨_, rfl, _⟩ | ⟨_, _, _, _, rfl, _⟩ <;> rfl
    intro q hq
    simp only [tyC, List.mem_cons, List.not_mem_nil, or_false] at hq
    rcases hq with rfl | rfl | rfl | rfl | rfl | rfl <;> first | rfl | assumption
  have hnil : ∀ b, (Value.slice none 0 0).ownBlock ≠ some b := fun b e => by cases e
  refine ⟨tyC k nm v kv' lv' rv, rfl, rfl, hone, hchg.size, fun b h1 h2 => hchg.block b h1 h2 (hnil b), fun W3 F hb3 hF => ?_⟩
  have hs3 := hb3.size
  have hs2 := hchg.size
  have htd2 : ∀ b, td'.ownBlock = some b → W1.heap.size ≤ b ∧ b < W2.heap.size := fun b hb' => by
    refine ⟨?_, (own_block haps.row b hb').2⟩
    rcases htd with e | ⟨g, e, hg⟩
    · rw [e] at hb'; cases hb'
    · rw [e] at hb'; injection hb' with hb'; omega
  have hchg3 : Chg p (.slice none 0 0) w W3 := ⟨hb3.os.trans (hchg.os.trans hb1.os), hb3.tape.trans (hchg.tape.trans hb1.tape), hb3.output.trans (hchg.output.trans hb1.output), by omega, fun b h1 h2 _ => (hb3.block b (by omega)).trans ((hchg.block b (by omega) h2 (hnil b)).trans (hb1.block b h1))⟩
  have hrows := hdT_rows hrf hd
  have hlv3 : StrR W3 lv' ls := hlv.keep hb3.block
  rcases hcase with ⟨rfl, rfl, rfl, rfl⟩ | ⟨h0, G, cur, kv0, rfl, hG, hlG, hcurs, htG, hlG2, rfl, rfl, hsl, hkk⟩
  · refine ⟨td', [], ⟨haps.below hb3, fun k hk => (by cases hk), List.nodup_nil, fun w' hk' _ => ?_, hchg3, fun b hb => ?_, fun k hk => (by cases hk), Nat.zero_le _, ?_⟩⟩
    · rw [hsz]
      refine tfv_new T hoks (hlv3.kept hk' fun b hb' => ?_) (.inl ⟨rfl, rfl⟩)
      obtain ⟨h1, h2, h3⟩ := hlb b hb'
      refine ⟨by omega, fun hx => ?_⟩
      rcases hx with hx | hx | ⟨k, hk, _⟩
      · omega
      · exact h3 hx
      · cases hk
    · have h1 := hF b hb
      refine ⟨by omega, fun hx => ?_⟩
      rcases hx with hx | hx | ⟨k, hk, _⟩
      · omega
      · have := htd2 b hx; omega
      · cases hk
    · have hrt : ∀ g, ¬ rtOf (tyC k nm v (.slice none 0 0) lv' rv) g := fun g ⟨n, c, h⟩ => by simp [tyC] at h
      exact ⟨[], [], List.nodup_nil, fun g hg => (by cases hg), fun e he => (by cases he), fun g hg => (hrt g hg).elim, fun g j q n c hg => by rcases hg with hg | ⟨_, hj⟩; exact (by cases hg); omega⟩
  · obtain ⟨nk, hnk⟩ : ∃ nk : Tk, nk = ⟨kv0, kids, G, s0⟩ := ⟨_, rfl⟩
    have hGlt := hlG.lt
    refine ⟨td', [nk], ⟨?_, fun k' hk' => ?_, by simp, fun w' hk' hd' => ?_, hchg3, fun b hb => ?_, fun k' hk' => ?_, ?_, ?_⟩⟩
    · have h := haps.below hb3
      have e1 : [nk].flatMap tkC = [] ++ [kv0, .slice (some ⟨G, 0, none⟩) kids.length kids.length, .bool s0] := by rw [hnk]; simp [tkC]
      rw [e1]
      exact h
    · rw [List.mem_singleton.1 hk', hnk]
      exact ⟨h0, hkl, hsl, hkk, ⟨cur, hlG.later hb3, hcurs⟩, by show B ≤ G; omega, hrows⟩
    · rw [hsz]
      have hdn := hd' nk (List.mem_singleton.2 rfl)
      rw [hnk] at hdn
      refine tfv_new T hoks (hlv3.kept hk' fun b hb' => ?_) (.inr ⟨h0, G, rfl, hdn⟩)
      obtain ⟨h1, h2, h3⟩ := hlb b hb'
      refine ⟨by omega, fun hx => ?_⟩
      rcases hx with hx | hx | ⟨k', hk', hx⟩
      · omega
      · exact h3 hx
      · rw [List.mem_singleton.1 hk', hnk] at hx
        exact hlG2 b hb' hx.symm
    · have h1 := hF b hb
      refine ⟨by omega, fun hx => ?_⟩
      rcases hx with hx | hx | ⟨k', hk', hx⟩
      · omega
      · have := htd2 b hx; omega
      · rw [List.mem_singleton.1 hk', hnk] at hx
        have hx : G = b := hx
        omega
    · rw [List.mem_singleton.1 hk', hnk]
      exact htG
    · have e2 : wks T [nk] = wkL T s0 kids := by rw [hnk]; simp [wks, wk]
      omega
    · refine ⟨[], [], List.nodup_nil, fun g hg => (by cases hg), fun e he => (by cases he), fun g hg => ?_, fun g j q n c hg => by rcases hg with hg | ⟨_, hj⟩; exact (by cases hg); omega⟩
      obtain ⟨n, c, hg⟩ := hg
      simp only [tyC, List.getElem?_cons_succ, List.getElem?_cons_zero, Option.some.injEq, Value.slice.injEq, Addr.mk.injEq] at hg
      rw [hnk]
      exact .inr (by simp [hg.1.1])
end Go.Proofs.Ythdfomcpoofkaaa.Ri
