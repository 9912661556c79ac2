/- Terms in memory. -/
import Derived.Test.YtnkfkaahjplnmaaGreatDoorGeRow
import Derived.Laws.Rows
import Derived.Laws.Tables
import Derived.Deep.WholeRow
import Derived.Great.BuildSlice
import Derived.Deep.RegionWith
import Derived.Deep.RegionHeld3
import Derived.Outline
import Derived.Deep.LoopGhost
namespace Go.Proofs.YtnkfkaahjplnmaaGreatDoor
open Go.RowKit Pz

def zC : Array Value := #[.int .i64 0, .int .i64 0, .string ⟨#[]⟩, .string ⟨#[]⟩, .int .i64 0, .slice none 0 0, .slice none 0 0, .int .i64 0, .string ⟨#[]⟩, .int .i64 0, .slice none 0 0, .slice none 0 0, .int .i64 0, .slice none 0 0, .int .i64 0, .int .i64 0, .string ⟨#[]⟩, .int .i64 0, .slice none 0 0, .slice none 0 0, .int .i64 0]
/-- The cells of a term, its two lists as they lie. -/
def tmC (k pos : Nat) (nm pm : Str) (n : Nat) (kv av : Value) : List Value :=
  [.int .i64 (k : Int), .int .i64 (pos : Int), .string (ba nm), .string (ba pm), .int .i64 (n : Int), kv, av, .int .i64 0, .string ⟨#[]⟩, .int .i64 0, .slice none 0 0, .slice none 0 0, .int .i64 0, .slice none 0 0, .int .i64 0, .int .i64 0, .string ⟨#[]⟩, .int .i64 0, .slice none 0 0, .slice none 0 0, .int .i64 0]
def tmV (k pos : Nat) (nm pm : Str) (n : Nat) (kv av : Value) : Value :=
  .agg #[.int .i64 (k : Int), .int .i64 (pos : Int), .string (ba nm), .string (ba pm), .int .i64 (n : Int), kv, av, .int .i64 0, .string ⟨#[]⟩, .int .i64 0, .slice none 0 0, .slice none 0 0, .int .i64 0, .slice none 0 0, .int .i64 0, .int .i64 0, .string ⟨#[]⟩, .int .i64 0, .slice none 0 0, .slice none 0 0, .int .i64 0]

/-- The call's own row (World.ownsRow), in a block of which P holds. -/
def OwnP (w : World) (P : Nat → Prop) (e : TypeId) (size : Nat) (v : Value) (n : Nat) (xs : List Value) : Prop :=
  xs.length = n * size ∧ ((v = .slice none 0 0 ∧ n = 0) ∨
    ∃ g cap cur, v = .slice (some ⟨g, 0, none⟩) n cap ∧ P g ∧ w.heap[g]? = some (.cells cur e (0, 0)) ∧ n ≤ cap ∧ cap ≤ maxLen ∧ cur.size = cap * size ∧ cur.toList.take (n * size) = xs)
theorem OwnP.of {w : World} {B : Nat} {e : TypeId} {size n : Nat} {v : Value} {xs : List Value} (h : w.ownsRow B e size v n xs) : OwnP w (fun g => B ≤ g) e size v n xs := h
theorem OwnP.same {w w' : World} {P : Nat → Prop} {e : TypeId} {size n : Nat} {v : Value} {xs : List Value} (h : OwnP w P e size v n xs) (hs : ∀ g, P g → g < w.heap.size → w'.heap[g]? = w.heap[g]?) : OwnP w' P e size v n xs := by
  refine ⟨h.1, ?_⟩
  rcases h.2 with h0 | ⟨g, cap, cur, h1, h2, h3, h4⟩
  · exact .inl h0
  · exact .inr ⟨g, cap, cur, h1, h2, (hs g h2 (lt_of_block h3)).trans h3, h4⟩
theorem OwnP.mono {w : World} {P Q : Nat → Prop} {e : TypeId} {size n : Nat} {v : Value} {xs : List Value} (h : OwnP w P e size v n xs) (hs : ∀ g, P g → g < w.heap.size → Q g) : OwnP w Q e size v n xs := by
  refine ⟨h.1, ?_⟩
  rcases h.2 with h0 | ⟨g, cap, cur, h1, h2, h3, h4⟩
  · exact .inl h0
  · exact .inr ⟨g, cap, cur, h1, hs g h2 (lt_of_block h3), h3, h4⟩
theorem OwnP.one {w : World} {P : Nat → Prop} {e : TypeId} {size n : Nat} {v : Value} {xs : List Value} (h : OwnP w P e size v n xs) : v.oneCell' = true := by
  rcases h.2 with ⟨h1, _⟩ | ⟨g, cap, cur, h1, _⟩ <;> (rw [h1]; rfl)
theorem OwnP.nil (w : World) (P : Nat → Prop) (e : TypeId) (size : Nat) : OwnP w P e size (.slice none 0 0) 0 [] := ⟨by simp, .inl ⟨rfl, rfl⟩⟩
/-- A list of rows of so many cells. -/
def Rw (w : World) (P : Nat → Prop) (e : TypeId) (sz : Nat) (v : Value) (xs : List (List Value)) : Prop :=
  (∀ x ∈ xs, x.length = sz) ∧ OwnP w P e sz v xs.length xs.flatten
theorem Rw.nil (w : World) (P : Nat → Prop) (e : TypeId) (sz : Nat) : Rw w P e sz (.slice none 0 0) [] := ⟨by simp, OwnP.nil _ _ _ _⟩

/-- A term lies in memory, in blocks of which P holds. -/
inductive HT (w : World) (P : Nat → Prop) : Tm → List Value → Prop
  | mk (k pos : Nat) (nm pm : Str) (n : Nat) (kids : List Tm) (arms : List Arm) (kv av : Value) (kc : List (List Value)) (vv : List Value) (bc : List (List Value))
      (hk : Rw w P 39 21 kv kc) (hkl : kc.length = kids.length) (hks : ∀ (i : Nat) t c, kids[i]? = some t → kc[i]? = some c → HT w P t c)
      (hvl : vv.length = arms.length) (hbl : bc.length = arms.length)
      (ha : Rw w P 83 23 av (List.zipWith (fun (a : Arm) (x : Value × List Value) => .string (ba a.1) :: x.1 :: x.2) arms (vv.zip bc)))
      (hav : ∀ (i : Nat) a v, arms[i]? = some a → vv[i]? = some v → OwnP w P 9 1 v a.2.1.length (a.2.1.map fun t => .string (ba t)))
      (has : ∀ (i : Nat) a c, arms[i]? = some a → bc[i]? = some c → HT w P a.2.2 c) :
      HT w P (.mk k pos nm pm n kids arms) (tmC k pos nm pm n kv av)

theorem HT.same {w w' : World} {P : Nat → Prop} {t : Tm} {cs : List Value} (h : HT w P t cs) (hs : ∀ g, P g → g < w.heap.size → w'.heap[g]? = w.heap[g]?) : HT w' P t cs := by
  induction h with
  | mk k pos nm pm n kids arms kv av kc vv bc hk hkl _ hvl hbl ha hav _ ih1 ih2 =>
    exact .mk k pos nm pm n kids arms kv av kc vv bc ⟨hk.1, hk.2.same hs⟩ hkl ih1 hvl hbl ⟨ha.1, ha.2.same hs⟩ (fun i a v h1 h2 => (hav i a v h1 h2).same hs) ih2
theorem HT.mono {w : World} {P Q : Nat → Prop} {t : Tm} {cs : List Value} (h : HT w P t cs) (hs : ∀ g, P g → g < w.heap.size → Q g) : HT w Q t cs := by
  induction h with
  | mk k pos nm pm n kids arms kv av kc vv bc hk hkl _ hvl hbl ha hav _ ih1 ih2 =>
    exact .mk k pos nm pm n kids arms kv av kc vv bc ⟨hk.1, hk.2.mono hs⟩ hkl ih1 hvl hbl ⟨ha.1, ha.2.mono hs⟩ (fun i a v h1 h2 => (hav i a v h1 h2).mono hs) ih2
/-- All its blocks are there. -/
theorem HT.lt {w : World} {P : Nat → Prop} {t : Tm} {cs : List Value} (h : HT w P t cs) : HT w (fun g => P g ∧ g < w.heap.size) t cs := h.mono fun _ h1 h2 => ⟨h1, h2⟩
theorem HT.later {w w' : World} {P : Nat → Prop} {t : Tm} {cs : List Value} (h : HT w P t cs) (hb : Below w.heap.size w w') : HT w' P t cs := h.same fun g _ hg => hb.block g hg
theorem HT.kp {w w' : World} {P : Nat → Prop} {t : Tm} {cs : List Value} (h : HT w P t cs) {pb : Nat} (hk : Kp pb w w') (hP : ∀ g, P g → g ≠ pb) : HT w' P t cs := h.same fun g h1 hg => hk.block g hg (fun e => hP g h1 (by injection e))

theorem HT.len {w : World} {P : Nat → Prop} {t : Tm} {l : List Value} (h : HT w P t l) : l.length = 21 := by
  cases h; rfl
theorem HT.one {w : World} {P : Nat → Prop} {t : Tm} {l : List Value} (h : HT w P t l) : l.toArray.all (·.oneCell') = true := by
  cases h with
  | mk k pos nm pm n kids arms kv av kc vv bc hk _ _ _ _ ha _ _ =>
    have h1 := hk.2.one
    have h2 := ha.2.one
    simp [tmC, Value.oneCell'] at h1 h2 ⊢
    exact ⟨h1, h2⟩
theorem HT.at_ {w : World} {P : Nat → Prop} {t : Tm} {l : List Value} (h : HT w P t l) : l[1]? = some (.int .i64 (t.pos : Int)) := by
  cases h; rfl
/-- What a function that reads a term answers: it lies in blocks of which P holds. -/
def TermEnd (pb sz : Nat) (P : Nat → Prop) (w : World) (r : Tm × St) (e : Ending) (w' : World) : Prop :=
  ∃ l : List Value, e = .returned (.agg l.toArray) ∧ HT w' P r.1 l ∧ Goes pb sz w r.2 w'

/-- A term without kids and arms. -/
theorem HT.leaf (w : World) (P : Nat → Prop) (k pos : Nat) (nm pm : Str) (n : Nat) : HT w P (.mk k pos nm pm n [] []) (tmC k pos nm pm n (.slice none 0 0) (.slice none 0 0)) :=
  .mk k pos nm pm n [] [] _ _ [] [] [] (Rw.nil _ _ _ _) rfl (by simp) rfl rfl (Rw.nil _ _ _ _) (by simp) (by simp)
/-- A term with kids, without arms. -/
theorem HT.kids {w : World} {P : Nat → Prop} (k pos : Nat) (nm pm : Str) (n : Nat) {kids : List Tm} {kv : Value} {kc : List (List Value)} (hk : Rw w P 39 21 kv kc) (hkl : kc.length = kids.length)
    (hks : ∀ (i : Nat) t c, kids[i]? = some t → kc[i]? = some c → HT w P t c) : HT w P (.mk k pos nm pm n kids []) (tmC k pos nm pm n kv (.slice none 0 0)) :=
  .mk k pos nm pm n kids [] _ _ kc [] [] hk hkl hks rfl rfl (Rw.nil _ _ _ _) (by simp) (by simp)
/-- A literal of rows. -/
theorem Rw.lit (w : World) (P : Nat → Prop) (e : TypeId) (sz : Nat) (ls : List (List Value)) (hl : ∀ l ∈ ls, l.length = sz) {N n : Nat} (hN : w.heap.size = N) (hP : P N) (hn : n = ls.length) (hm : n ≤ maxLen) :
    Rw (w.alloc (.cells ls.flatten.toArray e)) P e sz (.slice (some ⟨N, 0, none⟩) n n) ls := by
  subst hN hn
  have hlen : ls.flatten.length = ls.length * sz := by
    clear hm hP
    induction ls with
    | nil => simp
    | cons l r ih => rw [List.flatten_cons, List.length_append, ih (fun x hx => hl x (by simp [hx])), hl l (by simp), List.length_cons, Nat.succ_mul]; omega
  refine ⟨hl, hlen, .inr ⟨_, _, _, rfl, hP, heap_alloc_new w _, Nat.le_refl _, hm, by simpa using hlen, ?_⟩⟩
  rw [← hlen]
  exact List.take_of_length_le (Nat.le_refl _)

theorem sz39 : (Tryz.prog.info? 39).map (·.size) = some 21 := by kernel_rfl
theorem set_new {w : World} {c c' : Array Value} {t : TypeId} {N : Nat} (hN : w.heap.size = N) : (w.alloc (.cells c t)).setRow N c' = w.alloc (.cells c' t) := by
  subst hN; exact World.setRow_alloc_new w c c' t
theorem Lies.setRow {w : World} {g : Nat} {t : TypeId} {cs : Array Value} (h : Lies w g t cs) (cs' : Array Value) : Lies (w.setRow g cs') g t cs' := by
  unfold Lies at h ⊢
  simp only [World.setRow, Array.getElem?_modify, if_true, h]
  rfl
theorem heap_setRow (w : World) (g : Nat) (cs : Array Value) (k : Nat) (h : k ≠ g) : (w.setRow g cs).heap[k]? = w.heap[k]? := by
  simp only [World.setRow, Array.getElem?_modify]
  rw [if_neg (by omega)]
theorem size_setRow (w : World) (g : Nat) (cs : Array Value) : (w.setRow g cs).heap.size = w.heap.size := by simp [World.setRow]
theorem Lies.farRow {w : World} {g g' : Nat} {t : TypeId} {cs : Array Value} (h : Lies w g t cs) (cs' : Array Value) (hne : g ≠ g') : Lies (w.setRow g' cs') g t cs := (heap_setRow w g' cs' g hne).trans h
/-- A whole row written into a block of the call's own. -/
theorem below_setRow {B : Nat} {a w : World} (h : Below B a w) {g : Nat} (hg : B ≤ g) (cs : Array Value) : Below B a (w.setRow g cs) :=
  h.trans ⟨rfl, rfl, rfl, by rw [size_setRow]; exact Nat.le_refl _, fun k hk => heap_setRow _ _ _ _ (by omega)⟩
theorem Kp.setRow {pb : Nat} {a w : World} (h : Kp pb a w) {g : Nat} (hg : a.heap.size ≤ g) (cs : Array Value) : Kp pb a (w.setRow g cs) :=
  ⟨h.os, h.tape, h.output, by rw [size_setRow]; exact h.size, fun i hi hne => (heap_setRow _ _ _ _ (by omega)).trans (h.block i hi hne)⟩
theorem PA.setRow {w : World} {pb sz : Nat} {s : St} (h : PA w pb sz s) {g : Nat} (hg : pb < g) (cs : Array Value) : PA (w.setRow g cs) pb sz s := by
  obtain ⟨v, hl, ht⟩ := h
  exact ⟨v, hl.farRow cs (by omega), ht.keep fun k hk => heap_setRow _ _ _ _ (by omega)⟩
theorem HT.setRow {w : World} {P : Nat → Prop} {t : Tm} {l : List Value} (h : HT w P t l) {g : Nat} (hP : ∀ k, P k → k ≠ g) (cs : Array Value) : HT (w.setRow g cs) P t l := h.same fun k h1 _ => heap_setRow _ _ _ _ (hP k h1)
theorem info39 : ∃ ie, Tryz.prog.info? 39 = some ie ∧ ie.zero = some (.agg zC) ∧ ie.size = 21 := by
  have h : (Tryz.prog.info? 39).map (fun i => (i.zero, i.size)) = some (some (.agg zC), 21) := by kernel_rfl
  cases hq : Tryz.prog.info? 39 with
  | none => rw [hq] at h; cases h
  | some ie =>
    rw [hq] at h
    simp only [Option.map_some, Option.some.injEq, Prod.mk.injEq] at h
    exact ⟨ie, rfl, h.1, h.2⟩

/-- A slice literal of terms. -/
theorem fill_terms (ls : List (List Value)) (hl : ∀ l ∈ ls, l.length = 21) (cells : Array Value) (hc : cells.size = ls.length * 21) :
    Instr.fill (fun i => some (i * 21, 21)) cells (((ls.map fun l => Value.agg l.toArray).zipIdx 0).map fun x => (x.2, x.1)) = some ls.flatten.toArray := by
  obtain ⟨r, hr, hsz, hk⟩ := Great.fill_dense (s := 21) (by omega) (ls.map fun l => Value.agg l.toArray) 0 cells (by
    intro v hv
    simp only [List.mem_map] at hv
    obtain ⟨l, hl', rfl⟩ := hv
    show l.toArray.size = 21
    simp [hl l hl']) (by simp [hc])
  rw [hr]
  congr 1
  apply Array.ext_getElem?
  intro i
  rw [hk i]
  have hflat : ∀ (ls : List (List Value)), (∀ l ∈ ls, l.length = 21) → ∀ i, ls.flatten[i]? = (ls[i / 21]?).bind fun l => l[i % 21]? := by
    intro ls
    induction ls with
    | nil => intro _ i; simp
    | cons l r ih =>
      intro hl i
      have h1 : l.length = 21 := hl l (by simp)
      rw [List.flatten_cons, List.getElem?_append]
      by_cases hi : i < 21
      · rw [if_pos (by omega), show i / 21 = 0 by omega, show i % 21 = i by omega]; rfl
      · rw [if_neg (by omega), ih (fun x hx => hl x (by simp [hx])), h1, show i / 21 = (i - 21) / 21 + 1 by omega, show (i - 21) % 21 = i % 21 by omega]; rfl
  simp only [List.getElem?_toArray, hflat ls hl i]
  by_cases hi : i < ls.length * 21
  · rw [if_pos (by simp; omega)]
    rw [show i / 21 - 0 = i / 21 by omega, List.getElem?_map]
    cases ls[i / 21]? with
    | none => rfl
    | some l => show l.toArray[i % 21]? = l[i % 21]?; simp
  · rw [if_neg (by simp; omega)]
    rw [List.getElem?_eq_none (show ls.length ≤ i / 21 by omega)]
    simp [hc]; omega
end Go.Proofs.YtnkfkaahjplnmaaGreatDoor

/- Contracts of what reads sides with signs between them. -/
namespace Go.Proofs.YtnkfkaahjplnmaaGreatDoor
open Go.RowKit Pz

/-- What a function without arguments that reads a term does. -/
def SideOK (F : Nat) (f : St → Tm × St) (pb sz n : Nat) : Prop :=
  (∀ (args : Array Value) (w : World), (callFunc F args).run Tryz.prog w = .ok (.enter F args) w) ∧ ∀ (w : World) (s : St), PA w pb sz s → s.ws.length ≤ n → Calls Tryz.prog F #[.pointer (some ⟨pb, 0, none⟩)] w (TermEnd pb sz (fun g => w.heap.size ≤ g) w (f s))
def sideV (F pb : Nat) : Value := .func (.func F) #[.pointer (some ⟨pb, 0, none⟩)] #[]
theorem Lies.range {w : World} {g : Nat} {t : TypeId} {l : List Value} (h : Lies w g t l.toArray) : w.rangeAt g 0 l := by
  intro j v hv
  rw [h.cell]
  simpa using hv

set_option maxRecDepth 100000 in
set_option maxHeartbeats 4000000 in
theorem both_any (F : Nat) (f : St → Tm × St) (pb sz n : Nat) (hs : SideOK F f pb sz n) (w : World) (s : St) (hp : PA w pb sz s) (x : Lx.Tk) (r : List Lx.Tk) (hw : s.ws = x :: r) (hn : r.length ≤ n)
    (PL : Nat → Prop) (hPL : ∀ g, PL g → g ≠ pb) (t : Tm) (l : List Value) (ht : HT w PL t l) :
    Calls Tryz.prog 95 #[.pointer (some ⟨pb, 0, none⟩), .agg l.toArray, sideV F pb] w (TermEnd pb sz (fun g => PL g ∨ w.heap.size ≤ g) w (both f t s)) := by
  have hfld := tok_field1
  have hplt := hp.lt
  have l1 := (Lies.new w 39 l.toArray).alloc (.cells zC 39)
  have l2 := Lies.new' (w.alloc (.cells l.toArray 39)) 39 zC (N := w.heap.size + 1) (by simp)
  have hp2 := (hp.alloc (.cells l.toArray 39)).alloc (.cells zC 39)
  unfold sideV
  unfold zC at l1 l2 hp2
  go_enter Tryz.func95, Tryz.ntmps95
  go_wp2_with fail
  refine (take_any _ pb sz s hp2 x r hw).mono ?_
  rintro e w2 ⟨rfl, hg⟩
  have l4 := hg.kp.lies l1 (by omega)
  have l5 := hg.kp.lies l2 (by omega)
  clear l1 l2
  unfold tkV
  go_wp2_with fail
  refine wp_region_held_drew (S := fun w' => Lies w' w.heap.size 39 l.toArray) (by kernel_rfl) l4 (fun hH => ?_)
  refine wpAnyH_take (i := 0) (oi := _) (v := .pointer (some ⟨w.heap.size, 1, none⟩)) rfl (by kernel_rfl) (by kernel_rfl) (by kernel_rfl) (fun _ _ _ h => h) (Or.inl ⟨by rfl, ?_⟩) hH ?_
  · intro w' hS
    go_simp
  simp only [Act.put, List.setIfInBounds_toArray]
  refine wpAnyH_take (i := 1) (oi := _) (v := .int .i64 (t.pos : Int)) rfl (by kernel_rfl) (by kernel_rfl) (by kernel_rfl) (fun _ _ _ h => h) (Or.inl ⟨by rfl, ?_⟩) hH ?_
  · intro w' hS
    have hc : w'.cell? ⟨w.heap.size, 1, none⟩ = some (.int .i64 (t.pos : Int)) := by rw [Lies.cell hS]; simpa using ht.at_
    go_simp
  simp only [Act.put]
  refine wpAnyH_take (i := 2) (oi := _) (v := .string (ba x.t)) rfl (by kernel_rfl) (by kernel_rfl) (by kernel_rfl) (fun _ _ _ h => h) (Or.inl ⟨by rfl, ?_⟩) hH ?_
  · intro w' hS
    go_simp
  simp only [Act.put]
  refine wpAnyH_take (i := 3) (oi := _) (v := .agg l.toArray) rfl (by kernel_rfl) (by kernel_rfl) (by kernel_rfl) (fun _ _ _ h => h) (yieldsIf_load_mid (by rfl) 39 (.tmp 4) rfl w.heap.size 0 rfl l _ (fun w' hS => Lies.range hS) Tryz.underlying39 rfl (by rw [sz39, ht.len])) hH ?_
  simp only [Act.put]
  refine wpAnyH_take (i := 4) (oi := _) (v := sideV F pb) rfl (by kernel_rfl) (by kernel_rfl) (by kernel_rfl) (fun _ _ _ h => h) (Or.inl ⟨by rfl, ?_⟩) hH ?_
  · intro w' hS
    unfold sideV
    go_simp
  unfold sideV
  simp only [Act.put]
  refine wpAnyH_ready (rs := [5]) (by kernel_rfl) (by simp) ?_
  refine AllReadyH.cons (o := _) rfl (fun K hK => ?_) AllReadyH.nil
  obtain ⟨hcf, hside⟩ := hs
  go_simp
  refine (hside _ (take s) ?_ ?_).mono ?_
  · exact hg.pa
  · unfold take; rw [hw]; exact hn
  rintro e w3 ⟨l3, rfl, ht3, hg3⟩
  have l6 := hg3.kp.lies l4 (by omega)
  have l7 := hg3.kp.lies l5 (by omega)
  dsimp only
  refine hK.out _ _ l6 (fun hH3 => ?_)
  clear hK K
  try simp only [Act.put, List.setIfInBounds_toArray, List.set_cons_zero, List.set_cons_succ]
  refine wpAnyH_ready (rs := [6]) (by kernel_rfl) (by simp) ?_
  refine AllReadyH.cons (o := _) rfl (fun K hK => ?_) AllReadyH.nil
  rw [if_pos (by rfl)]
  obtain ⟨ie, hie, hiz, his⟩ := info39
  have hll : ∀ z ∈ [l, l3], z.length = 21 := by
    intro z hz
    simp only [List.mem_cons, List.not_mem_nil, or_false] at hz
    rcases hz with rfl | rfl
    · exact ht.len
    · exact ht3.len
  obtain ⟨M, hM⟩ : ∃ M, M = [l, l3].flatten := ⟨_, rfl⟩
  have HM := Lib.hid hM
  clear hM
  refine wp_buildSlice 30 39 2 _ rfl M.toArray ie (.agg zC) Tryz.underlying30 hie hiz (by rw [his]; decide) (by rw [his]; decide) (by rw [his, HM.out, Array.toList_map]; exact fill_terms [l, l3] hll ((Array.range (2 * 21)).map ((Value.agg zC).cells[· % (Value.agg zC).cells.size]!)) (by simp)) ?_
  have l8 := l6.alloc (.cells M.toArray 39)
  have l9 := l7.alloc (.cells M.toArray 39)
  refine hK.out _ _ l8 (fun hH4 => ?_)
  clear hK K
  try simp only [Act.put, List.setIfInBounds_toArray]
  refine wpAnyH_ready (rs := [7]) (by kernel_rfl) (by simp) ?_
  refine AllReadyH.cons (o := _) rfl (fun K hK => ?_) AllReadyH.nil
  go_simp
  refine hK.out _ _ l8 (fun hH5 => ?_)
  clear hK K
  try simp only [Act.put, List.setIfInBounds_toArray, List.set_cons_zero, List.set_cons_succ]
  refine wpAnyH_ready (rs := [8]) (by kernel_rfl) (by simp) ?_
  refine AllReadyH.cons (o := _) rfl (fun K hK => ?_) AllReadyH.nil
  rw [if_pos (by rfl)]
  refine wp_store_row 39 _ _ rfl (w.heap.size + 1) _ rfl rfl 39 _ l9 sz39 rfl (by kernel_rfl) ?_
  refine hK.out _ _ (l8.farRow _ (by omega)) (fun hH6 => ?_)
  clear hK K
  refine wpAnyH_done (by kernel_rfl) ?_ _
  go_wp2
  have hk3 : Kp pb w w3 := ((((Kp.refl pb w).alloc _).alloc _).trans (hg.kp.drew)).trans hg3.kp
  have hsz2 : w.heap.size + 2 ≤ w2.heap.size := by have := hg.kp.size; simp at this; omega
  have hsz3 : w2.heap.size ≤ w3.heap.size := hg3.kp.size
  refine bodyPost_ret (v := .agg (tmC 10 t.pos x.t [] 0 (.slice (some ⟨w3.heap.size, 0, none⟩) 2 2) (.slice none 0 0)).toArray) (results_cell_row rfl _ _ (w.heap.size + 1) 39 _ (0, 0) _ rfl (l9.setRow _) Tryz.underlying39 rfl sz39) rfl ?_
  have hL : HT ((w3.alloc (.cells M.toArray 39)).setRow (w.heap.size + 1) (tmC 10 t.pos x.t [] 0 (.slice (some ⟨w3.heap.size, 0, none⟩) 2 2) (.slice none 0 0)).toArray) (fun g => PL g ∨ w.heap.size ≤ g) t l := by
    refine HT.mono (HT.setRow (HT.later (HT.kp ht.lt hk3 (fun g hg' => hPL g hg'.1)) (below_new _ _)) (fun g hg' => by have := hg'.2; omega) _) (fun g hg' _ => .inl hg'.1)
  have hR : HT ((w3.alloc (.cells M.toArray 39)).setRow (w.heap.size + 1) (tmC 10 t.pos x.t [] 0 (.slice (some ⟨w3.heap.size, 0, none⟩) 2 2) (.slice none 0 0)).toArray) (fun g => PL g ∨ w.heap.size ≤ g) (f (take s)).1 l3 := by
    refine HT.mono (HT.setRow (HT.later ht3 (below_new _ _)) (fun g (hg' : w2.heap.size ≤ g) => by omega) _) (fun g (hg' : w2.heap.size ≤ g) _ => .inr (by omega))
  have hrw : Rw ((w3.alloc (.cells M.toArray 39)).setRow (w.heap.size + 1) (tmC 10 t.pos x.t [] 0 (.slice (some ⟨w3.heap.size, 0, none⟩) 2 2) (.slice none 0 0)).toArray) (fun g => PL g ∨ w.heap.size ≤ g) 39 21 (.slice (some ⟨w3.heap.size, 0, none⟩) 2 2) [l, l3] := by
    have h1 := Rw.lit w3 (fun g => w2.heap.size ≤ g) 39 21 [l, l3] hll rfl hsz3 (n := 2) rfl (by unfold maxLen; omega)
    rw [← HM.out] at h1
    exact ⟨h1.1, (h1.2.same (fun g (hg' : w2.heap.size ≤ g) _ => heap_setRow _ _ _ _ (by omega))).mono (fun g (hg' : w2.heap.size ≤ g) _ => .inr (by omega))⟩
  refine ⟨_, rfl, ?_, ?_⟩
  · have e : (both f t s).1 = .mk 10 t.pos x.t [] 0 [t, (f (take s)).1] [] := by unfold both; rw [hd_cons hw]
    rw [e]
    refine HT.kids 10 t.pos x.t [] 0 hrw rfl ?_
    intro i t' c h1 h2
    match i, h1, h2 with
    | 0, h1, h2 => simp at h1 h2; subst h1 h2; exact hL
    | 1, h1, h2 => simp at h1 h2; subst h1 h2; exact hR
    | i + 2, h1, h2 => simp at h1
  · exact ⟨(hg3.pa.alloc _).setRow (by omega) _, (hk3.alloc _).setRow (by omega) _⟩
end Go.Proofs.YtnkfkaahjplnmaaGreatDoor

/- Contracts of what reads one side or two, or any number, with signs between. -/
namespace Go.Proofs.YtnkfkaahjplnmaaGreatDoor
open Go.RowKit Pz

theorem zC_size : zC.size = 21 := rfl
theorem Off.kp {pb : Nat} {v : Value} (h : Off pb v) : ∀ g o n c, v = .slice (some ⟨g, o, none⟩) n c → g ≠ pb := h

theorem once_no {f : St → Tm × St} {ss : List Str} {s : St} (h : isT ss (f s).2 = false) : once f ss s = f s := by unfold once; rw [h]; rfl
theorem once_yes {f : St → Tm × St} {ss : List Str} {s : St} (h : isT ss (f s).2 = true) : once f ss s = both f (f s).1 (f s).2 := by unfold once; rw [if_pos h]

set_option maxRecDepth 100000 in
set_option maxHeartbeats 4000000 in
theorem once_any (F : Nat) (f : St → Tm × St) (pb sz n : Nat) (hs : SideOK F f pb sz n) (hf : Nice f) (w : World) (s : St) (hp : PA w pb sz s) (hn : s.ws.length ≤ n) (v : Value) (ss : List Str) (hv : Sl w v ss) (hoff : Off pb v) :
    Calls Tryz.prog 88 #[.pointer (some ⟨pb, 0, none⟩), sideV F pb, v] w (TermEnd pb sz (fun g => w.heap.size ≤ g) w (once f ss s)) := by
  have hplt := hp.lt
  have l0 := Lies.new w 39 zC
  have hp1 := hp.alloc (.cells zC 39)
  obtain ⟨hcf, hside⟩ := id hs
  unfold sideV
  unfold zC at l0 hp1
  go_enter Tryz.func88, Tryz.ntmps88
  go_wp2_with fail
  refine (hside _ s hp1 hn).mono ?_
  rintro e w1 ⟨l, rfl, ht, hg⟩
  have l1 := hg.kp.lies l0 (by omega)
  have lz := Lies.new w1 39 zC
  unfold zC at lz
  have hlen := ht.len
  have HL := Lib.hid hlen
  clear hlen l0
  go_wp2_with (first | (refine wpList_store_row rfl 39 (.tmp 7) (.tmp 9) rfl _ _ rfl rfl 39 _ lz (by rw [sz39]; simp [HL.out]) (by simp [HL.out]) ht.one ?_; rw [set_new rfl]))
  have l2 := l1.alloc (.cells l.toArray 39)
  have lb := Lies.new w1 39 l.toArray
  have hpa := hg.pa.alloc (.cells l.toArray 39)
  have hsz1 : w.heap.size + 1 ≤ w1.heap.size := by have := hg.kp.size; simp at this; omega
  have hk0 : Kp pb w w1 := ((Kp.refl pb w).alloc _).trans hg.kp
  have hv1 : Sl (w1.alloc (.cells l.toArray 39)) v ss := (hv.kp hk0 hoff).later (below_new _ _)
  have hi := is_any v ss _ pb sz (f s).2 hpa hv1
  cases hT : isT ss (f s).2
  · rw [hT] at hi
    have HI := Lib.hid hi
    have ho := once_no hT
    have HO := Lib.hid ho
    clear hi hT ho l1 lz
    refine HI.out.mono ?_
    rintro e w2 ⟨rfl, hb⟩
    have l3 := l2.later hb
    have l4 := lb.later hb
    go_wp2_with (first | (refine wpList_load_row rfl 39 (.tmp 7) rfl _ rfl 39 _ (0, 0) _ l4 Tryz.underlying39 rfl (by rw [sz39]; simp [HL.out]) ?_) | (refine wpList_store_row rfl 39 (.tmp 6) (.tmp 19) rfl _ _ rfl rfl 39 _ l3 (by rw [sz39]; simp [HL.out]) (by simp [HL.out]) ht.one ?_))
    refine bodyPost_ret (v := .agg l.toArray) (results_cell_row rfl _ _ w.heap.size 39 _ (0, 0) _ rfl (l3.setRow _) Tryz.underlying39 rfl (by rw [sz39]; simp [HL.out])) rfl ?_
    rw [HO.out]
    refine ⟨_, rfl, ?_, ?_⟩
    · exact HT.mono (HT.setRow ((ht.later (below_new _ _)).later hb) (fun g hg' => by simp at hg'; omega) _) (fun g hg' _ => by simp at hg'; omega)
    · exact ⟨(hpa.below hb).setRow hplt _, ((hk0.alloc _).below hb (by simp; omega)).setRow (Nat.le_refl _) _⟩
  · rw [hT] at hi
    have HI := Lib.hid hi
    have ho := once_yes hT
    have HO := Lib.hid ho
    obtain ⟨x, r, hw⟩ := ws_cons (isT_pos hT)
    have hr : r.length ≤ n := by have := (hf s).1; rw [hw] at this; simp at this; omega
    clear hi hT ho l1 lz
    refine HI.out.mono ?_
    rintro e w2 ⟨rfl, hb⟩
    have l3 := l2.later hb
    have l4 := lb.later hb
    have ht2 := (ht.lt.later (below_new w1 (.cells l.toArray 39))).later hb
    have hbo := both_any F f pb sz n hs w2 (f s).2 (hpa.below hb) x r hw hr _ (fun g hg' => by have := hg'.1; simp at this; omega) (f s).1 l ht2
    have HB := Lib.hid hbo
    clear hbo
    unfold sideV at HB
    go_wp2_with (first | (refine wpList_load_row rfl 39 (.tmp 7) rfl _ rfl 39 _ (0, 0) _ l4 Tryz.underlying39 rfl (by rw [sz39]; simp [HL.out]) ?_))
    refine HB.out.mono ?_
    rintro e w3 ⟨l5, rfl, ht5, hg5⟩
    have l6 := hg5.kp.lies l3 (by omega)
    have l7 := hg5.kp.lies l4 (by omega)
    have hlen5 := ht5.len
    have HL5 := Lib.hid hlen5
    clear hlen5 l3 l4
    go_wp2_with (first | (refine wpList_store_row rfl 39 (.tmp 7) (.tmp 18) rfl _ _ rfl rfl 39 _ l7 (by rw [sz39]; simp [HL5.out]) (by simp [HL5.out, HL.out]) ht5.one ?_) | (refine wpList_load_row rfl 39 (.tmp 7) rfl _ rfl 39 _ (0, 0) _ (l7.setRow _) Tryz.underlying39 rfl (by rw [sz39]; simp [HL5.out]) ?_) | (refine wpList_store_row rfl 39 (.tmp 6) (.tmp 19) rfl _ _ rfl rfl 39 _ (l6.farRow _ (by omega)) (by rw [sz39]; simp [HL5.out]) (by simp [HL5.out]) ht5.one ?_))
    refine bodyPost_ret (v := .agg l5.toArray) (results_cell_row rfl _ _ w.heap.size 39 _ (0, 0) _ rfl ((l6.farRow _ (by omega)).setRow _) Tryz.underlying39 rfl (by rw [sz39]; simp [HL5.out])) rfl ?_
    rw [HO.out]
    have hsz2 : w1.heap.size + 1 ≤ w2.heap.size := by have := hb.size; simp at this; omega
    refine ⟨_, rfl, ?_, ?_⟩
    · refine HT.mono (HT.setRow (HT.setRow ht5 (fun g hg' => ?_) _) (fun g hg' => ?_) _) (fun g hg' _ => ?_)
      · rcases hg' with hg' | hg'
        · have := hg'.2; omega
        · omega
      · rcases hg' with hg' | hg'
        · have := hg'.1; simp at this; omega
        · omega
      · rcases hg' with hg' | hg'
        · have := hg'.1; simp at this; omega
        · omega
    · exact ⟨(hg5.pa.setRow (by omega) _).setRow hplt _, (((((hk0.alloc _).below hb (by simp; omega)).trans hg5.kp).setRow (by omega) _).setRow (Nat.le_refl _) _)⟩
end Go.Proofs.YtnkfkaahjplnmaaGreatDoor

/- The contract of what reads any number of sides. -/
namespace Go.Proofs.YtnkfkaahjplnmaaGreatDoor
open Go.RowKit Pz

theorem oftenMore_no {f : St → Tm × St} {ss : List Str} {s : St} (h : isT ss s = false) (n : Nat) (t : Tm) : oftenMore f ss n t s = (t, s) := by
  cases n with
  | zero => rfl
  | succ n => unfold oftenMore; rw [h]; rfl
theorem oftenMore_yes {f : St → Tm × St} {ss : List Str} {s : St} (h : isT ss s = true) (n : Nat) (t : Tm) : oftenMore f ss (n + 1) t s = oftenMore f ss n (both f t s).1 (both f t s).2 := by
  rw [oftenMore, if_pos h]

structure OftenRel (f : St → Tm × St) (ss : List Str) (pb sz n N M : Nat) (w : World) (res : Tm × St) (g : Nat) (wr : World) (t : Tm) (l : List Value) (s : St) : Prop where
  goes : Goes pb sz w s wr
  box : Lies wr M 39 l.toArray
  out : Lies wr N 39 zC
  ht : HT wr (fun k => N < k ∧ k ≠ M) t l
  lg : s.ws.length ≤ g
  ln : s.ws.length ≤ n
  res : oftenMore f ss g t s = res
def OftenAny (f : St → Tm × St) (ss : List Str) (pb sz n N M : Nat) (w : World) (res : Tm × St) (g : Nat) (wr : World) : Prop :=
  ∃ t l s, OftenRel f ss pb sz n N M w res g wr t l s

set_option maxRecDepth 100000 in
set_option maxHeartbeats 4000000 in
theorem often_any (F : Nat) (f : St → Tm × St) (pb sz n : Nat) (hs : SideOK F f pb sz n) (hf : Nice f) (w : World) (s : St) (hp : PA w pb sz s) (hn : s.ws.length ≤ n) (v : Value) (ss : List Str) (hv : Sl w v ss) (hoff : Off pb v) :
    Calls Tryz.prog 98 #[.pointer (some ⟨pb, 0, none⟩), sideV F pb, v] w (TermEnd pb sz (fun g => w.heap.size ≤ g) w (often f ss s)) := by
  have hplt := hp.lt
  have l0 := Lies.new w 39 zC
  have hp1 := hp.alloc (.cells zC 39)
  obtain ⟨hcf, hside⟩ := id hs
  unfold sideV
  unfold zC at l0 hp1
  go_enter Tryz.func98, Tryz.ntmps98
  go_wp2_with fail
  refine (hside _ s hp1 hn).mono ?_
  rintro e w1 ⟨l, rfl, ht, hg⟩
  have l1 := hg.kp.lies l0 (by omega)
  have lz := Lies.new w1 39 zC
  unfold zC at lz
  have hlen := ht.len
  have HL := Lib.hid hlen
  clear hlen l0
  go_wp2_with (first | (refine wpList_store_rowTo rfl 39 (.tmp 7) (.tmp 9) rfl rfl _ _ rfl rfl 39 _ lz (by rw [sz39]; simp [HL.out]) (by simp [HL.out]) ht.one ?_; rw [set_new rfl]))
  have hsz1 : w.heap.size + 1 ≤ w1.heap.size := by have := hg.kp.size; simp at this; omega
  have hk0 : Kp pb w w1 := ((Kp.refl pb w).alloc _).trans hg.kp
  have hfs := hf s
  have hst : OftenRel f ss pb sz n w.heap.size w1.heap.size w (often f ss s) (f s).2.ws.length (w1.alloc (.cells l.toArray 39)) (f s).1 l (f s).2 :=
    ⟨⟨hg.pa.alloc _, hk0.alloc _⟩, Lies.new _ _ _, l1.alloc _, (ht.lt.later (below_new _ _)).mono (fun k hk _ => by simp at hk; omega), Nat.le_refl _, by have := hfs.1; omega, rfl⟩
  clear lz l1 ht HL hg hp hp1
  go_loopg [14] (f s).2.ws.length (fun g _ wr => OftenAny f ss pb sz n w.heap.size w1.heap.size w (often f ss s) g wr)
  case atStart => exact ⟨_, _, _, hst⟩
  case round =>
    obtain ⟨t, l', s', hR⟩ := hrel
    clear hst
    have hlen := hR.ht.len
    have HL := Lib.hid hlen
    have hv1 := hv.kp hR.goes.kp hoff
    have hi := is_any v ss wr pb sz s' hR.goes.pa hv1
    have HR := Lib.hid hR
    have hszr : w1.heap.size < wr.heap.size := hR.box.lt
    have l2 := hR.box
    have l3 := hR.out
    unfold zC at l3
    have ht1 := hR.ht
    clear hlen hR
    cases hT : isT ss s'
    · rw [hT] at hi
      have HI := Lib.hid hi
      have HT' := Lib.hid hT
      clear hi hT
      go_wp2_with fail
      refine HI.out.mono ?_
      rintro e w2 ⟨rfl, hb⟩
      have l4 := l2.later hb
      have l5 := l3.later hb
      go_wp2_with (first | (refine wpList_load_row rfl 39 (.tmp 7) rfl _ rfl 39 _ (0, 0) _ l4 Tryz.underlying39 rfl (by rw [sz39]; simp [HL.out]) ?_) | (refine wpList_store_row rfl 39 (.tmp 6) (.tmp 19) rfl _ _ rfl rfl 39 _ l5 (by rw [sz39]; simp [HL.out]) (by simp [HL.out]) ht1.one ?_))
      refine bodyPost_ret (v := .agg l'.toArray) (results_cell_row rfl _ _ w.heap.size 39 _ (0, 0) _ rfl (l5.setRow _) Tryz.underlying39 rfl (by rw [sz39]; simp [HL.out])) rfl ?_
      have hres := HR.out.res
      rw [oftenMore_no HT'.out] at hres
      rw [← hres]
      have hgo := HR.out.goes
      refine ⟨_, rfl, ?_, ?_⟩
      · exact HT.mono (HT.setRow (ht1.later hb) (fun g hg' => by have := hg'.1; omega) _) (fun g hg' _ => by have := hg'.1; omega)
      · exact ⟨(hgo.pa.below hb).setRow hplt _, (hgo.kp.below hb hgo.kp.size).setRow (Nat.le_refl _) _⟩
    · rw [hT] at hi
      have HI := Lib.hid hi
      have HT' := Lib.hid hT
      obtain ⟨x, r, hw⟩ := ws_cons (isT_pos hT)
      have hr : r.length + 1 ≤ n := by have := HR.out.ln; rw [hw] at this; simpa using this
      have hgk : r.length + 1 ≤ gk := by have := HR.out.lg; rw [hw] at this; simpa using this
      clear hi hT
      go_wp2_with fail
      refine HI.out.mono ?_
      rintro e w2 ⟨rfl, hb⟩
      have l4 := l2.later hb
      have l5 := l3.later hb
      have ht2 := ht1.later hb
      have hgo := HR.out.goes
      have hbo := both_any F f pb sz n hs w2 s' (hgo.pa.below hb) x r hw (by omega) _ (fun g hg' => by have := hg'.1; omega) t l' ht2
      have HB := Lib.hid hbo
      clear hbo
      unfold sideV at HB
      go_wp2_with (first | (refine wpList_load_row rfl 39 (.tmp 7) rfl _ rfl 39 _ (0, 0) _ l4 Tryz.underlying39 rfl (by rw [sz39]; simp [HL.out]) ?_))
      refine HB.out.mono ?_
      rintro e w3 ⟨l6, rfl, ht6, hg6⟩
      have l7 := hg6.kp.lies l4 (by omega)
      have l8 := hg6.kp.lies l5 (by omega)
      have hlen6 := ht6.len
      have HL6 := Lib.hid hlen6
      clear hlen6 l4 l5
      go_wp2_with (first | (refine wpList_store_rowTo rfl 39 (.tmp 7) (.tmp 18) rfl rfl _ _ rfl rfl 39 _ l7 (by rw [sz39]; simp [HL6.out]) (by simp [HL6.out, HL.out]) ht6.one ?_))
      go_roundg (gk - 1)
      case measure => omega
      case rel =>
        have hszb := hb.size
        refine ⟨(both f t s').1, l6, (both f t s').2, ?_⟩
        refine ⟨⟨hg6.pa.setRow (by omega) _, (((hgo.kp.below hb hgo.kp.size).trans hg6.kp).setRow (by omega) _)⟩, l7.setRow _, l8.farRow _ (by omega), ?_, ?_, ?_, ?_⟩
        · refine HT.mono (HT.setRow ht6 (fun g hg' => ?_) _) (fun g hg' _ => ?_)
          · rcases hg' with hg' | hg'
            · exact hg'.2
            · omega
          · rcases hg' with hg' | hg'
            · exact hg'
            · exact ⟨by omega, by omega⟩
        · have := (hf (take s')).1
          have e : (take s').ws.length = r.length := by unfold take; rw [hw]; rfl
          show (f (take s')).2.ws.length ≤ _
          omega
        · have := (hf (take s')).1
          have e : (take s').ws.length = r.length := by unfold take; rw [hw]; rfl
          show (f (take s')).2.ws.length ≤ _
          omega
        · have hres := HR.out.res
          obtain ⟨g', rfl⟩ : ∃ g', gk = g' + 1 := ⟨gk - 1, by omega⟩
          rw [oftenMore_yes HT'.out] at hres
          exact hres
end Go.Proofs.YtnkfkaahjplnmaaGreatDoor

/- The levels of operators: each reads what the next stronger one reads. -/
namespace Go.Proofs.YtnkfkaahjplnmaaGreatDoor
open Go.RowKit Pz


theorem enter_assign (args : Array Value) (w : World) : (callFunc 77 args).run Tryz.prog w = .ok (.enter 77 args) w := by go_simp
set_option maxRecDepth 100000 in
set_option maxHeartbeats 4000000 in
theorem assign_ok {pb sz n : Nat} {ex : St → Tm × St} (hx : Nice ex) (hs : SideOK 89 (cmp sz ex) pb sz n) : SideOK 77 (assign sz ex) pb sz n := by
  refine ⟨enter_assign, fun w s hp hn => ?_⟩
  have hplt := hp.lt
  have l0 := Lies.new w 39 zC
  have hp1 := hp.alloc (.cells zC 39)
  have hS := Sl.new (w := w.alloc (.cells zC 39)) (t := 9) (N := w.heap.size + 1) [tPut] (by simp) (by decide) 1 1 rfl rfl
  have hb := below_new (w.alloc (.cells zC 39)) (.cells ([tPut].map fun (k : Str) => Value.string (ba k)).toArray 9)
  have hc := once_any 89 (cmp sz ex) pb sz n hs (nice_cmp hx) _ s (hp1.below hb) hn _ [tPut] hS (Off.new (by omega))
  have hk1 : Kp pb w ((w.alloc (.cells zC 39)).alloc (.cells ([tPut].map fun (k : Str) => Value.string (ba k)).toArray 9)) := ((Kp.refl pb w).alloc _).alloc _
  have l1 := l0.later hb
  have hsz1 : ((w.alloc (.cells zC 39)).alloc (.cells ([tPut].map fun (k : Str) => Value.string (ba k)).toArray 9)).heap.size = w.heap.size + 2 := by simp
  have HC := Lib.hid hc
  have HZ := Lib.hid hsz1
  clear hc hS hb l0 hsz1
  unfold zC at l1 hk1
  go_enter Tryz.func77, Tryz.ntmps77
  go_wp2_with fail
  refine HC.out.mono ?_
  rintro e w1 ⟨l, rfl, ht, hg⟩
  have l2 := hg.kp.lies l1 (by omega)
  have hlen := ht.len
  have HL := Lib.hid hlen
  clear hlen l1
  go_wp2_with (first | (refine wpList_store_rowTo rfl 39 (.tmp 2) (.tmp 7) rfl rfl _ _ rfl rfl 39 _ l2 (by rw [sz39]; simp [HL.out]) (by simp [HL.out]) ht.one ?_))
  refine bodyPost_ret (v := .agg l.toArray) (results_cell_row rfl _ _ w.heap.size 39 _ (0, 0) _ rfl (l2.setRow _) Tryz.underlying39 rfl (by rw [sz39]; simp [HL.out])) rfl ?_
  refine ⟨_, rfl, ?_, ?_⟩
  · exact HT.mono (HT.setRow ht (fun g hg' => by rw [HZ.out] at hg'; omega) _) (fun g hg' _ => by rw [HZ.out] at hg'; omega)
  · exact ⟨hg.pa.setRow hplt _, (hk1.trans hg.kp).setRow (Nat.le_refl _) _⟩

theorem enter_cmp (args : Array Value) (w : World) : (callFunc 89 args).run Tryz.prog w = .ok (.enter 89 args) w := by go_simp
set_option maxRecDepth 100000 in
set_option maxHeartbeats 4000000 in
theorem cmp_ok {pb sz n : Nat} {ex : St → Tm × St} (hx : Nice ex) (hs : SideOK 96 (sum sz ex) pb sz n) : SideOK 89 (cmp sz ex) pb sz n := by
  refine ⟨enter_cmp, fun w s hp hn => ?_⟩
  have hplt := hp.lt
  have l0 := Lies.new w 39 zC
  have hp1 := hp.alloc (.cells zC 39)
  have hS := Sl.new (w := w.alloc (.cells zC 39)) (t := 9) (N := w.heap.size + 1) [tLess, tEq] (by simp) (by decide) 2 2 rfl rfl
  have hb := below_new (w.alloc (.cells zC 39)) (.cells ([tLess, tEq].map fun (k : Str) => Value.string (ba k)).toArray 9)
  have hc := once_any 96 (sum sz ex) pb sz n hs (nice_sum hx) _ s (hp1.below hb) hn _ [tLess, tEq] hS (Off.new (by omega))
  have hk1 : Kp pb w ((w.alloc (.cells zC 39)).alloc (.cells ([tLess, tEq].map fun (k : Str) => Value.string (ba k)).toArray 9)) := ((Kp.refl pb w).alloc _).alloc _
  have l1 := l0.later hb
  have hsz1 : ((w.alloc (.cells zC 39)).alloc (.cells ([tLess, tEq].map fun (k : Str) => Value.string (ba k)).toArray 9)).heap.size = w.heap.size + 2 := by simp
  have HC := Lib.hid hc
  have HZ := Lib.hid hsz1
  clear hc hS hb l0 hsz1
  unfold zC at l1 hk1
  go_enter Tryz.func89, Tryz.ntmps89
  go_wp2_with fail
  refine HC.out.mono ?_
  rintro e w1 ⟨l, rfl, ht, hg⟩
  have l2 := hg.kp.lies l1 (by omega)
  have hlen := ht.len
  have HL := Lib.hid hlen
  clear hlen l1
  go_wp2_with (first | (refine wpList_store_rowTo rfl 39 (.tmp 2) (.tmp 7) rfl rfl _ _ rfl rfl 39 _ l2 (by rw [sz39]; simp [HL.out]) (by simp [HL.out]) ht.one ?_))
  refine bodyPost_ret (v := .agg l.toArray) (results_cell_row rfl _ _ w.heap.size 39 _ (0, 0) _ rfl (l2.setRow _) Tryz.underlying39 rfl (by rw [sz39]; simp [HL.out])) rfl ?_
  refine ⟨_, rfl, ?_, ?_⟩
  · exact HT.mono (HT.setRow ht (fun g hg' => by rw [HZ.out] at hg'; omega) _) (fun g hg' _ => by rw [HZ.out] at hg'; omega)
  · exact ⟨hg.pa.setRow hplt _, (hk1.trans hg.kp).setRow (Nat.le_refl _) _⟩

theorem enter_sum (args : Array Value) (w : World) : (callFunc 96 args).run Tryz.prog w = .ok (.enter 96 args) w := by go_simp
set_option maxRecDepth 100000 in
set_option maxHeartbeats 4000000 in
theorem sum_ok {pb sz n : Nat} {ex : St → Tm × St} (hx : Nice ex) (hs : SideOK 99 (prod sz ex) pb sz n) : SideOK 96 (sum sz ex) pb sz n := by
  refine ⟨enter_sum, fun w s hp hn => ?_⟩
  have hplt := hp.lt
  have l0 := Lies.new w 39 zC
  have hp1 := hp.alloc (.cells zC 39)
  have hS := Sl.new (w := w.alloc (.cells zC 39)) (t := 9) (N := w.heap.size + 1) [tPlus, tMinus] (by simp) (by decide) 2 2 rfl rfl
  have hb := below_new (w.alloc (.cells zC 39)) (.cells ([tPlus, tMinus].map fun (k : Str) => Value.string (ba k)).toArray 9)
  have hc := often_any 99 (prod sz ex) pb sz n hs (nice_prod hx) _ s (hp1.below hb) hn _ [tPlus, tMinus] hS (Off.new (by omega))
  have hk1 : Kp pb w ((w.alloc (.cells zC 39)).alloc (.cells ([tPlus, tMinus].map fun (k : Str) => Value.string (ba k)).toArray 9)) := ((Kp.refl pb w).alloc _).alloc _
  have l1 := l0.later hb
  have hsz1 : ((w.alloc (.cells zC 39)).alloc (.cells ([tPlus, tMinus].map fun (k : Str) => Value.string (ba k)).toArray 9)).heap.size = w.heap.size + 2 := by simp
  have HC := Lib.hid hc
  have HZ := Lib.hid hsz1
  clear hc hS hb l0 hsz1
  unfold zC at l1 hk1
  go_enter Tryz.func96, Tryz.ntmps96
  go_wp2_with fail
  refine HC.out.mono ?_
  rintro e w1 ⟨l, rfl, ht, hg⟩
  have l2 := hg.kp.lies l1 (by omega)
  have hlen := ht.len
  have HL := Lib.hid hlen
  clear hlen l1
  go_wp2_with (first | (refine wpList_store_rowTo rfl 39 (.tmp 2) (.tmp 7) rfl rfl _ _ rfl rfl 39 _ l2 (by rw [sz39]; simp [HL.out]) (by simp [HL.out]) ht.one ?_))
  refine bodyPost_ret (v := .agg l.toArray) (results_cell_row rfl _ _ w.heap.size 39 _ (0, 0) _ rfl (l2.setRow _) Tryz.underlying39 rfl (by rw [sz39]; simp [HL.out])) rfl ?_
  refine ⟨_, rfl, ?_, ?_⟩
  · exact HT.mono (HT.setRow ht (fun g hg' => by rw [HZ.out] at hg'; omega) _) (fun g hg' _ => by rw [HZ.out] at hg'; omega)
  · exact ⟨hg.pa.setRow hplt _, (hk1.trans hg.kp).setRow (Nat.le_refl _) _⟩

theorem enter_prod (args : Array Value) (w : World) : (callFunc 99 args).run Tryz.prog w = .ok (.enter 99 args) w := by go_simp
set_option maxRecDepth 100000 in
set_option maxHeartbeats 4000000 in
theorem prod_ok {pb sz n : Nat} {ex : St → Tm × St} (hx : Nice ex) (hs : SideOK 101 (unary sz ex) pb sz n) : SideOK 99 (prod sz ex) pb sz n := by
  refine ⟨enter_prod, fun w s hp hn => ?_⟩
  have hplt := hp.lt
  have l0 := Lies.new w 39 zC
  have hp1 := hp.alloc (.cells zC 39)
  have hS := Sl.new (w := w.alloc (.cells zC 39)) (t := 9) (N := w.heap.size + 1) [tStar, tSlash] (by simp) (by decide) 2 2 rfl rfl
  have hb := below_new (w.alloc (.cells zC 39)) (.cells ([tStar, tSlash].map fun (k : Str) => Value.string (ba k)).toArray 9)
  have hc := often_any 101 (unary sz ex) pb sz n hs (nice_unary hx) _ s (hp1.below hb) hn _ [tStar, tSlash] hS (Off.new (by omega))
  have hk1 : Kp pb w ((w.alloc (.cells zC 39)).alloc (.cells ([tStar, tSlash].map fun (k : Str) => Value.string (ba k)).toArray 9)) := ((Kp.refl pb w).alloc _).alloc _
  have l1 := l0.later hb
  have hsz1 : ((w.alloc (.cells zC 39)).alloc (.cells ([tStar, tSlash].map fun (k : Str) => Value.string (ba k)).toArray 9)).heap.size = w.heap.size + 2 := by simp
  have HC := Lib.hid hc
  have HZ := Lib.hid hsz1
  clear hc hS hb l0 hsz1
  unfold zC at l1 hk1
  go_enter Tryz.func99, Tryz.ntmps99
  go_wp2_with fail
  refine HC.out.mono ?_
  rintro e w1 ⟨l, rfl, ht, hg⟩
  have l2 := hg.kp.lies l1 (by omega)
  have hlen := ht.len
  have HL := Lib.hid hlen
  clear hlen l1
  go_wp2_with (first | (refine wpList_store_rowTo rfl 39 (.tmp 2) (.tmp 7) rfl rfl _ _ rfl rfl 39 _ l2 (by rw [sz39]; simp [HL.out]) (by simp [HL.out]) ht.one ?_))
  refine bodyPost_ret (v := .agg l.toArray) (results_cell_row rfl _ _ w.heap.size 39 _ (0, 0) _ rfl (l2.setRow _) Tryz.underlying39 rfl (by rw [sz39]; simp [HL.out])) rfl ?_
  refine ⟨_, rfl, ?_, ?_⟩
  · exact HT.mono (HT.setRow ht (fun g hg' => by rw [HZ.out] at hg'; omega) _) (fun g hg' _ => by rw [HZ.out] at hg'; omega)
  · exact ⟨hg.pa.setRow hplt _, (hk1.trans hg.kp).setRow (Nat.le_refl _) _⟩
end Go.Proofs.YtnkfkaahjplnmaaGreatDoor
