/- Terms in memory. -/
import Derived.Test.YtmodmojocclmaaaGreatDoorMg21
import Derived.Test.YtmodmojocclmaaaGreatDoorMg00
import Derived.Test.YtmodmojocclmaaaGreatDoorMg01
import Derived.Laws.Rows
import Derived.Laws.Tables
import Derived.Deep.WholeRow
import Derived.Great.BuildSlice
import Derived.Deep.RegionWith
import Derived.Deep.RegionHeld3
import Derived.Outline
namespace Go.Proofs.YtmodmojocclmaaaGreatDoor
open Go.RowKit Pz

def zC : Array Value := #[.int .i64 0, .int .i64 0, .string ⟨#[]⟩, .string ⟨#[]⟩, .int .i64 0, .slice none 0 0, .slice none 0 0, .int .i64 0, .string ⟨#[]⟩, .int .i64 0, .slice none 0 0, .slice none 0 0, .int .i64 0, .slice none 0 0, .int .i64 0, .int .i64 0, .string ⟨#[]⟩, .int .i64 0, .slice none 0 0, .slice none 0 0, .int .i64 0]
def tmC (k pos : Nat) (nm pm : Str) (n : Nat) (kv av : Value) : List Value :=
 [.int .i64 (k : Int), .int .i64 (pos : Int), .string (ba nm), .string (ba pm), .int .i64 (n : Int), kv, av, .int .i64 0, .string ⟨#[]⟩, .int .i64 0, .slice none 0 0, .slice none 0 0, .int .i64 0, .slice none 0 0, .int .i64 0, .int .i64 0, .string ⟨#[]⟩, .int .i64 0, .slice none 0 0, .slice none 0 0, .int .i64 0]
def tmV (k pos : Nat) (nm pm : Str) (n : Nat) (kv av : Value) : Value :=
 .agg #[.int .i64 (k : Int), .int .i64 (pos : Int), .string (ba nm), .string (ba pm), .int .i64 (n : Int), kv, av, .int .i64 0, .string ⟨#[]⟩, .int .i64 0, .slice none 0 0, .slice none 0 0, .int .i64 0, .slice none 0 0, .int .i64 0, .int .i64 0, .string ⟨#[]⟩, .int .i64 0, .slice none 0 0, .slice none 0 0, .int .i64 0]

def OwnP (w : World) (P : Nat → Prop) (e : TypeId) (size : Nat) (v : Value) (n : Nat) (xs : List Value) : Prop :=
 xs.length = n * size ∧ ((v = .slice none 0 0 ∧ n = 0) ∨
  ∃ g cap cur, v = .slice (some ⟨g, 0, none⟩) n cap ∧ P g ∧ w.heap[g]? = some (.cells cur e (0, 0)) ∧ n ≤ cap ∧ cap ≤ maxLen ∧ cur.size = cap * size ∧ cur.toList.take (n * size) = xs)
theorem OwnP.of {w : World} {B : Nat} {e : TypeId} {size n : Nat} {v : Value} {xs : List Value} (h : w.ownsRow B e size v n xs) : OwnP w (fun g => B ≤ g) e size v n xs := h
theorem OwnP.same {w w' : World} {P : Nat → Prop} {e : TypeId} {size n : Nat} {v : Value} {xs : List Value} (h : OwnP w P e size v n xs) (hs : ∀ g, P g → g < w.heap.size → w'.heap[g]? = w.heap[g]?) : OwnP w' P e size v n xs := by
 refine ⟨h.1, ?_⟩
 rcases h.2 with h0 | ⟨g, cap, cur, h1, h2, h3, h4⟩
 ·exact .inl h0
 ·exact .inr ⟨g, cap, cur, h1, h2, (hs g h2 (lt_of_block h3)).trans h3, h4⟩
theorem OwnP.mono {w : World} {P Q : Nat → Prop} {e : TypeId} {size n : Nat} {v : Value} {xs : List Value} (h : OwnP w P e size v n xs) (hs : ∀ g, P g → g < w.heap.size → Q g) : OwnP w Q e size v n xs := by
 refine ⟨h.1, ?_⟩
 rcases h.2 with h0 | ⟨g, cap, cur, h1, h2, h3, h4⟩
 ·exact .inl h0
 ·exact .inr ⟨g, cap, cur, h1, hs g h2 (lt_of_block h3), h3, h4⟩
theorem OwnP.one {w : World} {P : Nat → Prop} {e : TypeId} {size n : Nat} {v : Value} {xs : List Value} (h : OwnP w P e size v n xs) : v.oneCell' = true := by
 rcases h.2 with ⟨h1, _⟩ | ⟨g, cap, cur, h1, _⟩ <;> (rw [h1]; rfl)
theorem OwnP.nil (w : World) (P : Nat → Prop) (e : TypeId) (size : Nat) : OwnP w P e size (.slice none 0 0) 0 [] := ⟨by simp, .inl ⟨rfl, rfl⟩⟩
def Rw (w : World) (P : Nat → Prop) (e : TypeId) (sz : Nat) (v : Value) (xs : List (List Value)) : Prop :=
 (∀ x ∈ xs, x.length = sz) ∧ OwnP w P e sz v xs.length xs.flatten
theorem Rw.nil (w : World) (P : Nat → Prop) (e : TypeId) (sz : Nat) : Rw w P e sz (.slice none 0 0) [] := ⟨by simp, OwnP.nil _ _ _ _⟩

inductive HT (w : World) (P : Nat → Prop) : Tm → List Value → Prop
 | mk (k pos : Nat) (nm pm : Str) (n : Nat) (kids : List Tm) (arms : List Arm) (kv av : Value) (kc : List (List Value)) (vv : List Value) (bc : List (List Value))
   (hk : Rw w P 33 21 kv kc) (hkl : kc.length = kids.length) (hks : ∀ (i : Nat) t c, kids[i]? = some t → kc[i]? = some c → HT w P t c)
   (hvl : vv.length = arms.length) (hbl : bc.length = arms.length)
   (ha : Rw w P 35 23 av (List.zipWith (fun (a : Arm) (x : Value × List Value) => .string (ba a.1) :: x.1 :: x.2) arms (vv.zip bc)))
   (hav : ∀ (i : Nat) a v, arms[i]? = some a → vv[i]? = some v → OwnP w P 9 1 v a.2.1.length (a.2.1.map fun t => .string (ba t)))
   (has : ∀ (i : Nat) a c, arms[i]? = some a → bc[i]? = some c → HT w P a.2.2 c) :
   HT w P (.mk k pos nm pm n kids arms) (tmC k pos nm pm n kv av)

theorem HT.same {w w' : World} {P : Nat → Prop} {t : Tm} {cs : List Value} (h : HT w P t cs) (hs : ∀ g, P g → g < w.heap.size → w'.heap[g]? = w.heap[g]?) : HT w' P t cs := by
 induction h with
 | mk k pos nm pm n kids arms kv av kc vv bc hk hkl _ hvl hbl ha hav _ ih1 ih2 =>
  exact .mk k pos nm pm n kids arms kv av kc vv bc ⟨hk.1, hk.2.same hs⟩ hkl ih1 hvl hbl ⟨ha.1, ha.2.same hs⟩ (fun i a v h1 h2 => (hav i a v h1 h2).same hs) ih2
theorem HT.mono {w : World} {P Q : Nat → Prop} {t : Tm} {cs : List Value} (h : HT w P t cs) (hs : ∀ g, P g → g < w.heap.size → Q g) : HT w Q t cs := by
 induction h with
 | mk k pos nm pm n kids arms kv av kc vv bc hk hkl _ hvl hbl ha hav _ ih1 ih2 =>
  exact .mk k pos nm pm n kids arms kv av kc vv bc ⟨hk.1, hk.2.mono hs⟩ hkl ih1 hvl hbl ⟨ha.1, ha.2.mono hs⟩ (fun i a v h1 h2 => (hav i a v h1 h2).mono hs) ih2
theorem HT.lt {w : World} {P : Nat → Prop} {t : Tm} {cs : List Value} (h : HT w P t cs) : HT w (fun g => P g ∧ g < w.heap.size) t cs := h.mono fun _ h1 h2 => ⟨h1, h2⟩
theorem HT.later {w w' : World} {P : Nat → Prop} {t : Tm} {cs : List Value} (h : HT w P t cs) (hb : Below w.heap.size w w') : HT w' P t cs := h.same fun g _ hg => hb.block g hg
theorem HT.kp {w w' : World} {P : Nat → Prop} {t : Tm} {cs : List Value} (h : HT w P t cs) {pb : Nat} (hk : Kp pb w w') (hP : ∀ g, P g → g ≠ pb) : HT w' P t cs := h.same fun g h1 hg => hk.block g hg (fun e => hP g h1 (by injection e))

theorem HT.len {w : World} {P : Nat → Prop} {t : Tm} {l : List Value} (h : HT w P t l) : l.length = 21 := by
 cases h; rfl
theorem HT.one {w : World} {P : Nat → Prop} {t : Tm} {l : List Value} (h : HT w P t l) : l.toArray.all (·.oneCell') = true := by
 cases h with
 | mk k pos nm pm n kids arms kv av kc vv bc hk _ _ _ _ ha _ _ =>
  have h1 := hk.2.one
  have h2 := ha.2.one
  simp [tmC, Value.oneCell'] at h1 h2 ⊢
  exact ⟨h1, h2⟩
theorem HT.at_ {w : World} {P : Nat → Prop} {t : Tm} {l : List Value} (h : HT w P t l) : l[1]? = some (.int .i64 (t.pos : Int)) := by
 cases h; rfl
def TermEnd (pb sz : Nat) (P : Nat → Prop) (w : World) (r : Tm × St) (e : Ending) (w' : World) : Prop :=
 ∃ l : List Value, e = .returned (.agg l.toArray) ∧ HT w' P r.1 l ∧ Goes pb sz w r.2 w'

theorem HT.leaf (w : World) (P : Nat → Prop) (k pos : Nat) (nm pm : Str) (n : Nat) : HT w P (.mk k pos nm pm n [] []) (tmC k pos nm pm n (.slice none 0 0) (.slice none 0 0)) :=
 .mk k pos nm pm n [] [] _ _ [] [] [] (Rw.nil _ _ _ _) rfl (by simp) rfl rfl (Rw.nil _ _ _ _) (by simp) (by simp)
theorem HT.kids {w : World} {P : Nat → Prop} (k pos : Nat) (nm pm : Str) (n : Nat) {kids : List Tm} {kv : Value} {kc : List (List Value)} (hk : Rw w P 33 21 kv kc) (hkl : kc.length = kids.length)
  (hks : ∀ (i : Nat) t c, kids[i]? = some t → kc[i]? = some c → HT w P t c) : HT w P (.mk k pos nm pm n kids []) (tmC k pos nm pm n kv (.slice none 0 0)) :=
 .mk k pos nm pm n kids [] _ _ kc [] [] hk hkl hks rfl rfl (Rw.nil _ _ _ _) (by simp) (by simp)
theorem Rw.lit (w : World) (P : Nat → Prop) (e : TypeId) (sz : Nat) (ls : List (List Value)) (hl : ∀ l ∈ ls, l.length = sz) {N n : Nat} (hN : w.heap.size = N) (hP : P N) (hn : n = ls.length) (hm : n ≤ maxLen) :
  Rw (w.alloc (.cells ls.flatten.toArray e)) P e sz (.slice (some ⟨N, 0, none⟩) n n) ls := by
 subst hN hn
 have hlen : ls.flatten.length = ls.length * sz := by
  clear hm hP
  induction ls with
  | nil => simp
  | cons l r ih => rw [List.flatten_cons, List.length_append, ih (fun x hx => hl x (by simp [hx])), hl l (by simp), List.length_cons, Nat.succ_mul]; omega
 refine ⟨hl, hlen, .inr ⟨_, _, _, rfl, hP, heap_alloc_new w _, Nat.le_refl _, hm, by simpa using hlen, ?_⟩⟩
 rw [← hlen]
 exact List.take_of_length_le (Nat.le_refl _)

theorem sz39 : (Tryz.prog.info? 33).map (·.size) = some 21 := by kernel_rfl
theorem set_new {w : World} {c c' : Array Value} {t : TypeId} {N : Nat} (hN : w.heap.size = N) : (w.alloc (.cells c t)).setRow N c' = w.alloc (.cells c' t) := by
 subst hN; exact World.setRow_alloc_new w c c' t
theorem Lies.setRow {w : World} {g : Nat} {t : TypeId} {cs : Array Value} (h : Lies w g t cs) (cs' : Array Value) : Lies (w.setRow g cs') g t cs' := by
 unfold Lies at h ⊢
 simp only [World.setRow, Array.getElem?_modify, if_true, h]
 rfl
theorem heap_setRow (w : World) (g : Nat) (cs : Array Value) (k : Nat) (h : k ≠ g) : (w.setRow g cs).heap[k]? = w.heap[k]? := by
 simp only [World.setRow, Array.getElem?_modify]
 rw [if_neg (by omega)]
theorem size_setRow (w : World) (g : Nat) (cs : Array Value) : (w.setRow g cs).heap.size = w.heap.size := by simp [World.setRow]
theorem Lies.farRow {w : World} {g g' : Nat} {t : TypeId} {cs : Array Value} (h : Lies w g t cs) (cs' : Array Value) (hne : g ≠ g') : Lies (w.setRow g' cs') g t cs := (heap_setRow w g' cs' g hne).trans h
theorem below_setRow {B : Nat} {a w : World} (h : Below B a w) {g : Nat} (hg : B ≤ g) (cs : Array Value) : Below B a (w.setRow g cs) :=
 h.trans ⟨rfl, rfl, rfl, by rw [size_setRow]; exact Nat.le_refl _, fun k hk => heap_setRow _ _ _ _ (by omega)⟩
theorem Kp.setRow {pb : Nat} {a w : World} (h : Kp pb a w) {g : Nat} (hg : a.heap.size ≤ g) (cs : Array Value) : Kp pb a (w.setRow g cs) :=
 ⟨h.os, h.tape, h.output, by rw [size_setRow]; exact h.size, fun i hi hne => (heap_setRow _ _ _ _ (by omega)).trans (h.block i hi hne)⟩
theorem PA.setRow {w : World} {pb sz : Nat} {s : St} (h : PA w pb sz s) {g : Nat} (hg : pb < g) (cs : Array Value) : PA (w.setRow g cs) pb sz s := by
 obtain ⟨v, hl, ht⟩ := h
 exact ⟨v, hl.farRow cs (by omega), ht.keep fun k hk => heap_setRow _ _ _ _ (by omega)⟩
theorem HT.setRow {w : World} {P : Nat → Prop} {t : Tm} {l : List Value} (h : HT w P t l) {g : Nat} (hP : ∀ k, P k → k ≠ g) (cs : Array Value) : HT (w.setRow g cs) P t l := h.same fun k h1 _ => heap_setRow _ _ _ _ (hP k h1)
theorem info39 : ∃ ie, Tryz.prog.info? 33 = some ie ∧ ie.zero = some (.agg zC) ∧ ie.size = 21 := by
 have h : (Tryz.prog.info? 33).map (fun i => (i.zero, i.size)) = some (some (.agg zC), 21) := by kernel_rfl
 cases hq : Tryz.prog.info? 33 with
 | none => rw [hq] at h; cases h
 | some ie =>
  rw [hq] at h
  simp only [Option.map_some, Option.some.injEq, Prod.mk.injEq] at h
  exact ⟨ie, rfl, h.1, h.2⟩

theorem fill_terms (ls : List (List Value)) (hl : ∀ l ∈ ls, l.length = 21) (cells : Array Value) (hc : cells.size = ls.length * 21) :
  Instr.fill (fun i => some (i * 21, 21)) cells (((ls.map fun l => Value.agg l.toArray).zipIdx 0).map fun x => (x.2, x.1)) = some ls.flatten.toArray := by
 obtain ⟨r, hr, hsz, hk⟩ := Great.fill_dense (s := 21) (by omega) (ls.map fun l => Value.agg l.toArray) 0 cells (by
  intro v hv
  simp only [List.mem_map] at hv
  obtain ⟨l, hl', rfl⟩ := hv
  show l.toArray.size = 21
  simp [hl l hl']) (by simp [hc])
 rw [hr]
 congr 1
 apply Array.ext_getElem?
 intro i
 rw [hk i]
 have hflat : ∀ (ls : List (List Value)), (∀ l ∈ ls, l.length = 21) → ∀ i, ls.flatten[i]? = (ls[i / 21]?).bind fun l => l[i % 21]? := by
  intro ls
  induction ls with
  | nil => intro _ i; simp
  | cons l r ih =>
   intro hl i
   have h1 : l.length = 21 := hl l (by simp)
   rw [List.flatten_cons, List.getElem?_append]
   by_cases hi : i < 21
   ·rw [if_pos (by omega), show i / 21 = 0 by omega, show i % 21 = i by omega]; rfl
   ·rw [if_neg (by omega), ih (fun x hx => hl x (by simp [hx])), h1, show i / 21 = (i - 21) / 21 + 1 by omega, show (i - 21) % 21 = i % 21 by omega]; rfl
 simp only [List.getElem?_toArray, hflat ls hl i]
 by_cases hi : i < ls.length * 21
 ·rw [if_pos (by simp; omega)]
  rw [show i / 21 - 0 = i / 21 by omega, List.getElem?_map]
  cases ls[i / 21]? with
  | none => rfl
  | some l => show l.toArray[i % 21]? = l[i % 21]?; simp
 ·rw [if_neg (by simp; omega)]
  rw [List.getElem?_eq_none (show ls.length ≤ i / 21 by omega)]
  simp [hc]; omega
end Go.Proofs.YtmodmojocclmaaaGreatDoor

/- Contracts of what reads sides with signs between them. -/
namespace Go.Proofs.YtmodmojocclmaaaGreatDoor
open Go.RowKit Pz

def SideOK (F : Nat) (f : St → Tm × St) (pb sz n : Nat) : Prop :=
 (∀ (args : Array Value) (w : World), (callFunc F args).run Tryz.prog w = .ok (.enter F args) w) ∧ ∀ (w : World) (s : St), PA w pb sz s → s.ws.length ≤ n → Calls Tryz.prog F #[.pointer (some ⟨pb, 0, none⟩)] w (TermEnd pb sz (fun g => w.heap.size ≤ g) w (f s))
def sideV (F pb : Nat) : Value := .func (.func F) #[.pointer (some ⟨pb, 0, none⟩)] #[]
theorem Lies.range {w : World} {g : Nat} {t : TypeId} {l : List Value} (h : Lies w g t l.toArray) : w.rangeAt g 0 l := by
 intro j v hv
 rw [h.cell]
 simpa using hv

set_option maxRecDepth 100000 in
set_option maxHeartbeats 4000000 in
theorem both_any (F : Nat) (f : St → Tm × St) (pb sz n : Nat) (hs : SideOK F f pb sz n) (w : World) (s : St) (hp : PA w pb sz s) (x : Lx.Tk) (r : List Lx.Tk) (hw : s.ws = x :: r) (hn : r.length ≤ n)
  (PL : Nat → Prop) (hPL : ∀ g, PL g → g ≠ pb) (t : Tm) (l : List Value) (ht : HT w PL t l) :
  Calls Tryz.prog 126 #[.pointer (some ⟨pb, 0, none⟩), .agg l.toArray, sideV F pb] w (TermEnd pb sz (fun g => PL g ∨ w.heap.size ≤ g) w (both f t s)) := by
 have hfld := tok_field1
 have hplt := hp.lt
 have l1 := (Lies.new w 33 l.toArray).alloc (.cells zC 33)
 have l2 := Lies.new' (w.alloc (.cells l.toArray 33)) 33 zC (N := w.heap.size + 1) (by simp)
 have hp2 := (hp.alloc (.cells l.toArray 33)).alloc (.cells zC 33)
 unfold sideV
 unfold zC at l1 l2 hp2
 go_enter Tryz.func126, Tryz.ntmps126
 go_wp2_with fail
 refine (take_any _ pb sz s hp2 x r hw).mono ?_
 rintro e w2 ⟨rfl, hg⟩
 have l4 := hg.kp.lies l1 (by omega)
 have l5 := hg.kp.lies l2 (by omega)
 clear l1 l2
 unfold tkV
 go_wp2_with fail
 refine wp_region_held_drew (S := fun w' => Lies w' w.heap.size 33 l.toArray) (by kernel_rfl) l4 (fun hH => ?_)
 refine wpAnyH_take (i := 0) (oi := _) (v := .pointer (some ⟨w.heap.size, 1, none⟩)) rfl (by kernel_rfl) (by kernel_rfl) (by kernel_rfl) (fun _ _ _ h => h) (Or.inl ⟨by rfl, ?_⟩) hH ?_
 ·intro w' hS
  go_simp
 simp only [Act.put, List.setIfInBounds_toArray]
 refine wpAnyH_take (i := 1) (oi := _) (v := .int .i64 (t.pos : Int)) rfl (by kernel_rfl) (by kernel_rfl) (by kernel_rfl) (fun _ _ _ h => h) (Or.inl ⟨by rfl, ?_⟩) hH ?_
 ·intro w' hS
  have hc : w'.cell? ⟨w.heap.size, 1, none⟩ = some (.int .i64 (t.pos : Int)) := by rw [Lies.cell hS]; simpa using ht.at_
  go_simp
 simp only [Act.put]
 refine wpAnyH_take (i := 2) (oi := _) (v := .string (ba x.t)) rfl (by kernel_rfl) (by kernel_rfl) (by kernel_rfl) (fun _ _ _ h => h) (Or.inl ⟨by rfl, ?_⟩) hH ?_
 ·intro w' hS
  go_simp
 simp only [Act.put]
 refine wpAnyH_take (i := 3) (oi := _) (v := .agg l.toArray) rfl (by kernel_rfl) (by kernel_rfl) (by kernel_rfl) (fun _ _ _ h => h) (yieldsIf_load_mid (by rfl) 33 (.tmp 4) rfl w.heap.size 0 rfl l _ (fun w' hS => Lies.range hS) Tryz.underlying33 rfl (by rw [sz39, ht.len])) hH ?_
 simp only [Act.put]
 refine wpAnyH_take (i := 4) (oi := _) (v := sideV F pb) rfl (by kernel_rfl) (by kernel_rfl) (by kernel_rfl) (fun _ _ _ h => h) (Or.inl ⟨by rfl, ?_⟩) hH ?_
 ·intro w' hS
  unfold sideV
  go_simp
 unfold sideV
 simp only [Act.put]
 refine wpAnyH_ready (rs := [5]) (by kernel_rfl) (by simp) ?_
 refine AllReadyH.cons (o := _) rfl (fun K hK => ?_) AllReadyH.nil
 obtain ⟨hcf, hside⟩ := hs
 go_simp
 refine (hside _ (take s) ?_ ?_).mono ?_
 ·exact hg.pa
 ·unfold take; rw [hw]; exact hn
 rintro e w3 ⟨l3, rfl, ht3, hg3⟩
 have l6 := hg3.kp.lies l4 (by omega)
 have l7 := hg3.kp.lies l5 (by omega)
 dsimp only
 refine hK.out _ _ l6 (fun hH3 => ?_)
 clear hK K
 try simp only [Act.put, List.setIfInBounds_toArray, List.set_cons_zero, List.set_cons_succ]
 refine wpAnyH_ready (rs := [6]) (by kernel_rfl) (by simp) ?_
 refine AllReadyH.cons (o := _) rfl (fun K hK => ?_) AllReadyH.nil
 rw [if_pos (by rfl)]
 obtain ⟨ie, hie, hiz, his⟩ := info39
 have hll : ∀ z ∈ [l, l3], z.length = 21 := by
  intro z hz
  simp only [List.mem_cons, List.not_mem_nil, or_false] at hz
  rcases hz with rfl | rfl
  ·exact ht.len
  ·exact ht3.len
 obtain ⟨M, hM⟩ : ∃ M, M = [l, l3].flatten := ⟨_, rfl⟩
 have HM := Lib.hid hM
 clear hM
 refine wp_buildSlice 24 33 2 _ rfl M.toArray ie (.agg zC) Tryz.underlying24 hie hiz (by rw [his]; decide) (by rw [his]; decide) (by rw [his, HM.out, Array.toList_map]; exact fill_terms [l, l3] hll ((Array.range (2 * 21)).map ((Value.agg zC).cells[· % (Value.agg zC).cells.size]!)) (by simp)) ?_
 have l8 := l6.alloc (.cells M.toArray 33)
 have l9 := l7.alloc (.cells M.toArray 33)
 refine hK.out _ _ l8 (fun hH4 => ?_)
 clear hK K
 try simp only [Act.put, List.setIfInBounds_toArray]
 refine wpAnyH_ready (rs := [7]) (by kernel_rfl) (by simp) ?_
 refine AllReadyH.cons (o := _) rfl (fun K hK => ?_) AllReadyH.nil
 go_simp
 refine hK.out _ _ l8 (fun hH5 => ?_)
 clear hK K
 try simp only [Act.put, List.setIfInBounds_toArray, List.set_cons_zero, List.set_cons_succ]
 refine wpAnyH_ready (rs := [8]) (by kernel_rfl) (by simp) ?_
 refine AllReadyH.cons (o := _) rfl (fun K hK => ?_) AllReadyH.nil
 rw [if_pos (by rfl)]
 refine wp_store_row 33 _ _ rfl (w.heap.size + 1) _ rfl rfl 33 _ l9 sz39 rfl (by kernel_rfl) ?_
 refine hK.out _ _ (l8.farRow _ (by omega)) (fun hH6 => ?_)
 clear hK K
 refine wpAnyH_done (by kernel_rfl) ?_ _
 go_wp2
 have hk3 : Kp pb w w3 := ((((Kp.refl pb w).alloc _).alloc _).trans (hg.kp.drew)).trans hg3.kp
 have hsz2 : w.heap.size + 2 ≤ w2.heap.size := by have := hg.kp.size; simp at this; omega
 have hsz3 : w2.heap.size ≤ w3.heap.size := hg3.kp.size
 refine bodyPost_ret (v := .agg (tmC 10 t.pos x.t [] 0 (.slice (some ⟨w3.heap.size, 0, none⟩) 2 2) (.slice none 0 0)).toArray) (results_cell_row rfl _ _ (w.heap.size + 1) 33 _ (0, 0) _ rfl (l9.setRow _) Tryz.underlying33 rfl sz39) rfl ?_
 have hL : HT ((w3.alloc (.cells M.toArray 33)).setRow (w.heap.size + 1) (tmC 10 t.pos x.t [] 0 (.slice (some ⟨w3.heap.size, 0, none⟩) 2 2) (.slice none 0 0)).toArray) (fun g => PL g ∨ w.heap.size ≤ g) t l := by
  refine HT.mono (HT.setRow (HT.later (HT.kp ht.lt hk3 (fun g hg' => hPL g hg'.1)) (below_new _ _)) (fun g hg' => by have := hg'.2; omega) _) (fun g hg' _ => .inl hg'.1)
 have hR : HT ((w3.alloc (.cells M.toArray 33)).setRow (w.heap.size + 1) (tmC 10 t.pos x.t [] 0 (.slice (some ⟨w3.heap.size, 0, none⟩) 2 2) (.slice none 0 0)).toArray) (fun g => PL g ∨ w.heap.size ≤ g) (f (take s)).1 l3 := by
  refine HT.mono (HT.setRow (HT.later ht3 (below_new _ _)) (fun g (hg' : w2.heap.size ≤ g) => by omega) _) (fun g (hg' : w2.heap.size ≤ g) _ => .inr (by omega))
 have hrw : Rw ((w3.alloc (.cells M.toArray 33)).setRow (w.heap.size + 1) (tmC 10 t.pos x.t [] 0 (.slice (some ⟨w3.heap.size, 0, none⟩) 2 2) (.slice none 0 0)).toArray) (fun g => PL g ∨ w.heap.size ≤ g) 33 21 (.slice (some ⟨w3.heap.size, 0, none⟩) 2 2) [l, l3] := by
  have h1 := Rw.lit w3 (fun g => w2.heap.size ≤ g) 33 21 [l, l3] hll rfl hsz3 (n := 2) rfl (by unfold maxLen; omega)
  rw [← HM.out] at h1
  exact ⟨h1.1, (h1.2.same (fun g (hg' : w2.heap.size ≤ g) _ => heap_setRow _ _ _ _ (by omega))).mono (fun g (hg' : w2.heap.size ≤ g) _ => .inr (by omega))⟩
 refine ⟨_, rfl, ?_, ?_⟩
 ·have e : (both f t s).1 = .mk 10 t.pos x.t [] 0 [t, (f (take s)).1] [] := by unfold both; rw [hd_cons hw]
  rw [e]
  refine HT.kids 10 t.pos x.t [] 0 hrw rfl ?_
  intro i t' c h1 h2
  match i, h1, h2 with
  | 0, h1, h2 => simp at h1 h2; subst h1 h2; exact hL
  | 1, h1, h2 => simp at h1 h2; subst h1 h2; exact hR
  | i + 2, h1, h2 => simp at h1
 ·exact ⟨(hg3.pa.alloc _).setRow (by omega) _, (hk3.alloc _).setRow (by omega) _⟩
end Go.Proofs.YtmodmojocclmaaaGreatDoor

/- Contracts of what reads one side or two, or any number, with signs between. -/
namespace Go.Proofs.YtmodmojocclmaaaGreatDoor
open Go.RowKit Pz

theorem Off.kp {pb : Nat} {v : Value} (h : Off pb v) : ∀ g o n c, v = .slice (some ⟨g, o, none⟩) n c → g ≠ pb := h

theorem once_no {f : St → Tm × St} {ss : List Str} {s : St} (h : isT ss (f s).2 = false) : once f ss s = f s := by unfold once; rw [h]; rfl
theorem once_yes {f : St → Tm × St} {ss : List Str} {s : St} (h : isT ss (f s).2 = true) : once f ss s = both f (f s).1 (f s).2 := by unfold once; rw [if_pos h]

set_option maxRecDepth 100000 in
set_option maxHeartbeats 4000000 in
theorem once_any (F : Nat) (f : St → Tm × St) (pb sz n : Nat) (hs : SideOK F f pb sz n) (hf : Nice f) (w : World) (s : St) (hp : PA w pb sz s) (hn : s.ws.length ≤ n) (v : Value) (ss : List Str) (hv : Sl w v ss) (hoff : Off pb v) :
  Calls Tryz.prog 117 #[.pointer (some ⟨pb, 0, none⟩), sideV F pb, v] w (TermEnd pb sz (fun g => w.heap.size ≤ g) w (once f ss s)) := by
 have hplt := hp.lt
 have l0 := Lies.new w 33 zC
 have hp1 := hp.alloc (.cells zC 33)
 obtain ⟨hcf, hside⟩ := id hs
 unfold sideV
 unfold zC at l0 hp1
 go_enter Tryz.func117, Tryz.ntmps117
 go_wp2_with fail
 refine (hside _ s hp1 hn).mono ?_
 rintro e w1 ⟨l, rfl, ht, hg⟩
 have l1 := hg.kp.lies l0 (by omega)
 have lz := Lies.new w1 33 zC
 unfold zC at lz
 have hlen := ht.len
 have HL := Lib.hid hlen
 clear hlen l0
 go_wp2_with (first | (refine wpList_store_row rfl 33 (.tmp 7) (.tmp 9) rfl _ _ rfl rfl 33 _ lz (by rw [sz39]; simp [HL.out]) (by simp [HL.out]) ht.one ?_; rw [set_new rfl]))
 have l2 := l1.alloc (.cells l.toArray 33)
 have lb := Lies.new w1 33 l.toArray
 have hpa := hg.pa.alloc (.cells l.toArray 33)
 have hsz1 : w.heap.size + 1 ≤ w1.heap.size := by have := hg.kp.size; simp at this; omega
 have hk0 : Kp pb w w1 := ((Kp.refl pb w).alloc _).trans hg.kp
 have hv1 : Sl (w1.alloc (.cells l.toArray 33)) v ss := (hv.kp hk0 hoff).later (below_new _ _)
 have hi := is_any v ss _ pb sz (f s).2 hpa hv1
 cases hT : isT ss (f s).2
 ·rw [hT] at hi
  have HI := Lib.hid hi
  have ho := once_no hT
  have HO := Lib.hid ho
  clear hi hT ho l1 lz
  refine HI.out.mono ?_
  rintro e w2 ⟨rfl, hb⟩
  have l3 := l2.later hb
  have l4 := lb.later hb
  go_wp2_with (first | (refine wpList_load_row rfl 33 (.tmp 7) rfl _ rfl 33 _ (0, 0) _ l4 Tryz.underlying33 rfl (by rw [sz39]; simp [HL.out]) ?_) | (refine wpList_store_row rfl 33 (.tmp 6) (.tmp 19) rfl _ _ rfl rfl 33 _ l3 (by rw [sz39]; simp [HL.out]) (by simp [HL.out]) ht.one ?_))
  refine bodyPost_ret (v := .agg l.toArray) (results_cell_row rfl _ _ w.heap.size 33 _ (0, 0) _ rfl (l3.setRow _) Tryz.underlying33 rfl (by rw [sz39]; simp [HL.out])) rfl ?_
  rw [HO.out]
  refine ⟨_, rfl, ?_, ?_⟩
  ·exact HT.mono (HT.setRow ((ht.later (below_new _ _)).later hb) (fun g hg' => by simp at hg'; omega) _) (fun g hg' _ => by simp at hg'; omega)
  ·exact ⟨(hpa.below hb).setRow hplt _, ((hk0.alloc _).below hb (by simp; omega)).setRow (Nat.le_refl _) _⟩
 ·rw [hT] at hi
  have HI := Lib.hid hi
  have ho := once_yes hT
  have HO := Lib.hid ho
  obtain ⟨x, r, hw⟩ := ws_cons (isT_pos hT)
  have hr : r.length ≤ n := by have := (hf s).1; rw [hw] at this; simp at this; omega
  clear hi hT ho l1 lz
  refine HI.out.mono ?_
  rintro e w2 ⟨rfl, hb⟩
  have l3 := l2.later hb
  have l4 := lb.later hb
  have ht2 := (ht.lt.later (below_new w1 (.cells l.toArray 33))).later hb
  have hbo := both_any F f pb sz n hs w2 (f s).2 (hpa.below hb) x r hw hr _ (fun g hg' => by have := hg'.1; simp at this; omega) (f s).1 l ht2
  have HB := Lib.hid hbo
  clear hbo
  unfold sideV at HB
  go_wp2_with (first | (refine wpList_load_row rfl 33 (.tmp 7) rfl _ rfl 33 _ (0, 0) _ l4 Tryz.underlying33 rfl (by rw [sz39]; simp [HL.out]) ?_))
  refine HB.out.mono ?_
  rintro e w3 ⟨l5, rfl, ht5, hg5⟩
  have l6 := hg5.kp.lies l3 (by omega)
  have l7 := hg5.kp.lies l4 (by omega)
  have hlen5 := ht5.len
  have HL5 := Lib.hid hlen5
  clear hlen5 l3 l4
  go_wp2_with (first | (refine wpList_store_row rfl 33 (.tmp 7) (.tmp 18) rfl _ _ rfl rfl 33 _ l7 (by rw [sz39]; simp [HL5.out]) (by simp [HL5.out, HL.out]) ht5.one ?_) | (refine wpList_load_row rfl 33 (.tmp 7) rfl _ rfl 33 _ (0, 0) _ (l7.setRow _) Tryz.underlying33 rfl (by rw [sz39]; simp [HL5.out]) ?_) | (refine wpList_store_row rfl 33 (.tmp 6) (.tmp 19) rfl _ _ rfl rfl 33 _ (l6.farRow _ (by omega)) (by rw [sz39]; simp [HL5.out]) (by simp [HL5.out]) ht5.one ?_))
  refine bodyPost_ret (v := .agg l5.toArray) (results_cell_row rfl _ _ w.heap.size 33 _ (0, 0) _ rfl ((l6.farRow _ (by omega)).setRow _) Tryz.underlying33 rfl (by rw [sz39]; simp [HL5.out])) rfl ?_
  rw [HO.out]
  have hsz2 : w1.heap.size + 1 ≤ w2.heap.size := by have := hb.size; simp at this; omega
  refine ⟨_, rfl, ?_, ?_⟩
  ·refine HT.mono (HT.setRow (HT.setRow ht5 (fun g hg' => ?_) _) (fun g hg' => ?_) _) (fun g hg' _ => ?_)
   ·rcases hg' with hg' | hg'
    ·have := hg'.2; omega
    ·omega
   ·rcases hg' with hg' | hg'
    ·have := hg'.1; simp at this; omega
    ·omega
   ·rcases hg' with hg' | hg'
    ·have := hg'.1; simp at this; omega
    ·omega
  ·exact ⟨(hg5.pa.setRow (by omega) _).setRow hplt _, (((((hk0.alloc _).below hb (by simp; omega)).trans hg5.kp).setRow (by omega) _).setRow (Nat.le_refl _) _)⟩
end Go.Proofs.YtmodmojocclmaaaGreatDoor

/- How deep a term is, read off memory. -/
namespace Go.Proofs.YtmodmojocclmaaaGreatDoor
open Go.RowKit Pz

def rowA (sz off : Nat) : Value → List Addr
 | .slice (some a) n _ => (List.range n).map fun i => ⟨a.block, a.off + i * sz + off, none⟩
 | _ => []
def cellV (w : World) (a : Addr) (k : Nat) : Value := (w.cell? ⟨a.block, a.off + k, none⟩).getD undef
def kidsA (w : World) (a : Addr) : List Addr := rowA 21 0 (cellV w a 5) ++ rowA 23 2 (cellV w a 6)
def maxL : List Nat → Nat
 | [] => 0
 | x :: r => max x (maxL r)
def sumL : List Nat → Nat
 | [] => 0
 | x :: r => x + sumL r
def dA (w : World) : Nat → Addr → Nat
 | 0, _ => 0
 | n + 1, a => 1 + maxL ((kidsA w a).map (dA w n))
def nA (w : World) : Nat → Addr → Nat
 | 0, _ => 0
 | n + 1, a => 1 + sumL ((kidsA w a).map (nA w n))
def SlOk (w : World) (p : Addr) : Prop := ∃ v, w.cell? p = some v ∧ (v = .slice none 0 0 ∨ ∃ g n c, v = .slice (some ⟨g, 0, none⟩) n c ∧ n ≤ c ∧ c ≤ maxLen)
def OkT (w : World) : Nat → Addr → Prop
 | 0, _ => True
 | n + 1, a => a.spot = none ∧ AtCells w a ∧ SlOk w ⟨a.block, a.off + 5, none⟩ ∧ SlOk w ⟨a.block, a.off + 6, none⟩ ∧ ∀ b ∈ kidsA w a, OkT w n b

theorem AtCells.lt {w : World} {a : Addr} (h : AtCells w a) : a.block < w.heap.size := by
 obtain ⟨c, t, h⟩ := h
 exact (Array.getElem?_eq_some_iff.1 h).1
theorem cellV_keep {w w' : World} {a : Addr} (h : w'.heap[a.block]? = w.heap[a.block]?) (k : Nat) : cellV w' a k = cellV w a k := by
 unfold cellV
 rw [World.cell?_of_block (w := w) (a := ⟨a.block, a.off + k, none⟩) h]
theorem kidsA_keep {w w' : World} {a : Addr} (h : w'.heap[a.block]? = w.heap[a.block]?) : kidsA w' a = kidsA w a := by
 unfold kidsA
 rw [cellV_keep h, cellV_keep h]
theorem okT_keep {w w' : World} (hk : ∀ g, g < w.heap.size → w'.heap[g]? = w.heap[g]?) : ∀ n a, OkT w n a → OkT w' n a ∧ dA w' n a = dA w n a ∧ nA w' n a = nA w n a
 | 0, _, _ => ⟨trivial, rfl, rfl⟩
 | n + 1, a, ⟨h0, h1, h2, h3, h4⟩ => by
  have hb := hk _ h1.lt
  have ek : kidsA w' a = kidsA w a := kidsA_keep hb
  have hs : ∀ k, SlOk w ⟨a.block, k, none⟩ → SlOk w' ⟨a.block, k, none⟩ := fun k ⟨v, hv, h⟩ => ⟨v, (World.cell?_of_block (w := w) (a := ⟨a.block, k, none⟩) hb).trans hv, h⟩
  refine ⟨⟨h0, h1.keep hb, hs _ h2, hs _ h3, fun b hb' => ?_⟩, ?_, ?_⟩
  ·rw [ek] at hb'
   exact (okT_keep hk n b (h4 b hb')).1
  ·simp only [dA, ek]
   rw [List.map_congr_left fun b hb' => (okT_keep hk n b (h4 b hb')).2.1]
  ·simp only [nA, ek]
   rw [List.map_congr_left fun b hb' => (okT_keep hk n b (h4 b hb')).2.2]

theorem own_cells {w : World} {P : Nat → Prop} {e : TypeId} {size n : Nat} {v : Value} {xs : List Value} (h : OwnP w P e size v n xs) :
  (v = .slice none 0 0 ∧ n = 0) ∨ ∃ g cap, v = .slice (some ⟨g, 0, none⟩) n cap ∧ n ≤ cap ∧ cap ≤ maxLen ∧ (∃ c t, w.heap[g]? = some (.cells c t (0, 0))) ∧ ∀ j u, xs[j]? = some u → w.cell? ⟨g, j, none⟩ = some u := by
 rcases h.2 with h0 | ⟨g, cap, cur, h1, h2, h3, h4, h5, h6, h7⟩
 ·exact .inl h0
 ·refine .inr ⟨g, cap, h1, h4, h5, ⟨_, _, h3⟩, fun j u hj => ?_⟩
  have hl : Lies w g e cur := h3
  rw [hl.cell]
  rw [← h7] at hj
  have := (List.getElem?_eq_some_iff.1 hj)
  obtain ⟨hlt, he⟩ := this
  rw [List.getElem_take] at he
  rw [List.length_take] at hlt
  have hl2 : j < cur.toList.length := by omega
  rw [← Array.getElem?_toList, List.getElem?_eq_getElem hl2]
  exact congrArg some he
theorem flat_idx {α : Type} (sz : Nat) : ∀ (ls : List (List α)), (∀ l ∈ ls, l.length = sz) → ∀ (i j : Nat) (l : List α) (u : α), ls[i]? = some l → l[j]? = some u → ls.flatten[i * sz + j]? = some u := by
 intro ls
 induction ls with
 | nil => intro _ i j l u h; simp at h
 | cons x r ih =>
  intro hl i j l u h hu
  have hx : x.length = sz := hl x (by simp)
  rw [List.flatten_cons]
  cases i with
  | zero =>
   have : x = l := by simpa using h
   subst this
   rw [List.getElem?_append_left (by have := (List.getElem?_eq_some_iff.1 hu).1; omega)]
   simpa using hu
  | succ i =>
   rw [List.getElem?_append_right (by rw [hx, Nat.succ_mul]; omega)]
   rw [show (i + 1) * sz + j - x.length = i * sz + j by rw [hx, Nat.succ_mul]; omega]
   exact ih (fun y hy => hl y (by simp [hy])) i j l u (by simpa using h) hu

theorem max_kids {w : World} {n : Nat} : ∀ (ts : List Tm) (l : List Addr), l.length = ts.length → (∀ (i : Nat) a t, l[i]? = some a → ts[i]? = some t → dA w n a = min n t.deep) → maxL (l.map (dA w n)) = min n (deepL ts)
 | [], [], _, _ => by simp [maxL, deepL]
 | [], _ :: _, h, _ => by simp at h
 | _ :: _, [], h, _ => by simp at h
 | t :: ts, a :: l, h, H => by
  have h1 := max_kids ts l (by simpa using h) (fun i a t h1 h2 => H (i + 1) a t (by simpa using h1) (by simpa using h2))
  have h2 := H 0 a t rfl rfl
  simp only [List.map_cons, maxL, deepL, h1, h2]
  omega
theorem max_arms {w : World} {n : Nat} : ∀ (ts : List Arm) (l : List Addr), l.length = ts.length → (∀ (i : Nat) a t, l[i]? = some a → ts[i]? = some t → dA w n a = min n t.2.2.deep) → maxL (l.map (dA w n)) = min n (deepA ts)
 | [], [], _, _ => by simp [maxL, deepA]
 | [], _ :: _, h, _ => by simp at h
 | _ :: _, [], h, _ => by simp at h
 | t :: ts, a :: l, h, H => by
  have h1 := max_arms ts l (by simpa using h) (fun i a t h1 h2 => H (i + 1) a t (by simpa using h1) (by simpa using h2))
  have h2 := H 0 a t rfl rfl
  simp only [List.map_cons, maxL, deepA, h1, h2]
  omega
theorem sum_kids {w : World} {n : Nat} : ∀ (ts : List Tm) (l : List Addr), l.length = ts.length → (∀ (i : Nat) a t, l[i]? = some a → ts[i]? = some t → nA w n a ≤ t.size) → sumL (l.map (nA w n)) ≤ sizeL ts
 | [], [], _, _ => by simp [sumL, sizeL]
 | [], _ :: _, h, _ => by simp at h
 | _ :: _, [], h, _ => by simp at h
 | t :: ts, a :: l, h, H => by
  have h1 := sum_kids ts l (by simpa using h) (fun i a t h1 h2 => H (i + 1) a t (by simpa using h1) (by simpa using h2))
  have h2 := H 0 a t rfl rfl
  simp only [List.map_cons, sumL, sizeL]
  omega
theorem sum_arms {w : World} {n : Nat} : ∀ (ts : List Arm) (l : List Addr), l.length = ts.length → (∀ (i : Nat) a t, l[i]? = some a → ts[i]? = some t → nA w n a ≤ t.2.2.size) → sumL (l.map (nA w n)) ≤ sizeA ts
 | [], [], _, _ => by simp [sumL, sizeA]
 | [], _ :: _, h, _ => by simp at h
 | _ :: _, [], h, _ => by simp at h
 | t :: ts, a :: l, h, H => by
  have h1 := sum_arms ts l (by simpa using h) (fun i a t h1 h2 => H (i + 1) a t (by simpa using h1) (by simpa using h2))
  have h2 := H 0 a t rfl rfl
  simp only [List.map_cons, sumL, sizeA]
  omega
theorem maxL_append : ∀ a b, maxL (a ++ b) = max (maxL a) (maxL b)
 | [], b => by simp [maxL]
 | x :: a, b => by simp only [List.cons_append, maxL, maxL_append a b]; omega
theorem sumL_append : ∀ a b, sumL (a ++ b) = sumL a + sumL b
 | [], b => by simp [sumL]
 | x :: a, b => by simp only [List.cons_append, sumL, sumL_append a b]; omega

def ReadsAt (w : World) (a : Addr) (l : List Value) : Prop := ∀ i u, l[i]? = some u → w.cell? ⟨a.block, a.off + i, none⟩ = some u
theorem rowA_len {sz off n : Nat} {g c : Nat} : (rowA sz off (.slice (some ⟨g, 0, none⟩) n c)).length = n := by simp [rowA]
theorem rowA_get {sz off n : Nat} {g c i : Nat} {a : Addr} (h : (rowA sz off (.slice (some ⟨g, 0, none⟩) n c))[i]? = some a) : i < n ∧ a = ⟨g, i * sz + off, none⟩ := by
 simp only [rowA, List.getElem?_map] at h
 rcases Nat.lt_or_ge i n with hi | hi
 ·rw [List.getElem?_range hi] at h
  simp only [Option.map_some, Option.some.injEq, Nat.zero_add] at h
  exact ⟨hi, h.symm⟩
 ·rw [List.getElem?_eq_none (by simpa using hi)] at h
  cases h
theorem deep_ht {w : World} {P : Nat → Prop} {t : Tm} {l : List Value} (h : HT w P t l) : ∀ (a : Addr), a.spot = none → AtCells w a → ReadsAt w a l → ∀ n, OkT w n a ∧ dA w n a = min n t.deep ∧ nA w n a ≤ t.size := by
 induction h with
 | mk k pos nm pm m kids arms kv av kc vv bc hk hkl hks hvl hbl ha hav has ih1 ih2 =>
  intro a h0 hat hr n
  cases n with
  | zero => exact ⟨trivial, by simp [dA], by simp [nA]⟩
  | succ n =>
   have c5 : w.cell? ⟨a.block, a.off + 5, none⟩ = some kv := hr 5 kv rfl
   have c6 : w.cell? ⟨a.block, a.off + 6, none⟩ = some av := hr 6 av rfl
   have e5 : cellV w a 5 = kv := by unfold cellV; rw [c5]; rfl
   have e6 : cellV w a 6 = av := by unfold cellV; rw [c6]; rfl
   have al : (List.zipWith (fun (a : Arm) (x : Value × List Value) => Value.string (ba a.1) :: x.1 :: x.2) arms (vv.zip bc)).length = arms.length := by simp [hvl, hbl]
   have H1 : SlOk w ⟨a.block, a.off + 5, none⟩ ∧ (rowA 21 0 kv).length = kids.length ∧ ∀ (i : Nat) b t, (rowA 21 0 kv)[i]? = some b → kids[i]? = some t → OkT w n b ∧ dA w n b = min n t.deep ∧ nA w n b ≤ t.size := by
    rcases own_cells hk.2 with ⟨rfl, hz⟩ | ⟨g, cap, rfl, hc1, hc2, hc3, hc4⟩
    ·exact ⟨⟨_, c5, .inl rfl⟩, by simp [rowA]; omega, fun i b t hb => by simp [rowA] at hb⟩
    ·refine ⟨⟨_, c5, .inr ⟨_, _, _, rfl, hc1, hc2⟩⟩, by rw [rowA_len, hkl], fun i b t hb ht => ?_⟩
     obtain ⟨hi, rfl⟩ := rowA_get hb
     obtain ⟨c, hc⟩ : ∃ c, kc[i]? = some c := ⟨_, List.getElem?_eq_getElem hi⟩
     refine ih1 i t c ht hc ⟨g, i * 21 + 0, none⟩ rfl hc3 (fun j u hj => ?_) n
     have := hc4 _ _ (flat_idx 21 kc hk.1 i j c u hc hj)
     simpa [Nat.add_assoc] using this
   have H2 : SlOk w ⟨a.block, a.off + 6, none⟩ ∧ (rowA 23 2 av).length = arms.length ∧ ∀ (i : Nat) b t, (rowA 23 2 av)[i]? = some b → arms[i]? = some t → OkT w n b ∧ dA w n b = min n t.2.2.deep ∧ nA w n b ≤ t.2.2.size := by
    rcases own_cells ha.2 with ⟨rfl, hz⟩ | ⟨g, cap, rfl, hc1, hc2, hc3, hc4⟩
    ·exact ⟨⟨_, c6, .inl rfl⟩, by simp [rowA]; omega, fun i b t hb => by simp [rowA] at hb⟩
    ·refine ⟨⟨_, c6, .inr ⟨_, _, _, rfl, hc1, hc2⟩⟩, by rw [rowA_len, al], fun i b t hb ht => ?_⟩
     obtain ⟨hi, rfl⟩ := rowA_get hb
     have hia : i < arms.length := by omega
     obtain ⟨c, hc⟩ : ∃ c, bc[i]? = some c := ⟨_, List.getElem?_eq_getElem (by omega)⟩
     obtain ⟨v, hv⟩ : ∃ v, vv[i]? = some v := ⟨_, List.getElem?_eq_getElem (by omega)⟩
     refine ih2 i t c ht hc ⟨g, i * 23 + 2, none⟩ rfl hc3 (fun j u hj => ?_) n
     have hz : (List.zipWith (fun (a : Arm) (x : Value × List Value) => Value.string (ba a.1) :: x.1 :: x.2) arms (vv.zip bc))[i]? = some (Value.string (ba t.1) :: v :: c) := by
      rw [List.getElem?_zipWith, ht, (List.getElem?_zip_eq_some (z := (v, c))).2 ⟨hv, hc⟩]
     have := hc4 _ _ (flat_idx 23 _ ha.1 i (j + 2) _ u hz (by simpa using hj))
     have e : i * 23 + 2 + j = i * 23 + (j + 2) := by omega
     show w.cell? ⟨g, i * 23 + 2 + j, none⟩ = some u
     rw [e]
     exact this
   have ek : kidsA w a = rowA 21 0 kv ++ rowA 23 2 av := by unfold kidsA; rw [e5, e6]
   refine ⟨⟨h0, hat, H1.1, H2.1, fun b hb => ?_⟩, ?_, ?_⟩
   ·rw [ek, List.mem_append] at hb
    rcases hb with hb | hb
    ·obtain ⟨i, hi⟩ := List.mem_iff_getElem?.1 hb
     have hlt := (List.getElem?_eq_some_iff.1 hi).1
     exact (H1.2.2 i b _ hi (List.getElem?_eq_getElem (by omega))).1
    ·obtain ⟨i, hi⟩ := List.mem_iff_getElem?.1 hb
     have hlt := (List.getElem?_eq_some_iff.1 hi).1
     exact (H2.2.2 i b _ hi (List.getElem?_eq_getElem (by omega))).1
   ·simp only [dA, ek, List.map_append, maxL_append, Tm.deep]
    rw [max_kids kids _ H1.2.1 (fun i b t h1 h2 => (H1.2.2 i b t h1 h2).2.1), max_arms arms _ H2.2.1 (fun i b t h1 h2 => (H2.2.2 i b t h1 h2).2.1)]
    omega
   ·simp only [nA, ek, List.map_append, sumL_append, Tm.size]
    have s1 := sum_kids kids _ H1.2.1 (fun i b t h1 h2 => (H1.2.2 i b t h1 h2).2.2)
    have s2 := sum_arms arms _ H2.2.1 (fun i b t h1 h2 => (H2.2.2 i b t h1 h2).2.2)
    omega
end Go.Proofs.YtmodmojocclmaaaGreatDoor
