/- The machine of package source: its methods, told by its state. -/
import Derived.Test.YtmodmojocclmaaaGreatDoorSoA
namespace Go.Proofs.YtmodmojocclmaaaGreatDoor.K
open Go Go.RowKit
namespace So

section
variable {w0 : World} {mb : Nat} {H : Mem} {s : St} {w : World}
theorem MR.lt {tv ev v0 v1 v2 v3 fv hv cv iv lv : Value} (h : MR w0 mb H s tv ev v0 v1 v2 v3 fv hv cv iv lv w) : mb < w.heap.size := h.lies.lt
theorem MS.lt (h : MS w0 mb H s w) : mb < w.heap.size := by
 obtain ⟨_, _, _, _, _, _, _, _, _, _, _, h⟩ := h
 exact h.lt
theorem MS.sub (h : MS w0 mb H s w) : Sub H w := by
 obtain ⟨_, _, _, _, _, _, _, _, _, _, _, h⟩ := h
 exact h.core.sub
theorem MS.later (h : MS w0 mb H s w) {w' : World} (hb : Below w.heap.size w w') : MS w0 mb H s w' := by
 obtain ⟨tv, ev, v0, v1, v2, v3, fv, hv, cv, iv, lv, h⟩ := h
 exact ⟨tv, ev, v0, v1, v2, v3, fv, hv, cv, iv, lv, h.core.later hb, h.lies.later hb, h.at_, h.above, h.hs, h.input⟩
theorem MS.drew (h : MS w0 mb H s w) : MS w0 mb H s w.drew := h.later (Below.refl _ _).drew
theorem MS.keep (h : MS w0 mb H s w) {w' : World} (hb : Below w.heap.size w w') {n : Nat} {o : Obj} (hn : w.heap.size ≤ n) (ho : w'.heap[n]? = some o) : MLe H (ins H n o) ∧ MS w0 mb (ins H n o) s w' := by
 obtain ⟨tv, ev, v0, v1, v2, v3, fv, hv, cv, iv, lv, h⟩ := h
 obtain ⟨k1, k2⟩ := h.core.bt1 (Bt.of_below hb) hn ho h.lt
 exact ⟨k1, tv, ev, v0, v1, v2, v3, fv, hv, cv, iv, lv, k2, h.lies.later hb, h.at_.le k1 (Nat.le_refl _), h.above.le k1 (Nat.le_refl _), h.hs.le k1 (Nat.le_refl _), h.input.le k1⟩
theorem MS.alloc (h : MS w0 mb H s w) (o : Obj) : MLe H (ins H w.heap.size o) ∧ MS w0 mb (ins H w.heap.size o) s (w.alloc o) := h.keep (below_new w o) (Nat.le_refl _) (heap_alloc_new w o)
def MS.N (s : St) : Nat := s.cells.length
abbrev VS (H : Mem) (s : St) (v : Val) (l : List Value) : Prop := VV H s.cells.length v l
abbrev ES (H : Mem) (s : St) (e : Env) (x : Value) : Prop := EV H s.cells.length e x

theorem answer_any (h : MS w0 mb H s w) {v : Val} {l : List Value} (hv : VV H s.cells.length v l) : Calls Tryz.prog 31 #[pt mb, .agg l.toArray] w (MEnd w0 mb H (s.has v)) := by
 obtain ⟨tv, ev, v0, v1, v2, v3, fv, hv', cv, iv, lv, h⟩ := h
 obtain ⟨k, n, c, f, rfl, hf⟩ := hv.four
 exact (answer_raw w mb tv ev v0 v1 v2 v3 fv hv' cv iv lv s.out s.steps s.konts k n c f hf h.lies).mono fun e w' ⟨h1, h2, h3⟩ => ⟨h1, H, MLe.refl H, _, _, _, _, _, _, _, _, _, _, _, h.core.bt h2, h3, ⟨rfl, hv⟩, h.above, h.hs, h.input⟩
theorem AtV.ones {H : Mem} {N : Nat} {a : Option (Tm × Env)} {v : Val} {tv ev : Value} {l : List Value} (h : AtV H N a v tv ev l) : l.length = 4 ∧ ∀ u ∈ l, u.oneCell' = true := by
 unfold AtV at h
 split at h
 ·exact h.2.2
 ·obtain ⟨k, n, c, f, rfl, hf⟩ := h.2.four
  refine ⟨rfl, fun u hu => ?_⟩
  simp only [List.mem_cons, List.not_mem_nil, or_false] at hu
  rcases hu with rfl | rfl | rfl | rfl
  ·rfl
  ·rfl
  ·rfl
  ·rcases hf with rfl | ⟨_, _, rfl⟩ <;> rfl
theorem at_any (h : MS w0 mb H s w) {b o : Nat} {t : Tm} {e : Env} {x : Value} (ht : TmA H b o t) (he : EV H s.cells.length e x) : Calls Tryz.prog 36 #[pt mb, ptO b o, x] w (MEnd w0 mb H (s.goes t e)) := by
 obtain ⟨tv, ev, v0, v1, v2, v3, fv, hv', cv, iv, lv, h⟩ := h
 obtain ⟨a, rfl⟩ := he.ptr
 exact (at_raw w mb tv ev v0 v1 v2 v3 fv hv' cv iv lv s.out s.steps s.konts (some ⟨b, o, none⟩) a h.lies).mono fun e w' ⟨h1, h2, h3⟩ => ⟨h1, H, MLe.refl H, _, _, _, _, _, _, _, _, _, _, _, h.core.bt h2, h3, ⟨⟨b, o, rfl, ht⟩, he, h.at_.ones⟩, h.above, h.hs, h.input⟩
theorem end_any (h : MS w0 mb H s w) (o : Int) : Calls Tryz.prog 29 #[pt mb, .int .i64 o] w (MEnd w0 mb H (s.ends o)) := by
 obtain ⟨tv, ev, v0, v1, v2, v3, fv, hv', cv, iv, lv, h⟩ := h
 exact (end_raw w mb tv ev v0 v1 v2 v3 fv hv' cv iv lv s.out s.steps s.konts o h.lies).mono fun e w' ⟨h1, h2, h3⟩ => ⟨h1, H, MLe.refl H, _, _, _, _, _, _, _, _, _, _, _, h.core.bt h2, h3, h.at_, h.above, h.hs, h.input⟩
theorem push_any (h : MS w0 mb H s w) {f : Frame} {x : Value} (hf : FV H s.cells.length f x) : Calls Tryz.prog 40 #[.pointer (some ⟨mb, 6, none⟩), x] w (MEnd w0 mb H (s.push f)) := by
 obtain ⟨tv, ev, v0, v1, v2, v3, fv, hv', cv, iv, lv, h⟩ := h
 obtain ⟨T, fb, rfl⟩ := hf.iface
 obtain ⟨a, ha⟩ := h.above.ptr
 refine (push_raw w mb tv ev v0 v1 v2 v3 fv hv' cv iv lv s.out s.steps s.konts T (pt fb) a ha h.lies).mono fun e w' ⟨h1, h2, h3, h4⟩ => ?_
 obtain ⟨k1, k2⟩ := h.core.bt1 h2 (Nat.le_refl _) h4 h.lt
 exact ⟨h1, _, k1, _, _, _, _, _, _, _, _, _, _, _, k2, h3, h.at_.le k1 (Nat.le_refl _), .cons f s.above w.heap.size _ _ (ins_row H _ _ _) (hf.le k1 (Nat.le_refl _)) (h.above.le k1 (Nat.le_refl _)), h.hs.le k1 (Nat.le_refl _), h.input.le k1⟩
theorem encl_any (h : MS w0 mb H s w) {a : List Arm} {e : Env} {x : Value} (hd : HdV H s.cells.length a e x) : Calls Tryz.prog 39 #[.pointer (some ⟨mb, 6, none⟩), x] w (MEnd w0 mb H (s.encl (a, e))) := by
 obtain ⟨tv, ev, v0, v1, v2, v3, fv, hv', cv, iv, lv, h⟩ := h
 obtain ⟨hb, rfl⟩ := hd.ptr
 obtain ⟨p, hp⟩ := h.above.ptr
 obtain ⟨q, hq⟩ := h.hs.ptr
 refine (encl_raw w mb tv ev v0 v1 v2 v3 fv hv' cv iv lv s.out s.steps s.konts (some ⟨hb, 0, none⟩) p q hp hq h.lies).mono fun e w' ⟨h1, h2, h3, h4⟩ => ?_
 obtain ⟨k1, k2⟩ := h.core.bt1 h2 (Nat.le_refl _) h4 h.lt
 exact ⟨h1, _, k1, _, _, _, _, _, _, _, _, _, _, _, k2, h3, h.at_.le k1 (Nat.le_refl _), .nil, .cons (a, _) s.above s.hs w.heap.size _ _ _ (ins_row H _ _ _) (hd.le k1 (Nat.le_refl _)) (h.above.le k1 (Nat.le_refl _)) (h.hs.le k1 (Nat.le_refl _)), h.input.le k1⟩
end

def NewRow (T : TypeId) (l : List Value) (w : World) (e : Ending) (w' : World) : Prop := ∃ N, e = .returned (pt N) ∧ w.heap.size ≤ N ∧ w'.heap[N]? = some (.cells l.toArray T) ∧ Below w.heap.size w w'
set_option maxRecDepth 100000 in
set_option maxHeartbeats 4000000 in
theorem with_raw (w : World) (b : Option Addr) (nm : Str) (k n : Int) (c : Option Addr) (f : Value) (hf : IfV f) :
  Calls Tryz.prog 37 #[.pointer b, .string (ba nm), .agg #[.int .i64 k, .int .i64 n, .pointer c, f]] w (NewRow 153 [.string (ba nm), .int .i64 k, .int .i64 n, .pointer c, f, .pointer b] w) := by
 rcases hf with rfl | ⟨ft, fx, rfl⟩
 all_goals
  go_enter Tryz.func37, Tryz.ntmps37
  go_wp2
  go_ret
  exact ⟨_, rfl, by simp, heap_new_at (by simp) _, ((Below.refl _ _).alloc (Nat.le_refl _) _).alloc (by simp) _⟩
def EEnd (w0 : World) (mb : Nat) (H : Mem) (s : St) (en : Env) (e : Ending) (w' : World) : Prop := ∃ H' x, e = .returned x ∧ MLe H H' ∧ MS w0 mb H' s w' ∧ EV H' s.cells.length en x
theorem with_any {w0 : World} {mb : Nat} {H : Mem} {s : St} {w : World} (h : MS w0 mb H s w) {en : Env} {x : Value} {nm : Str} {v : Val} {l : List Value} (he : EV H s.cells.length en x) (hv : VV H s.cells.length v l) :
  Calls Tryz.prog 37 #[x, .string (ba nm), .agg l.toArray] w (EEnd w0 mb H s ((nm, v) :: en)) := by
 obtain ⟨k, n, c, f, rfl, hf⟩ := hv.four
 obtain ⟨b, rfl⟩ := he.ptr
 refine (with_raw w b nm k n c f hf).mono fun e w' ⟨N, h1, h2, h3, h4⟩ => ?_
 obtain ⟨k1, k2⟩ := h.keep h4 h2 h3
 exact ⟨_, _, h1, k1, k2, .cons nm v en N [.int .i64 k, .int .i64 n, .pointer c, f] (.pointer b) (ins_row H N _ _) (hv.le k1 (Nat.le_refl _)) (he.le k1 (Nat.le_refl _))⟩
end So
end Go.Proofs.YtmodmojocclmaaaGreatDoor.K
