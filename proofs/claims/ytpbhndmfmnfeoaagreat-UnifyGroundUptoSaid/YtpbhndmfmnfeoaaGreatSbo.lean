/- What stands between two tasks of whole. -/
import Derived.Test.YtpbhndmfmnfeoaaGreatSbn
import Derived.Outline
namespace Go.Proofs.YtpbhndmfmnfeoaaGreat
open Go.RowKit

structure WI (T : Int → Option Ty) (R : Int → Option (List Str × Int)) (w0 w : World) (p B : Nat) (vt vr : Value) (t : Ty) (l : List Value) (F : Nat → Prop) (g : Nat) (W : World) (td : Value) (ks : List Tk) : Prop where
  aps : ApS W p B vt vr td ks.length (ks.flatMap tkC)
  ok : ∀ k ∈ ks, TkOK T R w0 B W k
  nd : (ks.map Tk.G).Nodup
  prom : Prom T B td ks W t l
  chg : Chg p (.slice none 0 0) w W
  fx : ∀ b, F b → b < W.heap.size ∧ ¬ Xs B td ks b
  tdG : ∀ k ∈ ks, td.ownBlock ≠ some k.G
  work : wks T ks ≤ g
  tree : JI l B W td (ks.map Tk.G) 0 0
theorem tkC_len (ks : List Tk) : (ks.flatMap tkC).length = ks.length * 3 := by
  induction ks with
  | nil => rfl
  | cons k r ih => rw [List.flatMap_cons, List.length_append, ih, List.length_cons]; simp [tkC]; omega
/-- The row of what is to do, if something is. -/
theorem WI.form {T : Int → Option Ty} {R : Int → Option (List Str × Int)} {w0 w : World} {p B : Nat} {vt vr : Value} {t : Ty} {l : List Value} {F : Nat → Prop} {g : Nat} {W : World} {td : Value} {ks : List Tk} {k0 : Tk} (h : WI T R w0 w p B vt vr t l F g W td (ks ++ [k0])) :
    ∃ b cap, td = .slice (some ⟨b, 0, none⟩) (ks.length + 1) cap ∧ ks.length + 1 ≤ cap ∧ B ≤ b ∧ b < W.heap.size ∧ W.cell? ⟨b, ks.length * 3, none⟩ = some k0.src ∧ W.cell? ⟨b, ks.length * 3 + 1, none⟩ = some (.slice (some ⟨k0.G, 0, none⟩) k0.ts.length k0.ts.length) ∧ W.cell? ⟨b, ks.length * 3 + 2, none⟩ = some (.bool k0.said) ∧
      W.ownsRow B 80 3 (.slice (some ⟨b, 0, none⟩) ks.length cap) ks.length (ks.flatMap tkC) := by
  have hr := h.aps.row
  have hl : (ks ++ [k0]).length = ks.length + 1 := by simp
  have hf : (ks ++ [k0]).flatMap tkC = ks.flatMap tkC ++ tkC k0 := by rw [List.flatMap_append]; simp
  rw [hl, hf] at hr
  rcases hr.2 with ⟨_, h0⟩ | ⟨b, cap, cur, rfl, hb, hh, hc, hm, hs, htk⟩
  · omega
  · have hcell : ∀ j q, (ks.flatMap tkC ++ tkC k0)[j]? = some q → W.cell? ⟨b, j, none⟩ = some q := fun j q hq => by
      have := hr.cells (g := b) rfl j q hq
      rwa [show (⟨b, 0, none⟩ : Addr).add j = ⟨b, j, none⟩ by unfold Addr.add; split <;> simp_all] at this
    have hat : ∀ j q, (tkC k0)[j]? = some q → W.cell? ⟨b, ks.length * 3 + j, none⟩ = some q := fun j q hq => hcell _ q (by rw [← tkC_len ks, List.getElem?_append_right (by omega), Nat.add_sub_cancel_left]; exact hq)
    refine ⟨b, cap, rfl, hc, hb, lt_of_block hh, hat 0 _ rfl, hat 1 _ rfl, hat 2 _ rfl, tkC_len ks, .inr ⟨b, cap, cur, rfl, hb, hh, by omega, hm, hs, ?_⟩⟩
    have h1 : cur.toList.take (ks.length * 3) = (cur.toList.take ((ks.length + 1) * 3)).take (ks.length * 3) := by rw [List.take_take]; congr 1; omega
    rw [h1, htk, ← tkC_len ks]
    exact List.take_left
theorem WI.pop {T : Int → Option Ty} {R : Int → Option (List Str × Int)} {w0 w : World} {p B : Nat} {vt vr : Value} {t : Ty} {l : List Value} {F : Nat → Prop} {g : Nat} {W : World} {ks : List Tk} {k0 : Tk} {b cap : Nat} (h : WI T R w0 w p B vt vr t l F g W (.slice (some ⟨b, 0, none⟩) (ks.length + 1) cap) (ks ++ [k0]))
    (hpB : p < B) (_hwB : w.heap.size ≤ B) (hr : W.ownsRow B 80 3 (.slice (some ⟨b, 0, none⟩) ks.length cap) ks.length (ks.flatMap tkC)) {W' : World} (hp : Lies W' p 63 #[vt, vr, .map none, .slice (some ⟨b, 0, none⟩) ks.length cap])
    (hos : W'.os = W.os) (htp : W'.tape = W.tape) (hou : W'.output = W.output) (hsz : W.heap.size ≤ W'.heap.size) (hbl : ∀ i, i < W.heap.size → i ≠ p → W'.heap[i]? = W.heap[i]?) (F' : Nat → Prop) (hF : ∀ i, F' i → F i ∨ (W.heap.size ≤ i ∧ i < W'.heap.size)) :
    IS T R w0 w p B vt vr t l F' k0 (wks T ks) W' (.slice (some ⟨b, 0, none⟩) ks.length cap) ks 0 := by
  have hmem : ∀ k, k ∈ k0 :: ks ↔ k ∈ ks ++ [k0] := fun k => by simp [or_comm]
  have hX : ∀ i, Xs B (.slice (some ⟨b, 0, none⟩) ks.length cap) (k0 :: ks) i ↔ Xs B (.slice (some ⟨b, 0, none⟩) (ks.length + 1) cap) (ks ++ [k0]) i := fun i => by
    unfold Xs
    simp only [Value.ownBlock, hmem]
  have hGB : ∀ k ∈ k0 :: ks, B ≤ k.G ∧ k.G < W.heap.size := fun k hk => by
    have ho := h.ok k ((hmem k).1 hk)
    obtain ⟨cur, h1, _⟩ := ho.lies
    exact ⟨ho.old, h1.lt⟩
  have hpw : p < W.heap.size := h.aps.at_.lt
  have hkept : Kept (Xs B (.slice (some ⟨b, 0, none⟩) (ks.length + 1) cap) (ks ++ [k0])) W W' := ⟨hsz, fun i hi hn => hbl i hi (fun e => hn (.inl (by omega)))⟩
  refine ⟨⟨hp, own_sameB hr fun i hi => ?_⟩, fun k hk => ?_, ?_, h.prom.keep hkept (fun i _ hn hx => hn ((hX i).1 hx)) (fun k hk => (hmem k).2 hk), PromL.zero _ _ _ _ _ _, ?_, fun i hi => ?_, fun k hk => h.tdG k ((hmem k).1 hk), by simp [wkL], h.tree.perm rfl hsz (fun g => ?_) (fun g h1 h2 _ _ => hbl g h2 (by omega)) (fun i hi => .inl hi)⟩
  · obtain ⟨h1, h2⟩ := own_block hr i hi
    exact hbl i h2 (by omega)
  · have ho := h.ok k ((hmem k).1 hk)
    obtain ⟨cur, h1, h2⟩ := ho.lies
    exact ⟨ho.pos, ho.few, ho.src, ho.kids, ⟨cur, (hbl _ h1.lt (by have := ho.old; omega)).trans h1, h2⟩, ho.old, ho.rows⟩
  · have hnd := h.nd
    rw [List.map_append, List.nodup_append] at hnd
    rw [List.map_cons, List.nodup_cons]
    refine ⟨fun hm => ?_, hnd.1⟩
    exact hnd.2.2 _ hm k0.G (by simp) rfl
  · have hw := h.chg.size
    refine ⟨hos.trans h.chg.os, htp.trans h.chg.tape, hou.trans h.chg.output, by omega, fun i h1 h2 h3 => (hbl i (by omega) h2).trans (h.chg.block i h1 h2 h3)⟩
  · rcases hF i hi with h1 | h1
    · obtain ⟨h2, h3⟩ := h.fx i h1
      exact ⟨by omega, fun hx => h3 ((hX i).1 hx)⟩
    · refine ⟨h1.2, fun hx => ?_⟩
      rcases hx with hx | hx | ⟨k, hk, hx⟩
      · have := hGB k0 (List.mem_cons_self ..); omega
      · have := (own_block hr i hx).2; omega
      · have := hGB k hk; omega
  · simp only [List.map_append, List.map_cons, List.map_nil, List.mem_append, List.mem_cons, List.not_mem_nil, or_false]
    exact or_comm
theorem IS.done {T : Int → Option Ty} {R : Int → Option (List Str × Int)} {w0 w : World} {p B : Nat} {vt vr : Value} {t : Ty} {l : List Value} {F F' : Nat → Prop} {k0 : Tk} {N : Nat} {W : World} {td : Value} {ks : List Tk} (h : IS T R w0 w p B vt vr t l F' k0 N W td ks k0.ts.length) (_hpB : p < B) (hF : ∀ b, F b → F' b) :
    WI T R w0 w p B vt vr t l F (wks T ks) W td ks ∧ wks T ks < N + wk T k0 := by
  have hk0 := h.ok k0 (List.mem_cons_self ..)
  have hnd := h.nd
  rw [List.map_cons, List.nodup_cons] at hnd
  have hat : AtCells W ⟨k0.G, 0, none⟩ := by obtain ⟨cur, h1, _⟩ := hk0.lies; exact ⟨cur, _, h1⟩
  refine ⟨⟨h.aps, fun k hk => h.ok k (List.mem_cons_of_mem _ hk), hnd.2, h.prom.done h.promL hat (fun hx => ?_), h.chg, fun b hb => ?_, fun k hk => h.tdG k (List.mem_cons_of_mem _ hk), Nat.le_refl _, ?_⟩, ?_⟩
  · rcases hx with hx | hx | ⟨k, hk, hx⟩
    · have := hk0.old; omega
    · exact h.tdG k0 (List.mem_cons_self ..) hx
    · exact hnd.1 (List.mem_map.2 ⟨k, hk, hx⟩)
  · obtain ⟨h1, h2⟩ := h.fx b (hF b hb)
    refine ⟨h1, fun hx => h2 ?_⟩
    rcases hx with hx | hx | ⟨k, hk, hx⟩
    · exact .inl hx
    · exact .inr (.inl hx)
    · exact .inr (.inr ⟨k, List.mem_cons_of_mem _ hk, hx⟩)
  · obtain ⟨cur, h1, h2⟩ := hk0.lies
    exact JI.close h.tree hk0.old h1.lt (h.tdG k0 (List.mem_cons_self ..)) hnd.1 fun j hj => by
      rw [h1.cell, Array.getElem?_eq_none (by omega)]
  · have hw := h.work
    rw [List.take_length] at hw
    have := hk0.pos
    unfold wk
    omega
/-- How the tasks begin. -/
theorem WI.start {T : Int → Option Ty} {R : Int → Option (List Str × Int)} {w0 w W1 : World} {p B : Nat} {vt vr : Value} {t : Ty} (_hpB : p < B) (_hB : w.heap.size ≤ B) (hBW1 : B ≤ W1.heap.size) (_hpw : p < w.heap.size) (hb1 : Below w.heap.size w W1) {said : Bool} (hrf : said = true ∨ rowsFree R T t)
    {k : Int} {nm : Str} {v : Int} {kids : List Ty} {ls : List Str} {rv : Int} {s0 : Bool} (hd : hdT T said t = (.mk k nm v kids ls rv, s0)) (hkl : kids.length ≤ 1000000) (hoks : oks k v rv) {e : Ending} {W2 : World}
    (hbe : BecEnd w0 W1 p B vt vr (.slice none 0 0) 0 [] k nm v kids ls rv s0 e W2) :
    ∃ lc : List Value, e = .returned (.agg lc.toArray) ∧ lc.length = 6 ∧ (∀ q ∈ lc, q.oneCell' = true) ∧ W1.heap.size ≤ W2.heap.size ∧ (∀ b, b < W1.heap.size → b ≠ p → W2.heap[b]? = W1.heap[b]?) ∧
      ∀ (W3 : World) (F : Nat → Prop), Below W2.heap.size W2 W3 → (∀ b, F b → W2.heap.size ≤ b ∧ b < W3.heap.size) → ∃ td ks, WI T R w0 w p B vt vr (fsT T said t) lc F (fsT T said t).size W3 td ks := by
  obtain ⟨kv', lv', td', n', tc', rfl, hlv, hlb, haps, htd, hchg, hcase⟩ := hbe
  have hW1 := hb1.size
  have hsz := fsT_hd T said t hd
  have hwsz : (fsT T said t).size = 1 + wkL T s0 kids := by rw [hsz]; simp only [Ty.size, sizeL_map]
  have hone : ∀ q ∈ tyC k nm v kv' lv' rv, q.oneCell' = true := by
    have h1 : lv'.oneCell' = true := hlv.one
    have h2 : kv'.oneCell' = true := by rcases hcase with ⟨_, rfl, _⟩ | ⟨_, _, _, _, rfl, _⟩ <;> rfl
    intro q hq
    simp only [tyC, List.mem_cons, List.not_mem_nil, or_false] at hq
    rcases hq with rfl | rfl | rfl | rfl | rfl | rfl <;> first | rfl | assumption
  have hnil : ∀ b, (Value.slice none 0 0).ownBlock ≠ some b := fun b e => by cases e
  refine ⟨tyC k nm v kv' lv' rv, rfl, rfl, hone, hchg.size, fun b h1 h2 => hchg.block b h1 h2 (hnil b), fun W3 F hb3 hF => ?_⟩
  have hs3 := hb3.size
  have hs2 := hchg.size
  have htd2 : ∀ b, td'.ownBlock = some b → W1.heap.size ≤ b ∧ b < W2.heap.size := fun b hb' => by
    refine ⟨?_, (own_block haps.row b hb').2⟩
    rcases htd with e | ⟨g, e, hg⟩
    · rw [e] at hb'; cases hb'
    · rw [e] at hb'; injection hb' with hb'; omega
  have hchg3 : Chg p (.slice none 0 0) w W3 := ⟨hb3.os.trans (hchg.os.trans hb1.os), hb3.tape.trans (hchg.tape.trans hb1.tape), hb3.output.trans (hchg.output.trans hb1.output), by omega, fun b h1 h2 _ => (hb3.block b (by omega)).trans ((hchg.block b (by omega) h2 (hnil b)).trans (hb1.block b h1))⟩
  have hrows := hdT_rows (R := R) hrf hd
  have hlv3 : StrR W3 lv' ls := hlv.keep hb3.block
  rcases hcase with ⟨rfl, rfl, rfl, rfl⟩ | ⟨h0, G, cur, kv0, rfl, hG, hlG, hcurs, htG, hlG2, rfl, rfl, hsl, hkk⟩
  · refine ⟨td', [], ⟨haps.below hb3, fun k hk => (by cases hk), List.nodup_nil, fun w' hk' _ => ?_, hchg3, fun b hb => ?_, fun k hk => (by cases hk), Nat.zero_le _, ?_⟩⟩
    · rw [hsz]
      refine tfv_new T hoks (hlv3.kept hk' fun b hb' => ?_) (.inl ⟨rfl, rfl⟩)
      obtain ⟨h1, h2, h3⟩ := hlb b hb'
      refine ⟨by omega, fun hx => ?_⟩
      rcases hx with hx | hx | ⟨k, hk, _⟩
      · omega
      · exact h3 hx
      · cases hk
    · have h1 := hF b hb
      refine ⟨by omega, fun hx => ?_⟩
      rcases hx with hx | hx | ⟨k, hk, _⟩
      · omega
      · have := htd2 b hx; omega
      · cases hk
    · have hrt : ∀ g, ¬ rtOf (tyC k nm v (.slice none 0 0) lv' rv) g := fun g ⟨n, c, h⟩ => by simp [tyC] at h
      exact ⟨[], [], List.nodup_nil, fun g hg => (by cases hg), fun e he => (by cases he), fun g hg => (hrt g hg).elim, fun g j q n c hg => by rcases hg with hg | ⟨_, hj⟩; exact (by cases hg); omega⟩
  · obtain ⟨nk, hnk⟩ : ∃ nk : Tk, nk = ⟨kv0, kids, G, s0⟩ := ⟨_, rfl⟩
    have hGlt := hlG.lt
    refine ⟨td', [nk], ⟨?_, fun k' hk' => ?_, by simp, fun w' hk' hd' => ?_, hchg3, fun b hb => ?_, fun k' hk' => ?_, ?_, ?_⟩⟩
    · have h := haps.below hb3
      have e1 : [nk].flatMap tkC = [] ++ [kv0, .slice (some ⟨G, 0, none⟩) kids.length kids.length, .bool s0] := by rw [hnk]; simp [tkC]
      rw [e1]
      exact h
    · rw [List.mem_singleton.1 hk', hnk]
      exact ⟨h0, hkl, hsl, hkk, ⟨cur, hlG.later hb3, hcurs⟩, by show B ≤ G; omega, hrows⟩
    · rw [hsz]
      have hdn := hd' nk (List.mem_singleton.2 rfl)
      rw [hnk] at hdn
      refine tfv_new T hoks (hlv3.kept hk' fun b hb' => ?_) (.inr ⟨h0, G, rfl, hdn⟩)
      obtain ⟨h1, h2, h3⟩ := hlb b hb'
      refine ⟨by omega, fun hx => ?_⟩
      rcases hx with hx | hx | ⟨k', hk', hx⟩
      · omega
      · exact h3 hx
      · rw [List.mem_singleton.1 hk', hnk] at hx
        exact hlG2 b hb' hx.symm
    · have h1 := hF b hb
      refine ⟨by omega, fun hx => ?_⟩
      rcases hx with hx | hx | ⟨k', hk', hx⟩
      · omega
      · have := htd2 b hx; omega
      · rw [List.mem_singleton.1 hk', hnk] at hx
        have hx : G = b := hx
        omega
    · rw [List.mem_singleton.1 hk', hnk]
      exact htG
    · have e2 : wks T [nk] = wkL T s0 kids := by rw [hnk]; simp [wks, wk]
      omega
    · refine ⟨[], [], List.nodup_nil, fun g hg => (by cases hg), fun e he => (by cases he), fun g hg => ?_, fun g j q n c hg => by rcases hg with hg | ⟨_, hj⟩; exact (by cases hg); omega⟩
      obtain ⟨n, c, hg⟩ := hg
      simp only [tyC, List.getElem?_cons_succ, List.getElem?_cons_zero, Option.some.injEq, Value.slice.injEq, Addr.mk.injEq] at hg
      rw [hnk]
      exact .inr (by simp [hg.1.1])
end Go.Proofs.YtpbhndmfmnfeoaaGreat
