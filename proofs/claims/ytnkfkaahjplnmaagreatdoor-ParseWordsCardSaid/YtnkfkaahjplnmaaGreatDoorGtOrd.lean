/- Plain facts on Pz: where no fault is told, none was on the way, and what is left are the last of the words. -/
import Derived.Test.YtnkfkaahjplnmaaGreatDoorGaPure
import Derived.Test.YtnkfkaahjplnmaaGreatDoorGrSame
import Derived.Test.YtnkfkaahjplnmaaGreatDoorPgc
namespace Go.Proofs.YtnkfkaahjplnmaaGreatDoor
namespace Pz
open Lx

/-- No fault on the way, and what is left are the last of the words. -/
def Fw (s s' : St) : Prop := s'.er = 0 → s.er = 0 ∧ ∃ d, s.ws = d ++ s'.ws
theorem Fw.refl (s : St) : Fw s s := fun h => ⟨h, [], rfl⟩
theorem Fw.trans {a b c : St} (h : Fw a b) (k : Fw b c) : Fw a c := fun hc => by
  obtain ⟨h1, d1, e1⟩ := k hc
  obtain ⟨h2, d2, e2⟩ := h h1
  exact ⟨h2, d2 ++ d1, by rw [e2, e1, List.append_assoc]⟩
theorem fw_take (s : St) : Fw s (take s) := fun h => ⟨h, s.ws.take 1, by cases hw : s.ws <;> simp [take, hw]⟩
theorem fw_fail (sz e : Nat) (s : St) (he : e ≠ 0 := by decide) : Fw s (fail sz e s) := by
  unfold fail; split
  · exact fun h => absurd h he
  · exact Fw.refl _
theorem fw_must1 (sz : Nat) (t : Str) (s : St) : Fw s (must1 sz t s) := by
  unfold must1; split
  · exact fw_take _
  · exact fw_fail _ _ _
theorem fw_must (sz : Nat) (ts : List Str) : ∀ s, Fw s (must sz ts s) := by
  induction ts with
  | nil => exact Fw.refl
  | cons t ts ih => intro s; exact (fw_must1 sz t s).trans (ih _)
def Nfw {α : Type} (f : St → α × St) : Prop := ∀ s, Fw s (f s).2
theorem nfw_name (sz : Nat) (ks : List Nat) : Nfw (name sz ks) := by
  intro s; unfold name; split
  · exact fw_take _
  · exact fw_fail _ _ _
theorem nfw_more {α : Type} {item : St → α × St} (hi : Nfw item) (b : Str) : ∀ n, Nfw (more item b n) := by
  intro n
  induction n with
  | zero => intro s; exact Fw.refl _
  | succ n ih =>
    intro s; unfold more; split
    · exact ((fw_take s).trans (hi _)).trans (ih _)
    · exact Fw.refl _
theorem nfw_list {α : Type} {item : St → α × St} (hi : Nfw item) (sz : Nat) (o b c : Str) : Nfw (list sz item o b c) := by
  intro s; unfold list; dsimp only; split
  · exact (fw_must1 _ _ _).trans (fw_must1 _ _ _)
  · exact (((fw_must1 _ _ _).trans (hi _)).trans (nfw_more hi b _ _)).trans (fw_must1 _ _ _)

section
variable {sz : Nat} {ex : St → Tm × St} (hx : Nfw ex)
include hx
theorem nfw_behind : ∀ ts, Nfw (behind sz ex ts) := by
  intro ts
  induction ts with
  | nil => intro s; exact Fw.refl _
  | cons t ts ih => intro s; exact ((fw_must1 _ _ _).trans (hx _)).trans (ih _)
theorem nfw_does (nm : Str) (vs : List Str) : Nfw (does sz ex nm vs) := fun _ => (fw_must1 _ _ _).trans (hx _)
omit hx in
theorem nfw_vars : ∀ n, Nfw (vars n) := by
  intro n
  induction n with
  | zero => intro s; exact Fw.refl _
  | succ n ih =>
    intro s; unfold vars; split
    · exact (fw_take s).trans (ih _)
    · exact Fw.refl _
theorem nfw_way : Nfw (way sz ex) := fun s => ((nfw_name sz [3] s).trans (nfw_vars _ _)).trans (nfw_does hx _ _ _)
theorem nfw_ways : Nfw (ways sz ex) := nfw_list (nfw_way hx) _ _ _ _
theorem nfw_clause : Nfw (clause sz ex) := fun s => (((nfw_name sz [2] s).trans (nfw_name sz [2] _)).trans (nfw_name sz [2] _)).trans (nfw_does hx _ _ _)
theorem nfw_clauses : Nfw (clauses sz ex) := fun s => ((((fw_must sz _ s).trans (nfw_name sz [2] _)).trans (nfw_does hx _ _ _)).trans (nfw_more (nfw_clause hx) _ _ _)).trans (fw_must1 _ _ _)
theorem nfw_fields : Nfw (fields sz ex) := by
  intro s; unfold fields; split
  · exact nfw_list hx _ _ _ _ _
  · exact Fw.refl _
theorem nfw_bracketed (a : Nat) : Nfw (bracketed sz ex a) := by
  intro s; unfold bracketed; split
  · exact fw_take _
  · exact (hx _).trans (fw_must1 _ _ _)
theorem nfw_atom : Nfw (atom sz ex) := by
  intro s; unfold atom; dsimp only
  repeat' split
  all_goals first | exact fw_take _ | exact (fw_take _).trans (nfw_fields hx _) | exact (fw_take _).trans (fw_must _ _ _) | exact (fw_take _).trans (nfw_bracketed hx _ _) | exact Fw.refl _
theorem nfw_appMore : ∀ n f, Nfw (appMore sz ex n f) := by
  intro n
  induction n with
  | zero => intro f s; exact Fw.refl _
  | succ n ih =>
    intro f s; unfold appMore
    have ha := nfw_atom (sz := sz) hx s
    split
    · rename_i s1 heq; rw [heq] at ha; exact ha
    · rename_i a s1 heq; rw [heq] at ha; exact ha.trans (ih _ _)
theorem nfw_app : Nfw (app sz ex) := by
  intro s; unfold app
  have ha := nfw_atom (sz := sz) hx s
  split
  · rename_i s1 heq; rw [heq] at ha; exact ha.trans (fw_fail _ _ _)
  · rename_i a s1 heq; rw [heq] at ha; exact ha.trans (nfw_appMore hx _ _ _)
omit hx in
theorem nfw_ahead : ∀ n, Nfw (ahead n) := by
  intro n
  induction n with
  | zero => intro s; exact Fw.refl _
  | succ n ih =>
    intro s; unfold ahead; split
    · exact (fw_take s).trans (ih _)
    · exact Fw.refl _
theorem nfw_unary : Nfw (unary sz ex) := fun s => (nfw_ahead _ s).trans (nfw_app hx _)
omit hx in
theorem nfw_both {side : St → Tm × St} (hs : Nfw side) (l : Tm) : Nfw (both side l) := fun s => (fw_take s).trans (hs _)
omit hx in
theorem nfw_once {side : St → Tm × St} (hs : Nfw side) (ss : List Str) : Nfw (once side ss) := by
  intro s; unfold once; split
  · exact (hs s).trans (nfw_both hs _ _)
  · exact hs s
omit hx in
theorem nfw_oftenMore {side : St → Tm × St} (hs : Nfw side) (ss : List Str) : ∀ n l, Nfw (oftenMore side ss n l) := by
  intro n
  induction n with
  | zero => intro l s; exact Fw.refl _
  | succ n ih =>
    intro l s; unfold oftenMore; split
    · exact (nfw_both hs l s).trans (ih _ _)
    · exact Fw.refl _
omit hx in
theorem nfw_often {side : St → Tm × St} (hs : Nfw side) (ss : List Str) : Nfw (often side ss) := fun s => (hs s).trans (nfw_oftenMore hs ss _ _ _)
theorem nfw_prod : Nfw (prod sz ex) := nfw_often (nfw_unary hx) _
theorem nfw_sum : Nfw (sum sz ex) := nfw_often (nfw_prod hx) _
theorem nfw_cmp : Nfw (cmp sz ex) := nfw_once (nfw_sum hx) _
theorem nfw_assign : Nfw (assign sz ex) := nfw_once (nfw_cmp hx) _
theorem nfw_exprHere : Nfw (exprHere sz ex) := by
  intro s; unfold exprHere; dsimp only
  repeat' split
  · exact ((fw_take s).trans (nfw_name _ _ _)).trans (nfw_behind hx _ _)
  · exact ((fw_take s).trans (nfw_name _ _ _)).trans (nfw_behind hx _ _)
  · exact (((fw_take s).trans (nfw_name _ _ _)).trans (nfw_name _ _ _)).trans (nfw_behind hx _ _)
  · exact nfw_behind hx _ _
  · exact (nfw_behind hx _ _).trans (nfw_ways hx _)
  · exact (((fw_take s).trans (nfw_name _ _ _)).trans (hx _)).trans (nfw_clauses hx _)
  · exact nfw_assign hx _
theorem nfw_exprStep : Nfw (exprStep sz ex) := by
  intro s; unfold exprStep; dsimp only; split
  · exact fw_fail _ _ _
  · have h := nfw_exprHere (sz := sz) hx { s with wi := s.wi + 1 }
    exact h
end
theorem nfw_expr (sz : Nat) : ∀ n, Nfw (expr sz n) := by
  intro n
  induction n with
  | zero => intro s; exact Fw.refl _
  | succ n ih => exact nfw_exprStep ih
theorem aType_fw (s : St) : Fw s (aType s).2 := by
  unfold aType
  repeat' split
  all_goals first | exact fw_take _ | exact Fw.refl _
theorem nfw_mustType (sz : Nat) : Nfw (mustType sz) := by
  intro s; unfold mustType
  have ha := aType_fw s
  split
  · rename_i heq; rw [heq] at ha; exact ha
  · rename_i heq; rw [heq] at ha; exact ha.trans (fw_fail _ _ _)
theorem nfw_sig (sz : Nat) : Nfw (sig sz) := fun s => ((((nfw_name sz [2] s).trans (fw_must1 _ _ _)).trans (nfw_mustType _ _)).trans (fw_must1 _ _ _)).trans (nfw_mustType _ _)
theorem nfw_conMore : ∀ n, Nfw (conMore n) := by
  intro n
  induction n with
  | zero => intro s; exact Fw.refl _
  | succ n ih =>
    intro s; unfold conMore
    have ha := aType_fw s
    split
    · rename_i heq; rw [heq] at ha; exact ha
    · rename_i heq; rw [heq] at ha; exact ha.trans (ih _)
theorem nfw_con (sz : Nat) : Nfw (con sz) := fun s => (nfw_name sz [3] s).trans (nfw_conMore _ _)
theorem nfw_effect (sz : Nat) : Nfw (effect sz) := fun s => (nfw_name sz [3] s).trans (nfw_list (nfw_sig sz) _ _ _ _ _)
theorem nfw_data (sz : Nat) : Nfw (data sz) := fun s => (nfw_name sz [3] s).trans (nfw_list (nfw_con sz) _ _ _ _ _)
end Pz
end Go.Proofs.YtnkfkaahjplnmaaGreatDoor

/- Plain facts on Pz: a term stands no earlier than what it stands in, and within the source. -/
namespace Go.Proofs.YtnkfkaahjplnmaaGreatDoor
namespace Pz
open Lx

def Up (sz : Nat) (s : St) : Prop := s.ws.Pairwise (fun x y => x.pos < y.pos) ∧ ∀ x ∈ s.ws, x.pos < sz
theorem Up.fw {sz : Nat} {s s' : St} (h : Up sz s) (hf : Fw s s') (he : s'.er = 0) : Up sz s' ∧ whr sz s ≤ whr sz s' := by
  obtain ⟨_, d, e⟩ := hf he
  obtain ⟨h1, h2⟩ := h
  rw [e] at h1 h2
  refine ⟨⟨(List.pairwise_append.1 h1).2.1, fun x hx => h2 x (by simp [hx])⟩, ?_⟩
  unfold whr
  rw [e]
  cases d with
  | nil => exact Nat.le_refl _
  | cons x d =>
    cases hw : s'.ws with
    | nil => exact Nat.le_of_lt (h2 x (by simp))
    | cons y r =>
      have := (List.pairwise_append.1 h1).2.2 x (by simp) y (by rw [hw]; simp)
      exact Nat.le_of_lt this
theorem Up.lt {sz : Nat} {s : St} (h : Up sz s) (hw : 0 < s.ws.length) : whr sz s < sz := by
  unfold whr
  cases e : s.ws with
  | nil => rw [e] at hw; simp at hw
  | cons x r => exact h.2 x (by rw [e]; simp)
theorem Ins.mono {n a b : Nat} {t : Tm} (h : Ins n b t) (hab : a ≤ b) : Ins n a t := by
  cases h with
  | mk _ k pos nm pm v kids arms h1 h2 h3 h4 => exact .mk _ k pos nm pm v kids arms (Nat.le_trans hab h1) h2 h3 h4
theorem Ins.here {n a : Nat} {t : Tm} (h : Ins n a t) : a ≤ t.pos ∧ t.pos < n ∧ Ins n t.pos t := by
  cases h with
  | mk _ k pos nm pm v kids arms h1 h2 h3 h4 => exact ⟨h1, h2, .mk _ k pos nm pm v kids arms (Nat.le_refl _) h2 h3 h4⟩
/-- A node of terms. -/
theorem Ins.node {n a k pos : Nat} {nm pm : Str} {v : Nat} {kids : List Tm} {arms : List Arm} (h1 : a ≤ pos) (h2 : pos < n) (h3 : ∀ t ∈ kids, Ins n pos t) (h4 : ∀ a ∈ arms, Ins n pos a.2.2) : Ins n a (.mk k pos nm pm v kids arms) :=
  .mk _ k pos nm pm v kids arms h1 h2 (fun _ t ht => h3 t (List.mem_of_getElem? ht)) (fun _ a ha => h4 a (List.mem_of_getElem? ha))
theorem must1_lost {sz : Nat} {t : Str} {s : St} (h : (must1 sz t s).er = 0) : (must1 sz t s).ws.length + 1 = s.ws.length := by
  unfold must1 at h ⊢
  split
  · rename_i hi; exact take_lt (isT_pos hi)
  · rename_i hi
    rw [if_neg hi] at h
    unfold fail at h
    split at h
    · cases h
    · rename_i hn; exact absurd h hn

/-- Good upon few words: where it stands. -/
def Gq {α : Type} (Q : Nat → α → Prop) (sz n : Nat) (f : St → α × St) : Prop := ∀ s, s.ws.length < n → Up sz s → (f s).2.er = 0 → Q (whr sz s) (f s).1
def Gd (sz n : Nat) (f : St → Tm × St) : Prop := ∀ s, s.ws.length < n → Up sz s → (f s).2.er = 0 → Ins sz (whr sz s) (f s).1 ∧ (f s).1.pos ≤ whr sz (f s).2
def Down {α : Type} (Q : Nat → α → Prop) : Prop := ∀ a b x, a ≤ b → Q b x → Q a x
theorem gq_more {α : Type} {Q : Nat → α → Prop} (hQ : Down Q) {sz n : Nat} {item : St → α × St} (hi : Gq Q sz n item) (hf : Nfw item) (hl : Nice item) (b : Str) : ∀ k, Gq (fun lo l => ∀ x ∈ l, Q lo x) sz n (more item b k)
  | 0 => fun s _ _ _ => by simp [more]
  | k + 1 => fun s hs hu he => by
    unfold more at he ⊢
    split at he
    · rename_i hb
      rw [if_pos hb]
      have h1 := nfw_more hf b k (item (take s)).2
      have e1 := (h1 he).1
      have u1 := hu.fw (fw_take s) ((hf (take s)) e1).1
      have u2 := u1.1.fw (hf (take s)) e1
      have ht := take_lt (isT_pos hb)
      have hle := (hl (take s)).1
      intro x hx
      rcases List.mem_cons.1 hx with rfl | hx
      · exact hQ _ _ _ u1.2 (hi (take s) (by omega) u1.1 e1)
      · exact hQ _ _ _ (Nat.le_trans u1.2 u2.2) (gq_more hQ hi hf hl b k _ (by omega) u2.1 he x hx)
    · rename_i hb
      rw [if_neg hb]
      simp
theorem gq_list {α : Type} {Q : Nat → α → Prop} (hQ : Down Q) {sz n : Nat} {item : St → α × St} (hi : Gq Q sz n item) (hf : Nfw item) (hl : Nice item) (o b c : Str) : Gq (fun lo l => ∀ x ∈ l, Q lo x) sz (n + 1) (list sz item o b c) := by
  intro s hs hu he
  unfold list at he ⊢
  dsimp only at he ⊢
  split at he
  · rename_i hb; rw [if_pos hb]; simp
  · rename_i hb
    rw [if_neg hb]
    have e3 := (fw_must1 _ _ _ he).1
    have e2 := (nfw_more hf b _ _ e3).1
    have e1 := (hf _ e2).1
    have u1 := hu.fw (fw_must1 sz o s) e1
    have u2 := u1.1.fw (hf _) e2
    have hm := must1_lost e1
    have hle := (hl (must1 sz o s)).1
    intro x hx
    rcases List.mem_cons.1 hx with rfl | hx
    · exact hQ _ _ _ u1.2 (hi _ (by omega) u1.1 e2)
    · exact hQ _ _ _ (Nat.le_trans u1.2 u2.2) (gq_more hQ hi hf hl b _ _ (by omega) u2.1 e3 x hx)
theorem Gq.le {α : Type} {Q : Nat → α → Prop} {sz n m : Nat} {f : St → α × St} (h : Gq Q sz n f) (hm : m ≤ n) : Gq Q sz m f := fun s hs => h s (by omega)
theorem down_ins (sz : Nat) : Down (Ins sz) := fun _ _ _ h k => Ins.mono k h
theorem down_arm (sz : Nat) : Down (fun lo (a : Arm) => Ins sz lo a.2.2) := fun _ _ _ h k => Ins.mono k h

section
variable {sz n : Nat} {ex : St → Tm × St} (hx : Nfw ex) (hl : Nice ex) (hg : Gd sz n ex)
include hg
theorem gq_ex : Gq (Ins sz) sz n ex := fun s hs hu he => (hg s hs hu he).1
include hx hl
theorem gq_behind : ∀ ts, Gq (fun lo l => ∀ x ∈ l, Ins sz lo x) sz (n + 1) (behind sz ex ts)
  | [] => fun s _ _ _ => by simp [behind]
  | t :: ts => fun s hs hu he => by
    have e2 := (nfw_behind hx ts _ he).1
    have e1 := (hx _ e2).1
    have u1 := hu.fw (fw_must1 sz t s) e1
    have u2 := u1.1.fw (hx _) e2
    have hm := must1_lost e1
    have hle := (hl (must1 sz t s)).1
    intro x hxx
    rcases List.mem_cons.1 hxx with rfl | hxx
    · exact Ins.mono (hg _ (by omega) u1.1 e2).1 u1.2
    · exact Ins.mono (gq_behind ts _ (by omega) u2.1 he x hxx) (Nat.le_trans u1.2 u2.2)
omit hx hl in
theorem gq_does (hx : Nfw ex) (nm : Str) (vs : List Str) : Gq (fun lo (a : Arm) => Ins sz lo a.2.2) sz (n + 1) (does sz ex nm vs) := fun s hs hu he => by
  have e1 := (hx _ he).1
  have u1 := hu.fw (fw_must1 sz tArrow s) e1
  have hm := must1_lost e1
  exact Ins.mono (hg _ (by omega) u1.1 he).1 u1.2
omit hl in
theorem gq_way : Gq (fun lo (a : Arm) => Ins sz lo a.2.2) sz (n + 1) (way sz ex) := fun s hs hu he => by
  have hd := nfw_does (sz := sz) hx (name sz [3] s).1 (vars (name sz [3] s).2.ws.length (name sz [3] s).2).1
  have e2 := (hd _ he).1
  have f1 := (nfw_name sz [3] s).trans (nfw_vars (name sz [3] s).2.ws.length _)
  have u1 := hu.fw f1 e2
  have h1 := (nice_name sz [3] s).1
  have h2 := (nice_vars (name sz [3] s).2.ws.length (name sz [3] s).2).1
  exact Ins.mono (gq_does hg hx _ _ _ (by omega) u1.1 he) u1.2
omit hl in
theorem gq_clause : Gq (fun lo (a : Arm) => Ins sz lo a.2.2) sz (n + 1) (clause sz ex) := fun s hs hu he => by
  have hd := fun nm vs => nfw_does (sz := sz) hx nm vs
  have e2 := (hd _ _ _ he).1
  have f1 := ((nfw_name sz [2] s).trans (nfw_name sz [2] _)).trans (nfw_name sz [2] _)
  have u1 := hu.fw f1 e2
  have h1 := (nice_name sz [2] s).1
  have h2 := (nice_name sz [2] (name sz [2] s).2).1
  have h3 := (nice_name sz [2] (name sz [2] (name sz [2] s).2).2).1
  exact Ins.mono (gq_does hg hx _ _ _ (by omega) u1.1 he) u1.2
theorem gq_ways : Gq (fun lo (l : List Arm) => ∀ a ∈ l, Ins sz lo a.2.2) sz (n + 1) (ways sz ex) :=
  gq_list (down_arm sz) ((gq_way hx hg).le (Nat.le_succ n)) (nfw_way hx) (nice_way hl) _ _ _
theorem gq_clauses : Gq (fun lo (l : List Arm) => ∀ a ∈ l, Ins sz lo a.2.2) sz (n + 1) (clauses sz ex) := fun s hs hu he => by
  have e4 := (fw_must1 _ _ _ he).1
  have e3 := (nfw_more (nfw_clause (sz := sz) hx) _ _ _ e4).1
  have e2 := (nfw_does (sz := sz) hx _ _ _ e3).1
  have f1 := (fw_must sz [tLb, tReturn] s).trans (nfw_name sz [2] _)
  have u1 := hu.fw f1 e2
  have h1 := (le_must sz [tLb, tReturn] s).1
  have h2 := (nice_name sz [2] (must sz [tLb, tReturn] s)).1
  have u2 := u1.1.fw (nfw_does (sz := sz) hx tReturn [(name sz [2] (must sz [tLb, tReturn] s)).1] _) e3
  have h3 := (nice_does (sz := sz) hl tReturn [(name sz [2] (must sz [tLb, tReturn] s)).1] (name sz [2] (must sz [tLb, tReturn] s)).2).1
  intro x hxx
  rcases List.mem_cons.1 hxx with rfl | hxx
  · exact Ins.mono (gq_does hg hx _ _ _ (by omega) u1.1 e3) u1.2
  · exact Ins.mono (gq_more (down_arm sz) (gq_clause hx hg) (nfw_clause hx) (nice_clause hl) _ _ _ (by omega) u2.1 e4 x hxx) (Nat.le_trans u1.2 u2.2)
theorem gq_fields : Gq (fun lo l => ∀ x ∈ l, Ins sz lo x) sz (n + 1) (fields sz ex) := fun s hs hu he => by
  unfold fields at he ⊢
  split at he
  · rename_i hb; rw [if_pos hb]; exact gq_list (down_ins sz) (gq_ex hg) hx hl _ _ _ s hs hu he
  · rename_i hb; rw [if_neg hb]; simp
end
end Pz
end Go.Proofs.YtnkfkaahjplnmaaGreatDoor

/- Plain facts on Pz: a term stands no earlier than what it stands in, and within the source: the terms. -/
namespace Go.Proofs.YtnkfkaahjplnmaaGreatDoor
namespace Pz
open Lx

theorem ins_leaf {sz a k pos : Nat} {nm pm : Str} {v : Nat} (h1 : a ≤ pos) (h2 : pos < sz) : Ins sz a (.mk k pos nm pm v [] []) := Ins.node h1 h2 (by simp) (by simp)
section
variable {sz n : Nat} {ex : St → Tm × St} (hx : Nfw ex) (hl : Nice ex) (hg : Gd sz n ex)
include hx hl hg
theorem gd_atom {s : St} {t : Tm} {s1 : St} (h : atom sz ex s = (some t, s1)) (hs : s.ws.length < n + 1) (hu : Up sz s) (he : s1.er = 0) : Ins sz (whr sz s) t ∧ t.pos ≤ whr sz s1 := by
  have hf : Fw s s1 := by have := nfw_atom (sz := sz) hx s; rw [h] at this; exact this
  have hw := (hu.fw hf he).2
  unfold atom at h; dsimp only at h
  split at h
  · rename_i hi; injection h with h1 h2; injection h1 with h1; subst h1; exact ⟨ins_leaf (Nat.le_refl _) (hu.lt (isOf_pos hi)), hw⟩
  split at h
  · rename_i hi; injection h with h1 h2; injection h1 with h1; subst h1; exact ⟨ins_leaf (Nat.le_refl _) (hu.lt (isT_pos hi)), hw⟩
  split at h
  · rename_i hi; injection h with h1 h2; injection h1 with h1; subst h1; exact ⟨ins_leaf (Nat.le_refl _) (hu.lt (isT_pos hi)), hw⟩
  split at h
  · rename_i hi; injection h with h1 h2; injection h1 with h1; subst h1; exact ⟨ins_leaf (Nat.le_refl _) (hu.lt (isOf_pos hi)), hw⟩
  split at h
  · rename_i hi; injection h with h1 h2; injection h1 with h1; subst h1 h2
    have ht := take_lt (isOf_pos hi)
    have u1 := hu.fw (fw_take s) ((nfw_fields (sz := sz) hx _) he).1
    exact ⟨Ins.node (Nat.le_refl _) (hu.lt (isOf_pos hi)) (fun x hxx => Ins.mono (gq_fields hx hl hg _ (by omega) u1.1 he x hxx) u1.2) (by simp), hw⟩
  split at h
  · rename_i hi; injection h with h1 h2; injection h1 with h1; subst h1; exact ⟨ins_leaf (Nat.le_refl _) (hu.lt (isT_pos hi)), hw⟩
  split at h
  · rename_i hi; injection h with h1 h2; injection h1 with h1; subst h1 h2
    have ht := take_lt (isT_pos hi)
    unfold bracketed at he hw ⊢
    split at he
    · rename_i hb; rw [if_pos hb] at hw ⊢
      exact ⟨ins_leaf (Nat.le_refl _) (hu.lt (isT_pos hi)), hw⟩
    · rename_i hb; rw [if_neg hb] at hw ⊢
      have e1 := (fw_must1 _ _ _ he).1
      have u1 := hu.fw (fw_take s) (hx _ e1).1
      have u2 := u1.1.fw (hx _) e1
      have u3 := u2.1.fw (fw_must1 sz tShut _) he
      obtain ⟨g1, g2⟩ := hg (take s) (by omega) u1.1 e1
      exact ⟨Ins.mono g1 u1.2, Nat.le_trans g2 u3.2⟩
  · injection h with h1 h2; cases h1
theorem gd_appMore : ∀ (k : Nat) (f : Tm) (s : St) (a : Nat), s.ws.length < n + 1 → Up sz s → Ins sz a f → f.pos ≤ whr sz s → (appMore sz ex k f s).2.er = 0 → Ins sz a (appMore sz ex k f s).1 ∧ (appMore sz ex k f s).1.pos ≤ whr sz (appMore sz ex k f s).2
  | 0, f, s, a, _, _, hf, hp, _ => ⟨hf, hp⟩
  | k + 1, f, s, a, hs, hu, hf, hp, he => by
    have ha := nfw_atom (sz := sz) hx s
    have hn := nice_atom (sz := sz) hl s
    unfold appMore at he ⊢
    split
    · rename_i s1 heq
      rw [atom_none heq]
      exact ⟨hf, hp⟩
    · rename_i b s1 heq
      rw [heq] at he ha hn
      dsimp only at he
      have e1 := (nfw_appMore (sz := sz) hx k _ _ he).1
      obtain ⟨g1, g2⟩ := gd_atom hx hl hg heq hs hu e1
      have u1 := hu.fw ha e1
      obtain ⟨p1, p2, p3⟩ := Ins.here hf
      have hn1 := hn.1
      dsimp only at hn1
      exact gd_appMore k (.mk 6 f.pos [] [] 0 [f, b] []) s1 a (by omega) u1.1 (Ins.node p1 p2 (fun t ht => by
        simp only [List.mem_cons, List.not_mem_nil, or_false] at ht
        rcases ht with rfl | rfl
        · exact p3
        · exact Ins.mono g1 hp) (by simp)) (Nat.le_trans hp u1.2) he
theorem gd_app : Gd sz (n + 1) (app sz ex) := fun s hs hu he => by
  have ha := nfw_atom (sz := sz) hx s
  have hn := nice_atom (sz := sz) hl s
  unfold app at he ⊢
  split
  · rename_i s1 heq
    rw [heq] at he
    dsimp only at he
    unfold fail at he
    split at he
    · cases he
    · rename_i h; exact absurd he h
  · rename_i b s1 heq
    rw [heq] at he ha hn
    dsimp only at he
    have e1 := (nfw_appMore (sz := sz) hx _ _ _ he).1
    obtain ⟨g1, g2⟩ := gd_atom hx hl hg heq hs hu e1
    have u1 := hu.fw ha e1
    have hn1 := hn.1
    dsimp only at hn1
    exact gd_appMore hx hl hg _ b s1 _ (by omega) u1.1 g1 g2 he
omit hx hl hg in
theorem wraps_ins : ∀ (k : Nat) (s : St) (t : Tm), Up sz s → (ahead k s).2.er = 0 → Ins sz (whr sz (ahead k s).2) t → t.pos < sz → ∀ w, t.pos ≤ w → whr sz (ahead k s).2 ≤ w → Ins sz (whr sz s) ((ahead k s).1.foldr wrap t) ∧ ((ahead k s).1.foldr wrap t).pos ≤ w
  | 0, s, t, _, _, ht, _, w, hw, _ => ⟨ht, hw⟩
  | k + 1, s, t, hu, he, ht, hp, w, hw, hw2 => by
    unfold ahead at he ht hw2 ⊢
    split at he
    · rename_i hb
      rw [if_pos hb] at ht hw2 ⊢
      dsimp only at he ht hw2 ⊢
      have u1 := hu.fw (fw_take s) (nfw_ahead k _ he).1
      have u2 := u1.1.fw (nfw_ahead k _) he
      have hpos : 0 < s.ws.length := by
        unfold pre at hb
        rw [Bool.or_eq_true] at hb
        rcases hb with hb | hb
        · exact isT_pos hb
        · exact isOf_pos hb
      have e : (hd s).pos = whr sz s := by
        unfold hd whr
        cases hh : s.ws with
        | nil => rw [hh] at hpos; simp at hpos
        | cons x r => rfl
      obtain ⟨g1, g2⟩ := wraps_ins k (take s) t u1.1 he ht hp w hw hw2
      rw [List.foldr_cons]
      unfold wrap
      rw [e]
      exact ⟨Ins.node (Nat.le_refl _) (hu.lt hpos) (fun x hxx => by rw [List.mem_singleton.1 hxx]; exact Ins.mono g1 u1.2) (by simp), Nat.le_trans u1.2 (Nat.le_trans u2.2 hw2)⟩
    · rename_i hb
      rw [if_neg hb] at ht hw2 ⊢
      exact ⟨ht, hw⟩
theorem gd_unary : Gd sz (n + 1) (unary sz ex) := fun s hs hu he => by
  have e1 := (nfw_app (sz := sz) hx _ he).1
  have u1 := hu.fw (nfw_ahead s.ws.length s) e1
  have u2 := u1.1.fw (nfw_app (sz := sz) hx _) he
  have hn := (nice_ahead s.ws.length s).1
  obtain ⟨g1, g2⟩ := gd_app hx hl hg _ (by omega) u1.1 he
  exact wraps_ins s.ws.length s _ hu e1 g1 (Ins.here g1).2.1 _ g2 u2.2
end
section
variable {sz n : Nat} {side : St → Tm × St} (hx : Nfw side) (hl : Nice side) (hg : Gd sz n side)
include hx hl hg
theorem gd_both {l : Tm} {s : St} {a : Nat} (hs : s.ws.length < n) (hu : Up sz s) (hf : Ins sz a l) (hp : l.pos ≤ whr sz s) (he : (both side l s).2.er = 0) : Ins sz a (both side l s).1 ∧ (both side l s).1.pos ≤ whr sz (both side l s).2 := by
  have _hl := hl
  unfold both at he ⊢
  dsimp only at he ⊢
  have u1 := hu.fw (fw_take s) (hx _ he).1
  have u2 := u1.1.fw (hx _) he
  have hn := (le_take s).1
  obtain ⟨g1, g2⟩ := hg (take s) (by omega) u1.1 he
  obtain ⟨p1, p2, p3⟩ := Ins.here hf
  have hq := Nat.le_trans hp u1.2
  exact ⟨Ins.node p1 p2 (fun t ht => by
    simp only [List.mem_cons, List.not_mem_nil, or_false] at ht
    rcases ht with rfl | rfl
    · exact p3
    · exact Ins.mono g1 hq) (by simp), Nat.le_trans hq u2.2⟩
theorem gd_once (ss : List Str) : Gd sz n (once side ss) := fun s hs hu he => by
  unfold once at he ⊢
  split at he
  · rename_i hb; rw [if_pos hb]
    have e1 := (nfw_both hx _ _ he).1
    have u1 := hu.fw (hx s) e1
    have hn := (hl s).1
    obtain ⟨g1, g2⟩ := hg s hs hu e1
    exact gd_both hx hl hg (by omega) u1.1 g1 g2 he
  · rename_i hb; rw [if_neg hb]; exact hg s hs hu he
theorem gd_oftenMore (ss : List Str) : ∀ (k : Nat) (l : Tm) (s : St) (a : Nat), s.ws.length < n → Up sz s → Ins sz a l → l.pos ≤ whr sz s → (oftenMore side ss k l s).2.er = 0 → Ins sz a (oftenMore side ss k l s).1 ∧ (oftenMore side ss k l s).1.pos ≤ whr sz (oftenMore side ss k l s).2
  | 0, l, s, a, _, _, hf, hp, _ => ⟨hf, hp⟩
  | k + 1, l, s, a, hs, hu, hf, hp, he => by
    unfold oftenMore at he ⊢
    split at he
    · rename_i hb; rw [if_pos hb]
      have e1 := (nfw_oftenMore hx ss k _ _ he).1
      have u1 := hu.fw (nfw_both hx l s) e1
      have hn := (nice_both hl l s).1
      obtain ⟨g1, g2⟩ := gd_both hx hl hg hs hu hf hp e1
      exact gd_oftenMore ss k _ _ a (by omega) u1.1 g1 g2 he
    · rename_i hb; rw [if_neg hb]; exact ⟨hf, hp⟩
theorem gd_often (ss : List Str) : Gd sz n (often side ss) := fun s hs hu he => by
  have e1 := (nfw_oftenMore hx ss _ _ _ he).1
  have u1 := hu.fw (hx s) e1
  have hn := (hl s).1
  obtain ⟨g1, g2⟩ := hg s hs hu e1
  exact gd_oftenMore hx hl hg ss _ _ _ _ (by omega) u1.1 g1 g2 he
end
end Pz
end Go.Proofs.YtnkfkaahjplnmaaGreatDoor

/- Plain facts on Pz: a term stands no earlier than what it stands in, and within the source: exprs and programs. -/
namespace Go.Proofs.YtnkfkaahjplnmaaGreatDoor
namespace Pz
open Lx

section
variable {sz n : Nat} {ex : St → Tm × St} (hx : Nfw ex) (hl : Nice ex) (hg : Gd sz n ex)
include hx hl hg
theorem gd_assign : Gd sz (n + 1) (assign sz ex) :=
  gd_once (nfw_cmp hx) (nice_cmp hl) (gd_once (nfw_sum hx) (nice_sum hl) (gd_often (nfw_prod hx) (nice_prod hl) (gd_often (nfw_unary hx) (nice_unary hl) (gd_unary hx hl hg) _) _) _) _
theorem gd_exprHere : Gd sz (n + 1) (exprHere sz ex) := fun s hs hu he => by
  have hw := (hu.fw (nfw_exprHere (sz := sz) hx s) he).2
  unfold exprHere at he hw ⊢; dsimp only at he hw ⊢
  split at he
  · rename_i hi; rw [if_pos hi] at hw ⊢
    have ht := take_lt (isT_pos hi)
    have e1 := (nfw_behind (sz := sz) hx _ _ he).1
    have u1 := hu.fw ((fw_take s).trans (nfw_name sz [2] _)) e1
    have h1 := (nice_name sz [2] (take s)).1
    exact ⟨Ins.node (Nat.le_refl _) (hu.lt (isT_pos hi)) (fun x hxx => Ins.mono (gq_behind hx hl hg _ _ (by omega) u1.1 he x hxx) u1.2) (by simp), hw⟩
  rename_i hi1; rw [if_neg hi1] at hw ⊢
  split at he
  · rename_i hi; rw [if_pos hi] at hw ⊢
    have ht := take_lt (isT_pos hi)
    have e1 := (nfw_behind (sz := sz) hx _ _ he).1
    have u1 := hu.fw ((fw_take s).trans (nfw_name sz [2] _)) e1
    have h1 := (nice_name sz [2] (take s)).1
    exact ⟨Ins.node (Nat.le_refl _) (hu.lt (isT_pos hi)) (fun x hxx => Ins.mono (gq_behind hx hl hg _ _ (by omega) u1.1 he x hxx) u1.2) (by simp), hw⟩
  rename_i hi2; rw [if_neg hi2] at hw ⊢
  split at he
  · rename_i hi; rw [if_pos hi] at hw ⊢
    have ht := take_lt (isT_pos hi)
    have e1 := (nfw_behind (sz := sz) hx _ _ he).1
    have u1 := hu.fw (((fw_take s).trans (nfw_name sz [2] _)).trans (nfw_name sz [2] _)) e1
    have h1 := (nice_name sz [2] (take s)).1
    have h2 := (nice_name sz [2] (name sz [2] (take s)).2).1
    exact ⟨Ins.node (Nat.le_refl _) (hu.lt (isT_pos hi)) (fun x hxx => Ins.mono (gq_behind hx hl hg _ _ (by omega) u1.1 he x hxx) u1.2) (by simp), hw⟩
  rename_i hi3; rw [if_neg hi3] at hw ⊢
  split at he
  · rename_i hi; rw [if_pos hi] at hw ⊢
    exact ⟨Ins.node (Nat.le_refl _) (hu.lt (isT_pos hi)) (fun x hxx => gq_behind hx hl hg _ _ hs hu he x hxx) (by simp), hw⟩
  rename_i hi4; rw [if_neg hi4] at hw ⊢
  split at he
  · rename_i hi; rw [if_pos hi] at hw ⊢
    have e1 := (nfw_ways (sz := sz) hx _ he).1
    have u1 := hu.fw (nfw_behind (sz := sz) hx [tMatch] s) e1
    have h1 := (nice_behind (sz := sz) hl [tMatch] s).1
    exact ⟨Ins.node (Nat.le_refl _) (hu.lt (isT_pos hi)) (fun x hxx => gq_behind hx hl hg _ _ hs hu e1 x hxx) (fun a ha => Ins.mono (gq_ways hx hl hg _ (by omega) u1.1 he a ha) u1.2), hw⟩
  rename_i hi5; rw [if_neg hi5] at hw ⊢
  split at he
  · rename_i hi; rw [if_pos hi] at hw ⊢
    have ht := take_lt (isT_pos hi)
    have e2 := (nfw_clauses (sz := sz) hx _ he).1
    have e1 := (hx _ e2).1
    have u1 := hu.fw ((fw_take s).trans (nfw_name sz [3] _)) e1
    have u2 := u1.1.fw (hx _) e2
    have h1 := (nice_name sz [3] (take s)).1
    have h2 := (hl (name sz [3] (take s)).2).1
    exact ⟨Ins.node (Nat.le_refl _) (hu.lt (isT_pos hi)) (fun x hxx => by rw [List.mem_singleton.1 hxx]; exact Ins.mono (hg _ (by omega) u1.1 e2).1 u1.2) (fun a ha => Ins.mono (gq_clauses hx hl hg _ (by omega) u2.1 he a ha) (Nat.le_trans u1.2 u2.2)), hw⟩
  rename_i hi6; rw [if_neg hi6] at hw ⊢
  exact gd_assign hx hl hg s hs hu he
theorem gd_exprStep : Gd sz (n + 1) (exprStep sz ex) := fun s hs hu he => by
  unfold exprStep at he ⊢; dsimp only at he ⊢
  split at he
  · unfold fail at he
    split at he
    · cases he
    · rename_i h; exact absurd he h
  · rename_i hb; rw [if_neg hb]
    exact gd_exprHere hx hl hg { s with wi := s.wi + 1 } hs hu he
end
theorem gd_expr (sz : Nat) : ∀ n, Gd sz n (expr sz n)
  | 0 => fun s hs => by omega
  | n + 1 => gd_exprStep (nfw_expr sz n) (nice_expr sz n) (gd_expr sz n)
theorem nfw_decls (sz : Nat) : ∀ n es ds, Nfw (decls sz n es ds)
  | 0, _, _ => fun _ => Fw.refl _
  | n + 1, es, ds => fun s => by
    unfold decls
    split
    · split
      · exact ((fw_take s).trans (nfw_effect sz _)).trans (nfw_decls sz n _ _ _)
      · exact ((fw_must1 _ _ s).trans (nfw_data sz _)).trans (nfw_decls sz n _ _ _)
    · exact Fw.refl _
/-- Where the terms of a program stand. -/
theorem program_ins {sz : Nat} {ws : List Tk} (h1 : ws.Pairwise (fun x y => x.pos < y.pos)) (h2 : ∀ x ∈ ws, x.pos < sz) (he : (program sz ⟨ws, 0, 0, 0⟩).2.er = 0) : Ins sz 0 (program sz ⟨ws, 0, 0, 0⟩).1.body := by
  unfold program at he ⊢
  dsimp only at he ⊢
  have hu : Up sz ⟨ws, 0, 0, 0⟩ := ⟨h1, h2⟩
  have eb : (expr sz ((decls sz ws.length [] [] ⟨ws, 0, 0, 0⟩).2.ws.length + 1) (decls sz ws.length [] [] ⟨ws, 0, 0, 0⟩).2).2.er = 0 := by
    split at he
    · exact (fw_fail _ _ _ (by decide) he).1
    · exact he
  have e1 := (nfw_expr sz _ _ eb).1
  have u1 := hu.fw (nfw_decls sz _ _ _ _) e1
  exact Ins.mono (gd_expr sz _ _ (by omega) u1.1 eb).1 (Nat.zero_le _)
end Pz
open Pz
theorem parseW_ins {sz : Nat} {ws : List Lx.Tk} (h1 : ws.Pairwise (fun x y => x.pos < y.pos)) (h2 : ∀ x ∈ ws, x.pos < sz) (he : (parseW sz ws).2.2 = 0) : Ins sz 0 (parseW sz ws).1.body := by
  obtain ⟨q, hq⟩ : ∃ q, q = Pz.program sz ⟨ws, 0, 0, 0⟩ := ⟨_, rfl⟩
  have hi := program_ins (sz := sz) h1 h2
  rw [← hq] at hi
  obtain ⟨q, s⟩ := q
  by_cases hs : s.er = 0
  · by_cases hd : 200 < q.body.deep
    · rw [parseW_deep hq.symm hs hd] at he; cases he
    · rw [parseW_ok hq.symm hs hd]; exact hi hs
  · rw [parseW_err hq.symm hs] at he; exact absurd he hs
end Go.Proofs.YtnkfkaahjplnmaaGreatDoor
