/- Plain facts on Pz: where words stand turns nothing but where things stand. -/
import Derived.Test.YtnkfkaahjplnmaaGreatDoorGaPure
import Derived.Test.YtnkfkaahjplnmaaGreatDoorGdText
namespace Go.Proofs.YtnkfkaahjplnmaaGreatDoor
namespace Pz
open Lx

def mT (φ : Nat → Nat) (t : Tk) : Tk := ⟨t.k, t.t, t.n, φ t.pos⟩
def mS (φ ψ : Nat → Nat) (s : St) : St := ⟨s.ws.map (mT φ), s.wi, φ s.at_, ψ s.er⟩
mutual
def mTm (φ : Nat → Nat) : Tm → Tm
  | .mk k p nm pm n kids arms => .mk k (φ p) nm pm n (mL φ kids) (mA φ arms)
def mL (φ : Nat → Nat) : List Tm → List Tm
  | [] => []
  | t :: r => mTm φ t :: mL φ r
def mA (φ : Nat → Nat) : List Arm → List Arm
  | [] => []
  | a :: r => (a.1, a.2.1, mTm φ a.2.2) :: mA φ r
end
def mArm (φ : Nat → Nat) (a : Arm) : Arm := (a.1, a.2.1, mTm φ a.2.2)
theorem mL_map (φ : Nat → Nat) : ∀ l, mL φ l = l.map (mTm φ)
  | [] => rfl
  | t :: r => by rw [mL, mL_map φ r]; rfl
theorem mA_map (φ : Nat → Nat) : ∀ l, mA φ l = l.map (mArm φ)
  | [] => rfl
  | a :: r => by rw [mA, mA_map φ r]; rfl
theorem mTm_pos (φ : Nat → Nat) (t : Tm) : (mTm φ t).pos = φ t.pos := by cases t; rfl
/-- Two steps that answer alike, one where things stand otherwise. -/
def Cm {α : Type} (φ ψ : Nat → Nat) (g : α → α) (f f' : St → α × St) : Prop := ∀ s, f' (mS φ ψ s) = (g (f s).1, mS φ ψ (f s).2)
/-- How faults are told anew: the parser's own two stay. -/
structure Kept (ψ : Nat → Nat) : Prop where
  zero : ∀ x, ψ x = 0 ↔ x = 0
  three : ψ 3 = 3
  six : ψ 6 = 6

section
variable {φ ψ : Nat → Nat} (hψ : Kept ψ)
theorem mS_len (s : St) : (mS φ ψ s).ws.length = s.ws.length := by simp [mS]
theorem mS_er (s : St) : (mS φ ψ s).er = ψ s.er := rfl
theorem mS_wi (s : St) : (mS φ ψ s).wi = s.wi := rfl
theorem isT_m (ts : List Str) (s : St) : isT ts (mS φ ψ s) = isT ts s := by
  obtain ⟨ws, wi, at_, er⟩ := s
  cases ws <;> rfl
theorem isOf_m (ks : List Nat) (s : St) : isOf ks (mS φ ψ s) = isOf ks s := by
  obtain ⟨ws, wi, at_, er⟩ := s
  cases ws <;> rfl
theorem pre_m (s : St) : pre (mS φ ψ s) = pre s := by unfold pre; rw [isT_m, isOf_m]
theorem hdt_m (s : St) : (hd (mS φ ψ s)).t = (hd s).t := by
  obtain ⟨ws, wi, at_, er⟩ := s
  cases ws <;> rfl
theorem hdn_m (s : St) : (hd (mS φ ψ s)).n = (hd s).n := by
  obtain ⟨ws, wi, at_, er⟩ := s
  cases ws <;> rfl
theorem whr_m (sz : Nat) (s : St) : whr (φ sz) (mS φ ψ s) = φ (whr sz s) := by
  obtain ⟨ws, wi, at_, er⟩ := s
  cases ws <;> rfl
theorem take_m (s : St) : take (mS φ ψ s) = mS φ ψ (take s) := by
  obtain ⟨ws, wi, at_, er⟩ := s
  cases ws <;> rfl
include hψ
theorem fail_m (sz e : Nat) (he : e = 3 ∨ e = 6) (s : St) : fail (φ sz) e (mS φ ψ s) = mS φ ψ (fail sz e s) := by
  unfold fail
  rw [whr_m, mS_er]
  have hp : ψ e = e := by
    rcases he with rfl | rfl
    · exact hψ.three
    · exact hψ.six
  by_cases h : s.er = 0
  · rw [if_pos h, if_pos ((hψ.zero _).2 h)]
    simp only [mS, List.map_nil, hp]
  · rw [if_neg h, if_neg (fun h2 => h ((hψ.zero _).1 h2))]
theorem must1_m (sz : Nat) (t : Str) (s : St) : must1 (φ sz) t (mS φ ψ s) = mS φ ψ (must1 sz t s) := by
  unfold must1
  rw [isT_m]
  split
  · exact take_m s
  · exact fail_m hψ sz 3 (.inl rfl) s
theorem must_m (sz : Nat) : ∀ (ts : List Str) (s : St), must (φ sz) ts (mS φ ψ s) = mS φ ψ (must sz ts s)
  | [], _ => rfl
  | t :: ts, s => by
    show must (φ sz) ts (must1 (φ sz) t (mS φ ψ s)) = _
    rw [must1_m hψ, must_m sz ts]
    rfl
theorem name_m (sz : Nat) (ks : List Nat) : Cm φ ψ id (name sz ks) (name (φ sz) ks) := by
  intro s
  unfold name
  rw [isOf_m, hdt_m, take_m, fail_m hψ _ _ (by decide)]
  split <;> rfl
omit hψ in
theorem more_m {α : Type} {g : α → α} {f f' : St → α × St} (hf : Cm φ ψ g f f') (b : Str) : ∀ n, Cm φ ψ (List.map g) (more f b n) (more f' b n)
  | 0, _ => rfl
  | n + 1, s => by
    unfold more
    rw [isT_m]
    split
    · rw [take_m, hf, more_m hf b n]
      rfl
    · rfl
theorem list_m {α : Type} {g : α → α} {f f' : St → α × St} (hf : Cm φ ψ g f f') (sz : Nat) (o b c : Str) : Cm φ ψ (List.map g) (list sz f o b c) (list (φ sz) f' o b c) := by
  intro s
  unfold list
  dsimp only
  rw [must1_m hψ, isT_m]
  split
  · rw [must1_m hψ]
    rfl
  · rw [hf]
    dsimp only
    rw [mS_len, more_m hf b _, must1_m hψ]
    rfl

section
variable {sz : Nat} {ex ex' : St → Tm × St} (hx : Cm φ ψ (mTm φ) ex ex')
include hx
theorem behind_m : ∀ ts, Cm φ ψ (mL φ) (behind sz ex ts) (behind (φ sz) ex' ts)
  | [], _ => rfl
  | t :: ts, s => by
    unfold behind
    rw [must1_m hψ, hx, behind_m ts]
    rfl
theorem does_m (nm : Str) (vs : List Str) : Cm φ ψ (mArm φ) (does sz ex nm vs) (does (φ sz) ex' nm vs) := by
  intro s
  unfold does
  rw [must1_m hψ, hx]
  rfl
omit hψ hx in
theorem vars_m : ∀ n, Cm φ ψ id (vars n) (vars n)
  | 0, _ => rfl
  | n + 1, s => by
    unfold vars
    rw [isOf_m, hdt_m, take_m]
    split
    · rw [vars_m n]
      rfl
    · rfl
theorem way_m : Cm φ ψ (mArm φ) (way sz ex) (way (φ sz) ex') := by
  intro s
  unfold way
  dsimp only
  rw [name_m hψ]
  dsimp only [id_eq]
  rw [mS_len, vars_m]
  dsimp only [id_eq]
  rw [does_m hψ hx]
theorem ways_m : Cm φ ψ (List.map (mArm φ)) (ways sz ex) (ways (φ sz) ex') := list_m hψ (way_m hψ hx) sz _ _ _
theorem clause_m : Cm φ ψ (mArm φ) (clause sz ex) (clause (φ sz) ex') := by
  intro s
  unfold clause
  dsimp only
  rw [name_m hψ]
  dsimp only [id_eq]
  rw [name_m hψ]
  dsimp only [id_eq]
  rw [name_m hψ]
  dsimp only [id_eq]
  rw [does_m hψ hx]
theorem clauses_m : Cm φ ψ (List.map (mArm φ)) (clauses sz ex) (clauses (φ sz) ex') := by
  intro s
  unfold clauses
  dsimp only
  rw [must_m hψ, name_m hψ]
  dsimp only [id_eq]
  rw [does_m hψ hx]
  dsimp only
  rw [mS_len, more_m (clause_m hψ hx), must1_m hψ]
  rfl
theorem fields_m : Cm φ ψ (List.map (mTm φ)) (fields sz ex) (fields (φ sz) ex') := by
  intro s
  unfold fields
  rw [isT_m]
  split
  · exact list_m hψ hx sz _ _ _ s
  · rfl
theorem bracketed_m (a : Nat) : Cm φ ψ (mTm φ) (bracketed sz ex a) (bracketed (φ sz) ex' (φ a)) := by
  intro s
  unfold bracketed
  rw [isT_m]
  split
  · rw [take_m]
    rfl
  · rw [hx, must1_m hψ]
theorem atom_m : Cm φ ψ (Option.map (mTm φ)) (atom sz ex) (atom (φ sz) ex') := by
  intro s
  unfold atom
  dsimp only
  rw [whr_m]
  simp only [isOf_m, isT_m, hdt_m, hdn_m, take_m]
  split
  · rfl
  split
  · rfl
  split
  · rfl
  split
  · rfl
  split
  · rw [fields_m hψ hx]
    simp only [Option.map_some, mTm, mL_map]
    rfl
  split
  · rw [must_m hψ]
    rfl
  split
  · rw [bracketed_m hψ hx]
    rfl
  · rfl
theorem appMore_m : ∀ n f s, appMore (φ sz) ex' n (mTm φ f) (mS φ ψ s) = (mTm φ (appMore sz ex n f s).1, mS φ ψ (appMore sz ex n f s).2)
  | 0, _, _ => rfl
  | n + 1, f, s => by
    unfold appMore
    rw [atom_m hψ hx]
    rcases atom sz ex s with ⟨_ | a, s1⟩
    · rfl
    · dsimp only [Option.map_some]
      rw [mTm_pos]
      exact appMore_m n (.mk 6 f.pos [] [] 0 [f, a] []) s1
theorem app_m (h0 : φ 0 = 0) : Cm φ ψ (mTm φ) (app sz ex) (app (φ sz) ex') := by
  intro s
  unfold app
  rw [atom_m hψ hx]
  rcases atom sz ex s with ⟨_ | a, s1⟩
  · dsimp only [Option.map_none]
    rw [fail_m hψ _ _ (by decide)]
    simp only [Tm.zero, mTm, mL, mA, h0]
  · dsimp only [Option.map_some]
    rw [mS_len, appMore_m hψ hx]
omit hψ hx in
theorem ahead_m : ∀ n, Cm φ ψ (List.map (mT φ)) (ahead n) (ahead n)
  | 0, _ => rfl
  | n + 1, s => by
    unfold ahead
    rw [pre_m]
    split
    · rename_i hp
      rw [take_m, ahead_m n]
      obtain ⟨ws, wi, at_, er⟩ := s
      cases ws with
      | nil => cases hp
      | cons a r => rfl
    · rfl
omit hψ hx in
theorem wrap_m (x : Tk) (t : Tm) : wrap (mT φ x) (mTm φ t) = mTm φ (wrap x t) := rfl
omit hψ hx in
theorem wraps_m (t : Tm) : ∀ l : List Tk, (l.map (mT φ)).foldr wrap (mTm φ t) = mTm φ (l.foldr wrap t)
  | [] => rfl
  | x :: r => by
    rw [List.map_cons, List.foldr_cons, List.foldr_cons, wraps_m t r, wrap_m]
theorem unary_m (h0 : φ 0 = 0) : Cm φ ψ (mTm φ) (unary sz ex) (unary (φ sz) ex') := by
  intro s
  unfold unary
  dsimp only
  rw [mS_len, ahead_m]
  dsimp only
  rw [app_m hψ hx h0, wraps_m]
end

section
variable {side side' : St → Tm × St} (hs : Cm φ ψ (mTm φ) side side')
include hs
omit hψ in
theorem both_m (l : Tm) (s : St) : both side' (mTm φ l) (mS φ ψ s) = (mTm φ (both side l s).1, mS φ ψ (both side l s).2) := by
  unfold both
  rw [take_m, hs, hdt_m, mTm_pos]
  rfl
omit hψ in
theorem once_m (ss : List Str) : Cm φ ψ (mTm φ) (once side ss) (once side' ss) := by
  intro s
  unfold once
  rw [hs]
  dsimp only
  rw [isT_m]
  split
  · exact both_m hs _ _
  · rfl
omit hψ in
theorem oftenMore_m (ss : List Str) : ∀ n l s, oftenMore side' ss n (mTm φ l) (mS φ ψ s) = (mTm φ (oftenMore side ss n l s).1, mS φ ψ (oftenMore side ss n l s).2)
  | 0, _, _ => rfl
  | n + 1, l, s => by
    unfold oftenMore
    rw [isT_m]
    split
    · rw [both_m hs, oftenMore_m ss n]
    · rfl
omit hψ in
theorem often_m (ss : List Str) : Cm φ ψ (mTm φ) (often side ss) (often side' ss) := by
  intro s
  unfold often
  rw [hs]
  dsimp only
  rw [mS_len, oftenMore_m hs]
end

section
variable {sz : Nat} {ex ex' : St → Tm × St} (hx : Cm φ ψ (mTm φ) ex ex') (h0 : φ 0 = 0)
include hx h0
theorem assign_m : Cm φ ψ (mTm φ) (assign sz ex) (assign (φ sz) ex') := once_m (once_m (often_m (often_m (unary_m hψ hx h0) _) _) _) _
theorem exprHere_m : Cm φ ψ (mTm φ) (exprHere sz ex) (exprHere (φ sz) ex') := by
  intro s
  unfold exprHere
  dsimp only
  simp only [isT_m, whr_m, take_m]
  split
  · rw [name_m hψ]
    dsimp only [id_eq]
    rw [behind_m hψ hx]
    rfl
  split
  · rw [name_m hψ]
    dsimp only [id_eq]
    rw [behind_m hψ hx]
    rfl
  split
  · rw [name_m hψ]
    dsimp only [id_eq]
    rw [name_m hψ]
    dsimp only [id_eq]
    rw [behind_m hψ hx]
    rfl
  split
  · rw [behind_m hψ hx]
    rfl
  split
  · rw [behind_m hψ hx]
    dsimp only
    rw [ways_m hψ hx]
    simp only [mTm, mA_map]
  split
  · rw [name_m hψ]
    dsimp only [id_eq]
    rw [hx]
    dsimp only
    rw [clauses_m hψ hx]
    simp only [mTm, mA_map, mL]
  · exact assign_m hψ hx h0 s
theorem exprStep_m : Cm φ ψ (mTm φ) (exprStep sz ex) (exprStep (φ sz) ex') := by
  intro s
  unfold exprStep
  rw [mS_wi]
  split
  · rw [fail_m hψ _ _ (by decide)]
    simp only [Tm.zero, mTm, mL, mA, h0]
  · dsimp only
    rw [show ({ mS φ ψ s with wi := s.wi + 1 } : St) = mS φ ψ { s with wi := s.wi + 1 } from rfl, exprHere_m hψ hx h0]
    rfl
end
theorem expr_m (h0 : φ 0 = 0) (sz : Nat) : ∀ n, Cm φ ψ (mTm φ) (expr sz n) (expr (φ sz) n)
  | 0, s => by
    show (Tm.zero, mS φ ψ s) = (mTm φ Tm.zero, mS φ ψ s)
    simp only [Tm.zero, mTm, mL, mA, h0]
  | n + 1, s => exprStep_m hψ (expr_m h0 sz n) h0 s

omit hψ in
theorem aType_m : Cm φ ψ id aType aType := by
  intro s
  unfold aType
  simp only [isT_m, isOf_m, hdt_m, take_m]
  split
  · rfl
  split
  · rfl
  split
  · rfl
  split <;> rfl
theorem mustType_m (sz : Nat) : Cm φ ψ id (mustType sz) (mustType (φ sz)) := by
  intro s
  unfold mustType
  rw [aType_m]
  rcases aType s with ⟨_ | t, s1⟩
  · dsimp only [id_eq]
    rw [fail_m hψ _ _ (by decide)]
  · rfl
theorem sig_m (sz : Nat) : Cm φ ψ id (sig sz) (sig (φ sz)) := by
  intro s
  unfold sig
  dsimp only
  rw [name_m hψ]
  dsimp only [id_eq]
  rw [must1_m hψ, mustType_m hψ]
  dsimp only [id_eq]
  rw [must1_m hψ, mustType_m hψ]
  rfl
omit hψ in
theorem conMore_m : ∀ n, Cm φ ψ id (conMore n) (conMore n)
  | 0, _ => rfl
  | n + 1, s => by
    unfold conMore
    rw [aType_m]
    rcases aType s with ⟨_ | t, s1⟩
    · rfl
    · dsimp only [id_eq]
      rw [conMore_m n]
      rfl
theorem con_m (sz : Nat) : Cm φ ψ id (con sz) (con (φ sz)) := by
  intro s
  unfold con
  dsimp only
  rw [name_m hψ]
  dsimp only [id_eq]
  rw [mS_len, conMore_m]
  rfl
theorem effect_m (sz : Nat) : Cm φ ψ id (effect sz) (effect (φ sz)) := by
  intro s
  unfold effect
  dsimp only
  rw [name_m hψ]
  dsimp only [id_eq]
  rw [list_m hψ (sig_m hψ sz), List.map_id]
theorem data_m (sz : Nat) : Cm φ ψ id (data sz) (data (φ sz)) := by
  intro s
  unfold data
  dsimp only
  rw [name_m hψ]
  dsimp only [id_eq]
  rw [list_m hψ (con_m hψ sz), List.map_id]
theorem decls_m (sz : Nat) : ∀ n es ds, Cm φ ψ id (decls sz n es ds) (decls (φ sz) n es ds)
  | 0, _, _, _ => rfl
  | n + 1, es, ds, s => by
    unfold decls
    rw [isT_m, isT_m]
    split
    · split
      · rw [take_m, effect_m hψ]
        exact decls_m sz n _ _ _
      · rw [must1_m hψ, data_m hψ]
        exact decls_m sz n _ _ _
    · rfl
def mPg (φ : Nat → Nat) (p : Prog) : Prog := ⟨p.effs, p.dats, mTm φ p.body⟩
/-- A program of words that stand elsewhere. -/
theorem program_m (h0 : φ 0 = 0) (sz : Nat) : Cm φ ψ (mPg φ) (program sz) (program (φ sz)) := by
  intro s
  unfold program
  dsimp only
  rw [mS_len, decls_m hψ]
  dsimp only [id_eq]
  rw [mS_len, expr_m hψ h0]
  dsimp only
  rw [mS_len]
  split
  · rw [fail_m hψ _ _ (by decide)]
    rfl
  · rfl
end
end Pz
end Go.Proofs.YtnkfkaahjplnmaaGreatDoor

/- Words that are alike, but for where they begin (as WalkV of layer 1's seat has them: never import both). -/
namespace Go.Proofs.YtnkfkaahjplnmaaGreatDoor

/-- Like words, but for where they begin; with that too, if asked. -/
def Alike1 (p : Bool) (x y : Lx.Tk) : Prop := x.k = y.k ∧ x.t = y.t ∧ x.n = y.n ∧ (p = true → x.pos = y.pos)
def AlikeL (p : Bool) (l m : List Lx.Tk) : Prop := l.length = m.length ∧ ∀ (i : Nat) (x y : Lx.Tk), l[i]? = some x → m[i]? = some y → Alike1 p x y
theorem AlikeL.refl (p : Bool) (l : List Lx.Tk) : AlikeL p l l := ⟨rfl, fun i x y h1 h2 => by
  rw [h1] at h2
  injection h2 with h2
  subst h2
  exact ⟨rfl, rfl, rfl, fun _ => rfl⟩⟩
end Go.Proofs.YtnkfkaahjplnmaaGreatDoor

/- Plain facts on sources, words written again (PureC upon Lxa: for seats without WalkV). -/
namespace Go.Proofs.YtnkfkaahjplnmaaGreatDoor

theorem skip_join (a t : List UInt8) : ∀ b, Lx.skipN b (a ++ 10 :: t) = if Lx.skipN b a = a.length then a.length + 1 + Lx.skipN false t else Lx.skipN b a := by
  induction a with
  | nil => intro b; cases b <;> simp [Lx.skipN] <;> omega
  | cons c r ih =>
    intro b
    have h1 := ih false
    have h2 := ih true
    cases b <;> simp only [List.cons_append, Lx.skipN, h1, h2, List.length_cons]
    · by_cases hb : c.toNat = 32 ∨ c.toNat = 9 ∨ c.toNat = 13 ∨ c.toNat = 10
      · simp only [if_pos hb]
        by_cases hs : Lx.skipN false r = r.length
        · rw [if_pos hs, if_pos (by omega)]; omega
        · rw [if_neg hs, if_neg (by omega)]
      · simp only [if_neg hb]
        by_cases hn : c.toNat = 35
        · simp only [if_pos hn]
          by_cases hs : Lx.skipN true r = r.length
          · rw [if_pos hs, if_pos (by omega)]; omega
          · rw [if_neg hs, if_neg (by omega)]
        · simp only [if_neg hn]
          rw [if_neg (by omega)]
    · by_cases hb : c.toNat = 10
      · simp only [if_pos hb]
        by_cases hs : Lx.skipN false r = r.length
        · rw [if_pos hs, if_pos (by omega)]; omega
        · rw [if_neg hs, if_neg (by omega)]
      · simp only [if_neg hb]
        by_cases hs : Lx.skipN true r = r.length
        · rw [if_pos hs, if_pos (by omega)]; omega
        · rw [if_neg hs, if_neg (by omega)]
theorem sk_join (a t : List UInt8) : sk (a ++ 10 :: t) = if sk a = a.length then a.length + 1 + sk t else sk a := skip_join a t false

/-- Blanks ahead change nothing but the places. -/
theorem lexes_skip {p n : Nat} {L t : List UInt8} {ws : List Lx.Tk} {r : Option Nat} (hs : sk L = n + sk t) (hd : L.drop n = t) (h : Lexes (p + n) t ws r) : Lexes p L ws r := by
  have e1 : ∀ k, L.drop (sk L + k) = t.drop (sk t + k) := fun k => by rw [hs, ← hd, List.drop_drop]; congr 1; omega
  have e0 : L.drop (sk L) = t.drop (sk t) := by simpa using e1 0
  have e2 : p + n + sk t = p + sk L := by omega
  cases h with
  | done _ _ h => exact .done _ _ (by rw [e0]; exact h)
  | err _ _ h0 h => rw [e2]; exact .err _ _ (by rw [e0]; exact h0) (by rw [e0]; exact h)
  | word _ _ x m ws r h hr =>
    rw [e2] at hr ⊢
    exact .word _ _ x m ws r (by rw [e0]; exact h) (by rw [e1]; exact hr)
theorem sepH_lf (t : List UInt8) : sepH (10 :: t) = true := rfl
theorem sk_len {l : List UInt8} (h : l.drop (sk l) = []) : sk l = l.length := by
  have h1 := skipN_le l false
  have h2 := List.drop_eq_nil_iff.1 h
  unfold sk at h2 ⊢; omega
theorem sk_lt {l : List UInt8} (h : l.drop (sk l) ≠ []) : sk l < l.length := by
  rcases Nat.lt_or_ge (sk l) l.length with h1 | h1
  · exact h1
  · exact absurd (List.drop_of_length_le h1) h
theorem Lexes.joins {p : Nat} {a : List UInt8} {ws : List Lx.Tk} {r0 : Option Nat} (h : Lexes p a ws r0) (t : List UInt8) :
    (r0 = none → ∀ ws' r, Lexes (p + a.length + 1) t ws' r → Lexes p (a ++ 10 :: t) (ws ++ ws') r) ∧ (∀ e, r0 = some e → Lexes p (a ++ 10 :: t) ws (some e)) := by
  induction h with
  | done p l h =>
    refine ⟨fun _ ws' r ht => ?_, fun e he => by cases he⟩
    have hs := sk_len h
    rw [List.nil_append]
    refine lexes_skip (n := l.length + 1) (t := t) (by rw [sk_join, if_pos hs]) (by simp) ?_
    rw [← Nat.add_assoc]; exact ht
  | err p l h0 h =>
    refine ⟨fun he => (by cases he), fun e he => ?_⟩
    have hs := sk_lt h0
    have e1 : sk (l ++ 10 :: t) = sk l := by rw [sk_join, if_neg (by omega)]
    have e2 : (l ++ 10 :: t).drop (sk l) = l.drop (sk l) ++ 10 :: t := by rw [List.drop_append_of_le_length (by omega)]
    injection he with he
    rw [← he, ← e1]
    refine .err _ _ (by rw [e1, e2]; simp) ?_
    rw [e1, e2, first_sep _ _ h0 (sepH_lf t)]; exact h
  | word p l x m ws r h hr ih =>
    have hb := firstF_bound h
    have h0 : l.drop (sk l) ≠ [] := by intro e; rw [e] at hb; simp at hb; omega
    have hs := sk_lt h0
    simp only [List.length_drop] at hb
    have e1 : sk (l ++ 10 :: t) = sk l := by rw [sk_join, if_neg (by omega)]
    have e2 : (l ++ 10 :: t).drop (sk l) = l.drop (sk l) ++ 10 :: t := by rw [List.drop_append_of_le_length (by omega)]
    have e3 : (l ++ 10 :: t).drop (sk l + m) = l.drop (sk l + m) ++ 10 :: t := by rw [List.drop_append_of_le_length (by omega)]
    have hf : firstF ((l ++ 10 :: t).drop (sk (l ++ 10 :: t))) = some (x, m) := by rw [e1, e2, first_sep _ _ h0 (sepH_lf t)]; exact h
    refine ⟨fun hn ws' r' ht => ?_, fun e he => ?_⟩
    · have := (ih.1 hn ws' r' (by
        have e4 : p + sk l + m + (l.drop (sk l + m)).length + 1 = p + l.length + 1 := by rw [List.length_drop]; omega
        rw [e4]; exact ht))
      have k := Lexes.word p (l ++ 10 :: t) x m (ws ++ ws') r' hf (by rw [e1, e3]; exact this)
      rw [e1] at k
      exact k
    · have := ih.2 e he
      have k := Lexes.word p (l ++ 10 :: t) x m ws (some e) hf (by rw [e1, e3]; exact this)
      rw [e1] at k
      exact k

/-- What a word is made of. -/
theorem first_word {r : List UInt8} {x : Lx.Tk} {m : Nat} (h : firstF r = some (x, m)) :
    x.pos = 0 ∧ 1 ≤ x.k ∧ x.k ≤ 6 ∧ x.t ≠ [] ∧ (x.k ≠ 1 → x.n = 0) ∧ r.take m = wB x ∧ r.take x.t.length = x.t ∧ x.t.length ≤ m := by
  obtain ⟨hm0, hml⟩ := firstF_bound h
  obtain ⟨k, hk, hb, hr, _⟩ := firstF_cases h
  match k, hk, hb, hr with
  | 0, _, hb, hr =>
    simp only [readF, Lx.numF] at hr
    split at hr
    · simp only [Option.some.injEq, Prod.mk.injEq] at hr
      obtain ⟨rfl, rfl⟩ := hr
      have hl : (r.take (digN r)).length = digN r := by rw [List.length_take]; omega
      refine ⟨rfl, by simp, by simp, ?_, fun h => absurd rfl h, by simp [wB], by simp only [hl], by simp only [hl]; omega⟩
      intro e; simp only at e; rw [e] at hl; simp at hl; omega
    · cases hr
  | 1, _, hb, hr =>
    have hp : 0 < insN r := headLet_pos hb
    have hle : insN r ≤ r.length := spanN_le _ _
    have hl : (r.take (insN r)).length = insN r := by rw [List.length_take]; omega
    have hne : r.take (insN r) ≠ [] := by intro e; rw [e] at hl; simp at hl; omega
    simp only [readF, Lx.nameF] at hr
    split at hr
    · cases hr
    split at hr
    · simp only [Option.some.injEq, Prod.mk.injEq] at hr
      obtain ⟨rfl, rfl⟩ := hr
      exact ⟨rfl, by simp, by simp, hne, fun _ => rfl, by simp [wB], by simp only [hl], by simp only [hl]; omega⟩
    split at hr
    · simp only [Option.some.injEq, Prod.mk.injEq] at hr
      obtain ⟨rfl, rfl⟩ := hr
      exact ⟨rfl, by simp, by simp, hne, fun _ => rfl, by simp [wB], by simp only [hl], by simp only [hl]; omega⟩
    split at hr
    · rename_i hpre
      simp only [Option.some.injEq, Prod.mk.injEq] at hr
      obtain ⟨rfl, rfl⟩ := hr
      refine ⟨rfl, by simp, by simp, hne, fun _ => rfl, ?_, by simp only [hl], by simp only [hl]; omega⟩
      obtain ⟨u, hu⟩ := List.isPrefixOf_iff_prefix.1 hpre
      simp only [wB, if_true]
      rw [List.take_add, ← hu]
      rfl
    · simp only [Option.some.injEq, Prod.mk.injEq] at hr
      obtain ⟨rfl, rfl⟩ := hr
      exact ⟨rfl, by simp, by simp, hne, fun _ => rfl, by simp [wB], by simp only [hl], by simp only [hl]; omega⟩
  | k + 2, hk, hb, hr =>
    simp only [readF, Option.some.injEq, Prod.mk.injEq] at hr
    obtain ⟨rfl, rfl⟩ := hr
    have h1 := sgn_pos k (by omega)
    have h2 := List.prefix_iff_eq_take.1 (List.isPrefixOf_iff_prefix.1 hb)
    refine ⟨rfl, by simp, by simp, ?_, fun _ => rfl, by simp [wB, ← h2], h2.symm, Nat.le_refl _⟩
    intro e; simp only at e; rw [e] at h1; simp at h1
theorem first_head {r : List UInt8} {x : Lx.Tk} {m : Nat} (h : firstF r = some (x, m)) : ∃ c u, r = c :: u ∧ sepB c = false := by
  obtain ⟨hm0, hml⟩ := firstF_bound h
  obtain ⟨k, hk, hb, _, _⟩ := firstF_cases h
  cases r with
  | nil => simp at hml; omega
  | cons c u =>
    refine ⟨c, u, rfl, ?_⟩
    rw [Bool.eq_false_iff]
    intro hs
    match k, hk, hb with
    | 0, _, hb => rw [begF, headIn, dig_sep c hs] at hb; cases hb
    | 1, _, hb => rw [begF, headIn, let_sep c hs] at hb; cases hb
    | k + 2, hk, hb =>
      have h1 := sgn_pos k (by omega)
      have h2 := sgn_sep k (by omega)
      cases hsg : sgn k with
      | nil => rw [hsg] at h1; simp at h1
      | cons a d =>
        rw [begF, Lx.preB, hsg] at hb
        simp only [List.isPrefixOf, Bool.and_eq_true, beq_iff_eq] at hb
        rw [hsg] at h2
        have := h2 a (by simp)
        rw [hb.1, hs] at this
        cases this
theorem sk_head {c : UInt8} (u : List UInt8) (h : sepB c = false) : sk (c :: u) = 0 := by
  simp [sepB] at h
  exact skip_else c u (by omega) (by omega)

/-- A word that, alone, is read as itself. -/
def WordOK (x : Lx.Tk) : Prop := firstF (wB x) = some (⟨x.k, x.t, x.n, 0⟩, (wB x).length)
theorem first_ok {r : List UInt8} {x : Lx.Tk} {m : Nat} (h : firstF r = some (x, m)) (p : Nat) : WordOK (atPos x p) ∧ m = (wB x).length := by
  obtain ⟨e1, _, _, _, _, e2, _, _⟩ := first_word h
  obtain ⟨hm0, hml⟩ := firstF_bound h
  have h2 := first_take h (Nat.le_refl m)
  rw [e2] at h2
  have hm : m = (wB x).length := by rw [← e2, List.length_take]; omega
  refine ⟨?_, hm⟩
  show firstF (wB x) = some (⟨x.k, x.t, x.n, 0⟩, (wB x).length)
  rw [h2, hm]
  obtain ⟨k, t, n, q⟩ := x
  simp only at e1
  subst e1
  rfl
theorem Lexes.ok {p : Nat} {l : List UInt8} {ws : List Lx.Tk} {r : Option Nat} (h : Lexes p l ws r) : ∀ y ∈ ws, WordOK y := by
  induction h with
  | done => simp
  | err => simp
  | word p l x m ws r h hr ih =>
    intro y hy
    simp only [List.mem_cons] at hy
    rcases hy with rfl | hy
    · exact (first_ok h _).1
    · exact ih y hy
theorem WordOK.ne {x : Lx.Tk} (h : WordOK x) : wB x ≠ [] := by
  intro e
  have := firstF_bound h
  rw [e] at this; simp at this
theorem WordOK.sk0 {x : Lx.Tk} (h : WordOK x) (t : List UInt8) : sk (wB x ++ t) = 0 := by
  obtain ⟨c, u, e, hs⟩ := first_head h
  rw [e, List.cons_append]; exact sk_head _ hs

def Gap (t : List UInt8) : Prop := t ≠ [] ∧ sepH t = true ∧ ∀ u, sk (t ++ u) = t.length + sk u
def srcOf (L : List (Lx.Tk × List UInt8)) : List UInt8 := L.flatMap fun y => wB y.1 ++ y.2
theorem lexes_src (L : List (Lx.Tk × List UInt8)) (tail : List UInt8) (ws2 : List Lx.Tk) : ∀ p, (∀ y ∈ L, WordOK y.1 ∧ Gap y.2) → (∀ q, ∃ ws, Lexes q tail ws none ∧ AlikeL false ws2 ws) →
    ∃ ws1, Lexes p (srcOf L ++ tail) ws1 none ∧ AlikeL false (L.map (·.1) ++ ws2) ws1 := by
  induction L with
  | nil => intro p _ ht; simpa [srcOf] using ht p
  | cons y L ih =>
    intro p hall ht
    obtain ⟨x, t⟩ := y
    obtain ⟨hx, hg1, hg2, hg3⟩ := hall (x, t) (by simp)
    obtain ⟨ws1, h1, h2⟩ := ih (p + (wB x).length + t.length) (fun y hy => hall y (by simp [hy])) ht
    have e : srcOf ((x, t) :: L) ++ tail = wB x ++ (t ++ (srcOf L ++ tail)) := by simp [srcOf]
    have hk := hx.sk0 (t ++ (srcOf L ++ tail))
    have hsep : sepH (t ++ (srcOf L ++ tail)) = true := by
      cases t with
      | nil => exact absurd rfl hg1
      | cons c u => exact hg2
    have hf : firstF (wB x ++ (t ++ (srcOf L ++ tail))) = some (⟨x.k, x.t, x.n, 0⟩, (wB x).length) := by rw [first_sep _ _ hx.ne hsep]; exact hx
    have hr : Lexes (p + (wB x).length) (t ++ (srcOf L ++ tail)) ws1 none := lexes_skip (n := t.length) (hg3 _) (by simp) h1
    refine ⟨atPos ⟨x.k, x.t, x.n, 0⟩ p :: ws1, ?_, ?_⟩
    · rw [e]
      have k := Lexes.word p (wB x ++ (t ++ (srcOf L ++ tail))) ⟨x.k, x.t, x.n, 0⟩ (wB x).length ws1 none (by rw [hk]; exact hf) (by rw [hk]; simpa using hr)
      rw [hk] at k
      exact k
    · obtain ⟨h3, h4⟩ := h2
      refine ⟨by simp only [List.map_cons, List.cons_append, List.length_cons, h3], fun i a b ha hb => ?_⟩
      cases i with
      | zero =>
        simp at ha hb
        subst ha hb
        exact ⟨rfl, rfl, rfl, fun h => by cases h⟩
      | succ i => exact h4 i a b (by simpa using ha) (by simpa using hb)
theorem lexes_one (x : Lx.Tk) (h : WordOK x) (q : Nat) : Lexes q (wB x) [atPos ⟨x.k, x.t, x.n, 0⟩ q] none := by
  have hk : sk (wB x) = 0 := by simpa using h.sk0 []
  have k := Lexes.word q (wB x) ⟨x.k, x.t, x.n, 0⟩ (wB x).length [] none (by rw [hk]; exact h) (.done _ _ (by rw [hk]; simp [sk, Lx.skipN]))
  rw [hk] at k
  exact k
theorem alike_one (x : Lx.Tk) (q : Nat) : AlikeL false [x] [atPos ⟨x.k, x.t, x.n, 0⟩ q] := ⟨rfl, fun i a b ha hb => by
  cases i with
  | zero => simp at ha hb; subst ha hb; exact ⟨rfl, rfl, rfl, fun h => by cases h⟩
  | succ i => simp at ha⟩
theorem gap_blank : Gap [32] := ⟨by simp, rfl, fun u => by
  show sk (32 :: u) = 1 + sk u
  exact skip_blank 32 u (by decide)⟩
theorem textF_src (ws : List Lx.Tk) (x : Lx.Tk) : textF (ws ++ [x]) = srcOf (ws.map fun y => (y, [32])) ++ wB x := by
  induction ws with
  | nil => simp [textF, srcOf]
  | cons y r ih =>
    cases r with
    | nil => simp [textF, srcOf]
    | cons z r =>
      simp only [List.cons_append, textF, srcOf, List.flatMap_cons, List.map_cons] at ih ⊢
      rw [ih]
      simp
/-- Words written are the words. -/
theorem lex_text {p : Nat} {l : List UInt8} {ws : List Lx.Tk} {r : Option Nat} (h : Lexes p l ws r) : ∃ ws1, Lexes 0 (textF ws) ws1 none ∧ AlikeL false ws ws1 := by
  have hok := h.ok
  rcases List.eq_nil_or_concat ws with rfl | ⟨init, x, rfl⟩
  · exact ⟨[], .done _ _ (by simp [textF]), AlikeL.refl _ _⟩
  · rw [List.concat_eq_append] at hok ⊢
    have := lexes_src (init.map fun y => (y, [32])) (wB x) [x] 0 (fun y hy => by
      obtain ⟨z, hz, rfl⟩ := List.mem_map.1 hy
      exact ⟨hok z (by simp [hz]), gap_blank⟩) (fun q => ⟨_, lexes_one x (hok x (by simp)) q, alike_one x q⟩)
    rw [textF_src]
    simpa [List.map_map, Function.comp_def] using this
end Go.Proofs.YtnkfkaahjplnmaaGreatDoor

/- Where words stand: they rise; words that are alike are the words moved. -/
namespace Go.Proofs.YtnkfkaahjplnmaaGreatDoor
open Pz

theorem Lexes.pos_lt {p : Nat} {l : List UInt8} {ws : List Lx.Tk} {r : Option Nat} (h : Lexes p l ws r) : ∀ x ∈ ws, x.pos < p + l.length := by
  induction h with
  | done => simp
  | err => simp
  | word p l x m ws r h hr ih =>
    intro y hy
    have hb := firstF_bound h
    simp only [List.length_drop] at hb
    simp only [List.mem_cons] at hy
    rcases hy with rfl | hy
    · show p + sk l < _; omega
    · have := ih y hy; simp only [List.length_drop] at this; omega
theorem Lexes.rise {p : Nat} {l : List UInt8} {ws : List Lx.Tk} {r : Option Nat} (h : Lexes p l ws r) : ws.Pairwise (fun x y => x.pos < y.pos) := by
  induction h with
  | done => exact .nil
  | err => exact .nil
  | word p l x m ws r h hr ih =>
    have hb := firstF_bound h
    refine List.Pairwise.cons (fun y hy => ?_) ih
    have := hr.pos_ge y hy
    show p + sk l < _
    omega
theorem rise_idx {ws : List Lx.Tk} (h : ws.Pairwise (fun x y => x.pos < y.pos)) {i j : Nat} {x y : Lx.Tk} (hx : ws[i]? = some x) (hy : ws[j]? = some y) (hij : i < j) : x.pos < y.pos := by
  rw [List.pairwise_iff_getElem] at h
  obtain ⟨h1, rfl⟩ := List.getElem?_eq_some_iff.1 hx
  obtain ⟨h2, rfl⟩ := List.getElem?_eq_some_iff.1 hy
  exact h i j h1 h2 hij
theorem rise_inj {ws : List Lx.Tk} (h : ws.Pairwise (fun x y => x.pos < y.pos)) {i j : Nat} {x y : Lx.Tk} (hx : ws[i]? = some x) (hy : ws[j]? = some y) (hp : x.pos = y.pos) : i = j := by
  rcases Nat.lt_trichotomy i j with h1 | h1 | h1
  · have := rise_idx h hx hy h1; omega
  · exact h1
  · have := rise_idx h hy hx h1; omega

open Classical in
/-- Where the word goes that stands there. -/
noncomputable def movF (sz1 : Nat) (ws ws1 : List Lx.Tk) (x : Nat) : Nat :=
  if h : ∃ c : Nat × Lx.Tk × Lx.Tk, ws[c.1]? = some c.2.1 ∧ ws1[c.1]? = some c.2.2 ∧ c.2.1.pos = x then h.choose.2.2.pos else if x = 0 then 0 else sz1
theorem movF_at {sz1 : Nat} {ws ws1 : List Lx.Tk} (h : ws.Pairwise (fun x y => x.pos < y.pos)) {i : Nat} {a b : Lx.Tk} (ha : ws[i]? = some a) (hb : ws1[i]? = some b) : movF sz1 ws ws1 a.pos = b.pos := by
  unfold movF
  have hx : ∃ c : Nat × Lx.Tk × Lx.Tk, ws[c.1]? = some c.2.1 ∧ ws1[c.1]? = some c.2.2 ∧ c.2.1.pos = a.pos := ⟨(i, a, b), ha, hb, rfl⟩
  rw [dif_pos hx]
  obtain ⟨h1, h2, h3⟩ := hx.choose_spec
  have e := rise_inj h h1 ha h3
  rw [e, hb] at h2
  injection h2 with h2
  rw [← h2]
theorem movF_out {sz1 : Nat} {ws ws1 : List Lx.Tk} {x : Nat} (h : ∀ (i : Nat) a, ws[i]? = some a → a.pos ≠ x) : movF sz1 ws ws1 x = if x = 0 then 0 else sz1 := by
  unfold movF
  rw [dif_neg]
  rintro ⟨c, h1, _, h3⟩
  exact h _ _ h1 h3
theorem movF_spec {sz sz1 : Nat} {ws ws1 : List Lx.Tk} (h : ws.Pairwise (fun x y => x.pos < y.pos)) (hal : AlikeL false ws ws1) (h0 : ∀ b, ws1[0]? = some b → b.pos = 0) (hsz : ∀ x ∈ ws, x.pos < sz) (hs0 : sz = 0 → sz1 = 0) :
    movF sz1 ws ws1 0 = 0 ∧ movF sz1 ws ws1 sz = sz1 ∧ ws1 = ws.map (mT (movF sz1 ws ws1)) := by
  obtain ⟨hlen, hal⟩ := hal
  refine ⟨?_, ?_, ?_⟩
  · by_cases hc : ∃ a, ws[0]? = some a ∧ a.pos = 0
    · obtain ⟨a, ha, hp⟩ := hc
      have hlt := (List.getElem?_eq_some_iff.1 ha).1
      obtain ⟨b, hb⟩ : ∃ b, ws1[0]? = some b := ⟨_, List.getElem?_eq_getElem (by omega)⟩
      have := movF_at (sz1 := sz1) h ha hb
      rw [hp, h0 b hb] at this
      exact this
    · rw [movF_out (fun i a ha hp => ?_), if_pos rfl]
      cases i with
      | zero => exact hc ⟨a, ha, hp⟩
      | succ i =>
        have hlt := (List.getElem?_eq_some_iff.1 ha).1
        obtain ⟨b, hb⟩ : ∃ b, ws[0]? = some b := ⟨_, List.getElem?_eq_getElem (by omega)⟩
        have := rise_idx h hb ha (by omega)
        omega
  · rw [movF_out (fun i a ha hp => by have := hsz a (List.mem_of_getElem? ha); omega)]
    split
    · rename_i hz; exact (hs0 hz).symm
    · rfl
  · apply List.ext_getElem?
    intro i
    rw [List.getElem?_map]
    by_cases hi : i < ws.length
    · obtain ⟨a, ha⟩ : ∃ a, ws[i]? = some a := ⟨_, List.getElem?_eq_getElem hi⟩
      obtain ⟨b, hb⟩ : ∃ b, ws1[i]? = some b := ⟨_, List.getElem?_eq_getElem (by omega)⟩
      obtain ⟨e1, e2, e3, -⟩ := hal i a b ha hb
      rw [ha, hb, Option.map_some, mT, movF_at h ha hb, e1, e2, e3]
    · rw [List.getElem?_eq_none (by omega), List.getElem?_eq_none (by omega)]
      rfl
end Go.Proofs.YtnkfkaahjplnmaaGreatDoor
