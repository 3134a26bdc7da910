import PyProof.Rows.All
import Wide.All
import OpenK.AllK
import Wide.FinOn
import HandS.ForMost
import HandS.ForExc
import HandS.Gcd
import HandS.Wide
import HandS.WideMore
import HandS.IsInst
import HandS.ExcIs
import HandS.Style
import HandS.Zip
import HandS.FStr
import HandS.Flow
import HandS.Deep
import PySem.Challenge.RW_fineststep_k00_exact_numbers
import Open.SpecLaws
set_option Elab.async false
set_option linter.all false
set_option maxRecDepth 100000
set_option maxHeartbeats 4000000
set_option Elab.async false
set_option linter.all false
set_option maxRecDepth 100000
set_option maxHeartbeats 4000000
/-! A layer of data: what an expression is worth, a def at a time, over the hand layer. -/
namespace DL
open PySem PySem.Spec PyProof.Rows L2

/-! ### what a value is worth, by a heap that only grows -/
structure Rep where
  P : Hp → V → Prop
  mono : ∀ {F F' : Hp} {v : V}, Same F F' → P F v → P F' v
def RL (F : Hp) (l : List Rep) (vs : List V) : Prop := Paired (fun (r : Rep) v => r.P F v) l vs
theorem RL.mono {F F' : Hp} (s : Same F F') : ∀ {l : List Rep} {vs : List V}, RL F l vs → RL F' l vs
  | _, _, .nil => .nil
  | _, _, .cons h t => .cons (Rep.mono _ s h) (RL.mono s t)
theorem RL.len {F : Hp} {l : List Rep} {vs : List V} (h : RL F l vs) : l.length = vs.length := Paired.length h
theorem RL.get {F : Hp} : ∀ {l : List Rep} {vs : List V} {i : Nat} {r : Rep}, RL F l vs → l[i]? = some r → ∃ v, vs[i]? = some v ∧ r.P F v
  | _, _, _, _, .nil, e => by simp at e
  | _, _, 0, _, .cons h _, e => by simp at e; subst e; exact ⟨_, rfl, h⟩
  | _, _, i + 1, r, .cons _ t, e => by
    obtain ⟨v, h1, h2⟩ := RL.get (i := i) (r := r) t (by simpa using e)
    exact ⟨v, by simpa using h1, h2⟩
theorem RL.got {F : Hp} : ∀ {l : List Rep} {vs : List V} {i : Nat} {v : V}, RL F l vs → vs[i]? = some v → ∃ r, l[i]? = some r ∧ r.P F v
  | _, _, _, _, .nil, e => by simp at e
  | _, _, 0, _, .cons h _, e => by simp at e; subst e; exact ⟨_, rfl, h⟩
  | _, _, i + 1, v, .cons _ t, e => by
    obtain ⟨r, h1, h2⟩ := RL.got (i := i) (v := v) t (by simpa using e)
    exact ⟨r, by simpa using h1, h2⟩
theorem RL.app {F : Hp} : ∀ {l m : List Rep} {vs ws : List V}, RL F l vs → RL F m ws → RL F (l ++ m) (vs ++ ws)
  | _, _, _, _, .nil, s => s
  | _, _, _, _, .cons h t, s => .cons h (RL.app t s)
theorem RL.take {F : Hp} : ∀ {l : List Rep} {vs : List V} (n : Nat), RL F l vs → RL F (l.take n) (vs.take n)
  | _, _, 0, _ => .nil
  | _, _, _ + 1, .nil => .nil
  | _, _, n + 1, .cons h t => .cons h (RL.take n t)
theorem RL.drop {F : Hp} : ∀ {l : List Rep} {vs : List V} (n : Nat), RL F l vs → RL F (l.drop n) (vs.drop n)
  | _, _, 0, r => r
  | _, _, _ + 1, .nil => .nil
  | _, _, n + 1, .cons _ t => RL.drop n t
theorem RL.set {F : Hp} {r : Rep} {v : V} (h : r.P F v) : ∀ {l : List Rep} {vs : List V} (i : Nat), RL F l vs → RL F (l.set i r) (vs.set i v)
  | _, _, _, .nil => .nil
  | _, _, 0, .cons _ t => .cons h t
  | _, _, i + 1, .cons q t => .cons q (RL.set h i t)
theorem RL.snoc {F : Hp} {l : List Rep} {vs : List V} {r : Rep} {v : V} (h : RL F l vs) (q : r.P F v) : RL F (l ++ [r]) (vs ++ [v]) := h.app (.cons q .nil)

def rC (v : V) : Rep := ⟨fun _ x => x = v, fun _ h => h⟩
abbrev rInt (i : Int) : Rep := rC (.int i)
abbrev rBl (b : Bool) : Rep := rC (.bl b)
abbrev rStr (s : Str) : Rep := rC (.str s)
abbrev rNon : Rep := rC .non
theorem sqt_mono {K : PySem.W.Frag} {H H' : Hp} {a : Addr} {xs : List V} (e : Same H H') (h : SqT K H a xs) : SqT K H' a xs := by
  rcases h with (h | ⟨o, h⟩) | h
  · exact .inl (.inl (e _ _ h))
  · exact .inl (.inr ⟨o, e _ _ h⟩)
  · exact .inr h
def rTup (K : PySem.W.Frag) (l : List Rep) : Rep := ⟨fun F x => ∃ a vs, x = .ref a ∧ SqT K F a vs ∧ RL F l vs, fun s ⟨a, vs, e, h, q⟩ => ⟨a, vs, e, sqt_mono s h, q.mono s⟩⟩
def rLst (K : PySem.W.Frag) (l : List Rep) : Rep := ⟨fun F x => ∃ a vs, x = .ref a ∧ SqL K F a vs ∧ RL F l vs, fun s ⟨a, vs, e, h, q⟩ => ⟨a, vs, e, s.seq h, q.mono s⟩⟩
/-- a number: a whole one, or a pair in lowest terms -/
def rNum (K : PySem.W.Frag) (q : Rat) : Rep := if q.den = 1 then rInt q.num else rTup K [rInt q.num, rInt (q.den : Int)]
/-- one is worth what the other is worth -/
def Sub (r r' : Rep) : Prop := ∀ F v, r.P F v → r'.P F v
theorem Sub.rfl {r : Rep} : Sub r r := fun _ _ h => h
theorem Sub.of {r r' : Rep} (e : r = r') : Sub r r' := e ▸ Sub.rfl
theorem Sub.trans {a b c : Rep} (h : Sub a b) (k : Sub b c) : Sub a c := fun F v q => k F v (h F v q)

/-! ### growth: F the part that stands still, H the heap -/
structure Gr (F H F' H' : Hp) : Prop where
  f : Same F F'
  h : Same H H'
  s : Same F' H'
  n : ∀ a, H a ≠ none → F a = none → F' a = none
theorem Gr.refl {F H : Hp} (s : Same F H) : Gr F H F H := ⟨Same.refl _, Same.refl _, s, fun _ _ h => h⟩
theorem Gr.trans {F H F1 H1 F2 H2 : Hp} (a : Gr F H F1 H1) (b : Gr F1 H1 F2 H2) : Gr F H F2 H2 :=
  ⟨a.f.trans b.f, a.h.trans b.h, b.s, fun x h e => b.n x (fun z => h (a.h.free z)) (a.n x h e)⟩
theorem same_new {H : Hp} {p : Addr} {o : HO} (h : H p = none) : Same H (upd H p o) := fun b x e => by
  rw [upd_ne (ne_of_none e h)]
  exact e
theorem same_upd2 {F H : Hp} {p : Addr} {o : HO} (s : Same F H) : Same (upd F p o) (upd H p o) := fun b x e => by
  by_cases hb : b = p
  · subst hb
    rw [upd_same] at e ⊢
    exact e
  · rw [upd_ne hb] at e ⊢
    exact s _ _ e
theorem same_out {F H : Hp} {p : Addr} {o : HO} (s : Same F H) (h : F p = none) : Same F (upd H p o) := fun b x e => by
  rw [upd_ne (ne_of_none e h)]
  exact s _ _ e
theorem free_of {F H : Hp} {p : Addr} (s : Same F H) (h : H p = none) : F p = none := s.free h
/-- a new thing that stands still -/
theorem Gr.new {F H : Hp} {p : Addr} {o : HO} (s : Same F H) (h : H p = none) : Gr F H (upd F p o) (upd H p o) :=
  ⟨same_new (s.free h), same_new h, same_upd2 s, fun a ha e => by
    have hp : a ≠ p := fun z => ha (z ▸ h)
    rw [upd_ne hp]
    exact e⟩
/-- a new thing of one's own -/
theorem Gr.newOwn {F H : Hp} {p : Addr} {o : HO} (s : Same F H) (h : H p = none) : Gr F H F (upd H p o) :=
  ⟨Same.refl _, same_new h, same_out s (s.free h), fun _ _ e => e⟩

/-! ### what the slots hold -/
inductive Sl where
  | any
  | im (r : Rep)
  | ow (l : List Rep)
def Sl.ok (F H : Hp) : Sl → Option V → Prop
  | .any, _ => True
  | .im r, x => ∃ v, x = some v ∧ r.P F v
  | .ow l, x => ∃ p vs, x = some (.ref p) ∧ F p = none ∧ H p = some (.lst vs) ∧ RL F l vs
structure En (F0 H0 F H : Hp) (σ : L2.St) (Γ : List Sl) : Prop where
  gr : Gr F0 H0 F H
  len : Γ.length = σ.length
  ok : ∀ (i : Nat) (s : Sl) (x : Option V), Γ[i]? = some s → σ[i]? = some x → s.ok F H x
  own : ∀ (i : Nat) (p : Addr) (l : List Rep), Γ[i]? = some (.ow l) → σ[i]? = some (some (.ref p)) → H0 p = none
  sep : ∀ (i j : Nat) (p : Addr) (l l' : List Rep), Γ[i]? = some (.ow l) → Γ[j]? = some (.ow l') → σ[i]? = some (some (.ref p)) → σ[j]? = some (some (.ref p)) → i = j
section
variable {F0 H0 F H F' H' : Hp} {σ : L2.St} {Γ : List Sl} {i : Nat} {r : Rep} {l : List Rep} {v : V} {vs : List V} {p : Addr}
theorem En.at (e : En F0 H0 F H σ Γ) {s : Sl} (h : Γ[i]? = some s) : ∃ x, σ[i]? = some x ∧ s.ok F H x := by
  have hi : i < Γ.length := (List.getElem?_eq_some_iff.mp h).1
  have hj : i < σ.length := e.len ▸ hi
  exact ⟨σ[i], List.getElem?_eq_getElem hj, e.ok i s _ h (List.getElem?_eq_getElem hj)⟩
theorem En.im (e : En F0 H0 F H σ Γ) (h : Γ[i]? = some (.im r)) : ∃ v, σ[i]? = some (some v) ∧ r.P F v := by
  obtain ⟨x, h1, v, h2, h3⟩ := e.at h
  exact ⟨v, h2 ▸ h1, h3⟩
theorem En.ow (e : En F0 H0 F H σ Γ) (h : Γ[i]? = some (.ow l)) : ∃ p vs, σ[i]? = some (some (.ref p)) ∧ F p = none ∧ H p = some (.lst vs) ∧ RL F l vs ∧ H0 p = none := by
  obtain ⟨x, h1, p, vs, h2, h3, h4, h5⟩ := e.at h
  subst h2
  exact ⟨p, vs, h1, h3, h4, h5, e.own i p l h h1⟩
theorem En.grow (e : En F0 H0 F H σ Γ) (g : Gr F H F' H') : En F0 H0 F' H' σ Γ where
  gr := e.gr.trans g
  len := e.len
  ok i s x h1 h2 := by
    have q := e.ok i s x h1 h2
    cases s with
    | any => trivial
    | im r =>
      obtain ⟨v, a, b⟩ := q
      exact ⟨v, a, r.mono g.f b⟩
    | ow l =>
      obtain ⟨p, vs, a, b, c, d⟩ := q
      exact ⟨p, vs, a, g.n p (by rw [c]; exact fun z => nomatch z) b, g.h _ _ c, d.mono g.f⟩
  own := e.own
  sep := e.sep
theorem get_set {α : Type} {l : List α} {i j : Nat} {x y : α} (h : (l.set i x)[j]? = some y) : (i = j ∧ y = x) ∨ (i ≠ j ∧ l[j]? = some y) := by
  by_cases hi : i = j
  · subst hi
    have hl : i < l.length := by
      have := (List.getElem?_eq_some_iff.mp h).1
      simpa using this
    rw [List.getElem?_set_self hl] at h
    exact .inl ⟨rfl, (Option.some.inj h).symm⟩
  · rw [List.getElem?_set_ne hi] at h
    exact .inr ⟨hi, h⟩
theorem En.setIm (e : En F0 H0 F H σ Γ) (h : r.P F v) : En F0 H0 F H (σ.set i (some v)) (Γ.set i (.im r)) where
  gr := e.gr
  len := by simpa using e.len
  ok j s x h1 h2 := by
    rcases get_set h1 with ⟨rfl, rfl⟩ | ⟨n, h1⟩
    · rcases get_set h2 with ⟨_, rfl⟩ | ⟨n, _⟩
      · exact ⟨v, rfl, h⟩
      · exact absurd rfl n
    · rcases get_set h2 with ⟨z, _⟩ | ⟨_, h2⟩
      · exact absurd z n
      · exact e.ok j s x h1 h2
  own j p l h1 h2 := by
    rcases get_set h1 with ⟨_, z⟩ | ⟨n, h1⟩
    · cases z
    · rcases get_set h2 with ⟨z, _⟩ | ⟨_, h2⟩
      · exact absurd z n
      · exact e.own j p l h1 h2
  sep j k p l l' h1 h1' h2 h2' := by
    rcases get_set h1 with ⟨_, z⟩ | ⟨n, h1⟩
    · cases z
    rcases get_set h1' with ⟨_, z⟩ | ⟨n', h1'⟩
    · cases z
    rw [List.getElem?_set_ne n] at h2
    rw [List.getElem?_set_ne n'] at h2'
    exact e.sep j k p l l' h1 h1' h2 h2'
theorem En.setAny (e : En F0 H0 F H σ Γ) (x : Option V) : En F0 H0 F H (σ.set i x) (Γ.set i .any) where
  gr := e.gr
  len := by simpa using e.len
  ok j s y h1 h2 := by
    rcases get_set h1 with ⟨rfl, rfl⟩ | ⟨n, h1⟩
    · trivial
    · rcases get_set h2 with ⟨z, _⟩ | ⟨_, h2⟩
      · exact absurd z n
      · exact e.ok j s y h1 h2
  own j p l h1 h2 := by
    rcases get_set h1 with ⟨_, z⟩ | ⟨n, h1⟩
    · cases z
    · rcases get_set h2 with ⟨z, _⟩ | ⟨_, h2⟩
      · exact absurd z n
      · exact e.own j p l h1 h2
  sep j k p l l' h1 h1' h2 h2' := by
    rcases get_set h1 with ⟨_, z⟩ | ⟨n, h1⟩
    · cases z
    rcases get_set h1' with ⟨_, z⟩ | ⟨n', h1'⟩
    · cases z
    rw [List.getElem?_set_ne n] at h2
    rw [List.getElem?_set_ne n'] at h2'
    exact e.sep j k p l l' h1 h1' h2 h2'
/-- a list of one's own, that no slot holds -/
theorem En.setOw (e : En F0 H0 F H σ Γ) (hF : F p = none) (hH : H p = some (.lst vs)) (hr : RL F l vs) (h0 : H0 p = none) (hn : ∀ (j : Nat) (l' : List Rep), Γ[j]? = some (.ow l') → σ[j]? ≠ some (some (.ref p))) :
    En F0 H0 F H (σ.set i (some (.ref p))) (Γ.set i (.ow l)) where
  gr := e.gr
  len := by simpa using e.len
  ok j s x h1 h2 := by
    rcases get_set h1 with ⟨rfl, rfl⟩ | ⟨n, h1⟩
    · rcases get_set h2 with ⟨_, rfl⟩ | ⟨n, _⟩
      · exact ⟨p, vs, rfl, hF, hH, hr⟩
      · exact absurd rfl n
    · rcases get_set h2 with ⟨z, _⟩ | ⟨_, h2⟩
      · exact absurd z n
      · exact e.ok j s x h1 h2
  own j q l h1 h2 := by
    rcases get_set h2 with ⟨rfl, z⟩ | ⟨n, h2⟩
    · cases z
      exact h0
    · rcases get_set h1 with ⟨z, _⟩ | ⟨_, h1⟩
      · exact absurd z n
      · exact e.own j q l h1 h2
  sep j k q l1 l2 h1 h1' h2 h2' := by
    rcases get_set h2 with ⟨rfl, z⟩ | ⟨n, h2⟩
    · cases z
      rcases get_set h2' with ⟨rfl, _⟩ | ⟨n', h2'⟩
      · rfl
      · rcases get_set h1' with ⟨z, _⟩ | ⟨_, h1'⟩
        · exact z
        · exact absurd h2' (hn k l2 h1')
    · rcases get_set h1 with ⟨z, _⟩ | ⟨_, h1⟩
      · exact absurd z n
      rcases get_set h2' with ⟨rfl, z⟩ | ⟨n', h2'⟩
      · cases z
        exact absurd h2 (hn j l1 h1)
      · rcases get_set h1' with ⟨z, _⟩ | ⟨_, h1'⟩
        · exact absurd z n'
        · exact e.sep j k q l1 l2 h1 h1' h2 h2'
/-- a list of one's own is written anew -/
theorem En.put (e : En F0 H0 F H σ Γ) (h : Γ[i]? = some (.ow l)) (hs : σ[i]? = some (some (.ref p))) {l' : List Rep} {ws : List V} (hr : RL F l' ws) : En F0 H0 F (upd H p (.lst ws)) σ (Γ.set i (.ow l')) := by
  obtain ⟨p', vs', h1, h2, h3, h4, h5⟩ := e.ow h
  rw [hs] at h1
  cases h1
  exact {
    gr := ⟨e.gr.f, fun b o z => by rw [upd_ne (ne_of_none z h5)]; exact e.gr.h b o z, same_out e.gr.s h2, e.gr.n⟩
    len := by simpa using e.len
    ok := fun j s x k1 k2 => by
      rcases get_set k1 with ⟨rfl, rfl⟩ | ⟨n, k1⟩
      · rw [hs] at k2
        cases k2
        exact ⟨p, ws, rfl, h2, upd_same, hr⟩
      · have q := e.ok j s x k1 k2
        cases s with
        | any => trivial
        | im r => exact q
        | ow m =>
          obtain ⟨p2, ws2, a, b, c, d⟩ := q
          subst a
          refine ⟨p2, ws2, rfl, b, ?_, d⟩
          have hp : p2 ≠ p := fun z => n (e.sep i j p l m h k1 hs (z ▸ k2))
          rw [upd_ne hp]
          exact c
    own := fun j q m k1 k2 => by
      rcases get_set k1 with ⟨rfl, _⟩ | ⟨n, k1⟩
      · rw [hs] at k2
        cases k2
        exact h5
      · exact e.own j q m k1 k2
    sep := fun j k q m m' k1 k1' k2 k2' => by
      have g : ∀ {j : Nat} {m : List Rep}, (Γ.set i (.ow l'))[j]? = some (.ow m) → ∃ m1, Γ[j]? = some (.ow m1) := fun {j m} k1 => by
        rcases get_set k1 with ⟨rfl, _⟩ | ⟨n, k1⟩
        · exact ⟨l, h⟩
        · exact ⟨m, k1⟩
      obtain ⟨m1, k1⟩ := g k1
      obtain ⟨m2, k1'⟩ := g k1'
      exact e.sep j k q m1 m2 k1 k1' k2 k2' }
/-- a list of one's own stands still from now on -/
theorem En.freeze {K : PySem.W.Frag} (e : En F0 H0 F H σ Γ) (h : Γ[i]? = some (.ow l)) : ∃ F', Same F F' ∧ Same F' H ∧ En F0 H0 F' H σ (Γ.set i (.im (rLst K l))) := by
  obtain ⟨p, vs, h1, h2, h3, h4, h5⟩ := e.ow h
  have s1 : Same F (upd F p (.lst vs)) := same_new h2
  have s2 : Same (upd F p (.lst vs)) H := fun b o z => by
    by_cases hb : b = p
    · subst hb
      rw [upd_same] at z
      rw [h3, ← z]
    · rw [upd_ne hb] at z
      exact e.gr.s b o z
  have nn : ∀ {j : Nat} {q : Addr} {m : List Rep}, j ≠ i → Γ[j]? = some (.ow m) → σ[j]? = some (some (.ref q)) → q ≠ p := fun {j q m} hj k1 k2 z => hj (e.sep j i p m l k1 h (z ▸ k2) h1)
  refine ⟨upd F p (.lst vs), s1, s2, ?_⟩
  exact {
    gr := ⟨e.gr.f.trans s1, e.gr.h, s2, fun a ha z => by
      have hp : a ≠ p := fun y => ha (y ▸ h5)
      rw [upd_ne hp]
      exact e.gr.n a ha z⟩
    len := by simpa using e.len
    ok := fun j s x k1 k2 => by
      rcases get_set k1 with ⟨rfl, rfl⟩ | ⟨n, k1⟩
      · rw [h1] at k2
        cases k2
        exact ⟨.ref p, rfl, p, vs, rfl, SqL.of upd_same, h4.mono s1⟩
      · have q := e.ok j s x k1 k2
        cases s with
        | any => trivial
        | im r =>
          obtain ⟨v, a, b⟩ := q
          exact ⟨v, a, r.mono s1 b⟩
        | ow m =>
          obtain ⟨p2, ws2, a, b, c, d⟩ := q
          subst a
          refine ⟨p2, ws2, rfl, ?_, c, d.mono s1⟩
          rw [upd_ne (nn (Ne.symm n) k1 k2)]
          exact b
    own := fun j q m k1 k2 => by
      rcases get_set k1 with ⟨_, z⟩ | ⟨n, k1⟩
      · cases z
      · exact e.own j q m k1 k2
    sep := fun j k q m m' k1 k1' k2 k2' => by
      rcases get_set k1 with ⟨_, z⟩ | ⟨n, k1⟩
      · cases z
      rcases get_set k1' with ⟨_, z⟩ | ⟨n', k1'⟩
      · cases z
      exact e.sep j k q m m' k1 k1' k2 k2' }
end
/-! ### slots of which less is known -/
inductive SlLe : List Sl → List Sl → Prop
  | nil : SlLe [] []
  | any {s : Sl} {Γ Γ' : List Sl} : SlLe Γ Γ' → SlLe (s :: Γ) (.any :: Γ')
  | same {s : Sl} {Γ Γ' : List Sl} : SlLe Γ Γ' → SlLe (s :: Γ) (s :: Γ')
  | im {r r' : Rep} {Γ Γ' : List Sl} (h : Sub r r') : SlLe Γ Γ' → SlLe (.im r :: Γ) (.im r' :: Γ')
  | ow {l l' : List Rep} {Γ Γ' : List Sl} (h : l = l') : SlLe Γ Γ' → SlLe (.ow l :: Γ) (.ow l' :: Γ')
theorem SlLe.len : ∀ {Γ Γ' : List Sl}, SlLe Γ Γ' → Γ.length = Γ'.length
  | _, _, .nil => rfl
  | _, _, .any h => congrArg (· + 1) h.len
  | _, _, .same h => congrArg (· + 1) h.len
  | _, _, .im _ h => congrArg (· + 1) h.len
  | _, _, .ow _ h => congrArg (· + 1) h.len
theorem SlLe.rfl : ∀ {Γ : List Sl}, SlLe Γ Γ
  | [] => .nil
  | _ :: _ => .same SlLe.rfl
theorem SlLe.at : ∀ {Γ Γ' : List Sl}, SlLe Γ Γ' → ∀ {i : Nat} {s' : Sl}, Γ'[i]? = some s' → ∃ s, Γ[i]? = some s ∧ (s = s' ∨ s' = .any ∨ (∃ r r', s = .im r ∧ s' = .im r' ∧ Sub r r'))
  | _, _, .nil, i, s', h => by simp at h
  | _, _, .any h, 0, s', e => by simp at e; subst e; exact ⟨_, _root_.rfl, .inr (.inl _root_.rfl)⟩
  | _, _, .same h, 0, s', e => by simp at e; subst e; exact ⟨_, _root_.rfl, .inl _root_.rfl⟩
  | _, _, .im k h, 0, s', e => by simp at e; subst e; exact ⟨_, _root_.rfl, .inr (.inr ⟨_, _, _root_.rfl, _root_.rfl, k⟩)⟩
  | _, _, .ow k h, 0, s', e => by simp at e; subst e; exact ⟨_, _root_.rfl, .inl (by rw [k])⟩
  | _, _, .any h, i + 1, s', e => by simpa using h.at (i := i) (by simpa using e)
  | _, _, .same h, i + 1, s', e => by simpa using h.at (i := i) (by simpa using e)
  | _, _, .im k h, i + 1, s', e => by simpa using h.at (i := i) (by simpa using e)
  | _, _, .ow k h, i + 1, s', e => by simpa using h.at (i := i) (by simpa using e)
theorem En.le {F0 H0 F H : Hp} {σ : L2.St} {Γ Γ' : List Sl} (e : En F0 H0 F H σ Γ) (h : SlLe Γ Γ') : En F0 H0 F H σ Γ' where
  gr := e.gr
  len := by rw [← h.len]; exact e.len
  ok i s' x h1 h2 := by
    obtain ⟨s, k1, k2⟩ := h.at h1
    have q := e.ok i s x k1 h2
    rcases k2 with rfl | rfl | ⟨r, r', rfl, rfl, hs⟩
    · exact q
    · trivial
    · obtain ⟨v, a, b⟩ := q
      exact ⟨v, a, hs F v b⟩
  own i p l h1 h2 := by
    obtain ⟨s, k1, k2⟩ := h.at h1
    rcases k2 with rfl | z | ⟨r, r', rfl, z, hs⟩
    · exact e.own i p l k1 h2
    · cases z
    · cases z
  sep i j p l l' h1 h1' h2 h2' := by
    obtain ⟨s, k1, k2⟩ := h.at h1
    obtain ⟨s', k1', k2'⟩ := h.at h1'
    rcases k2 with rfl | z | ⟨r, r', rfl, z, hs⟩
    · rcases k2' with rfl | z | ⟨r, r', rfl, z, hs⟩
      · exact e.sep i j p l l' k1 k1' h2 h2'
      · cases z
      · cases z
    · cases z
    · cases z
end DL

set_option Elab.async false
set_option linter.all false
set_option maxRecDepth 100000
set_option maxHeartbeats 4000000
namespace DL
open PySem PySem.Spec PyProof.Rows L2

/-! ### what is asked of an expression, a test, an argument list, a block -/
def EV (X : Cx) (e : Expr) (σ : L2.St) (H : Hp) (Q : VK) : Prop := ∀ (pins : List (Addr × Obj)) (s : Shared), Inv X pins σ H s → wpAny (model X.prog X.w) X.A (eval e X.env) (EP X pins σ Q) X.xe s
def TV (X : Cx) (e : Expr) (σ : L2.St) (H : Hp) (Q : Bool → Hp → Prop) : Prop := ∀ (pins : List (Addr × Obj)) (s : Shared), Inv X pins σ H s → wpAny (model X.prog X.w) X.A (isTrue e X.env (eval e X.env)) (TP X pins σ Q) X.xe s
def WV (X : Cx) (e : Expr) (σ : L2.St) (H : Hp) (Q : Bool → Hp → Prop) : Prop := ∀ (whole : Sem Value) (pins : List (Addr × Obj)) (s : Shared), Inv X pins σ H s → wpAny (model X.prog X.w) X.A (isTrue e X.env whole) (TP X pins σ Q) X.xe s
def AV (X : Cx) (es : List Expr) (σ : L2.St) (H : Hp) (Q : List V → Hp → Prop) : Prop := ∀ (pos : Pos) (pins : List (Addr × Obj)) (s : Shared), Inv X pins σ H s → wpAny (model X.prog X.w) X.A (spliced (backTo pos (starEach es X.env))) (AP X pins σ Q) X.xe s
def XS (X : Cx) (st : List Stmt) (D : Ends) (σ : L2.St) (H : Hp) : Prop := ∀ (pins : List (Addr × Obj)) (s : Shared), Inv X pins σ H s → wpAny (model X.prog X.w) X.A (execs st X.env) (SP X pins D) X.xe s
section
variable {X : Cx} {e : Expr} {es : List Expr} {st : List Stmt} {σ : L2.St} {H : Hp}
theorem pe_ev : PE X e (EV X e) := ⟨fun pins s σ H Q I h => h pins s I⟩
theorem pt_ev : PT X e (TV X e) := ⟨fun pins s σ H Q I h => h pins s I⟩
theorem pw_ev : PW X e (WV X e) := ⟨fun whole pins s σ H Q I h => h whole pins s I⟩
theorem pa_ev : PA X es (AV X es) := ⟨fun pos pins s σ H Q I h => h pos pins s I⟩
theorem pss_ev : PSs X st (XS X st) := ⟨fun pins s σ H D I h => h pins s I⟩
theorem EV.of {te : TE} {Q : VK} (h : PE X e te) (q : te σ H Q) : EV X e σ H Q := fun pins s I => h.run pins s σ H Q I q
theorem TV.of {te : TT} {Q : Bool → Hp → Prop} (h : PT X e te) (q : te σ H Q) : TV X e σ H Q := fun pins s I => h.run pins s σ H Q I q
theorem WV.of {te : TT} {Q : Bool → Hp → Prop} (h : PW X e te) (q : te σ H Q) : WV X e σ H Q := fun whole pins s I => h.run whole pins s σ H Q I q
theorem AV.of {te : TA} {Q : List V → Hp → Prop} (h : PA X es te) (q : te σ H Q) : AV X es σ H Q := fun pos pins s I => h.run pos pins s σ H Q I q
theorem XS.of {te : TS} {D : Ends} (h : PSs X st te) (q : te D σ H) : XS X st D σ H := fun pins s I => h.run pins s σ H D I q
end

/-- where a def's body runs: its names, its scope, the room -/
structure BX (X : Cx) (N : List Str) (sc : Scope) (k : Nat) : Prop where
  hN : X.N = N
  hsc : X.env.scope = sc
  nd : N.Nodup
  room : Room k X.A
  calm : X.calm = true
  own : PassesOwn (model X.prog X.w) X.A X.env X.xe

/-- the values -/
def DE (X : Cx) (Γ : List Sl) (e : Expr) (r : Rep) : Prop := ∀ F0 H0 F H σ, En F0 H0 F H σ Γ → ∀ Q : VK, (∀ v F' H', Gr F H F' H' → r.P F' v → Q v H') → EV X e σ H Q
def DA (X : Cx) (Γ : List Sl) (es : List Expr) (rs : List Rep) : Prop := ∀ F0 H0 F H σ, En F0 H0 F H σ Γ → ∀ Q : List V → Hp → Prop, (∀ vs F' H', Gr F H F' H' → RL F' rs vs → Q vs H') → AV X es σ H Q
/-- a new list of one's own -/
def DL (X : Cx) (Γ : List Sl) (e : Expr) (l : List Rep) : Prop := ∀ F0 H0 F H σ, En F0 H0 F H σ Γ → ∀ Q : VK, (∀ p vs F' H', Gr F H F' H' → H p = none → F' p = none → H' p = some (.lst vs) → RL F' l vs → Q (.ref p) H') → EV X e σ H Q
def DT (X : Cx) (Γ : List Sl) (e : Expr) (b : Bool) : Prop := ∀ F0 H0 F H σ, En F0 H0 F H σ Γ → ∀ Q : Bool → Hp → Prop, (∀ F' H', Gr F H F' H' → Q b H') → TV X e σ H Q
def DW (X : Cx) (Γ : List Sl) (e : Expr) (b : Bool) : Prop := ∀ F0 H0 F H σ, En F0 H0 F H σ Γ → ∀ Q : Bool → Hp → Prop, (∀ F' H', Gr F H F' H' → Q b H') → WV X e σ H Q

section
variable {X : Cx} {N : List Str} {sc : Scope} {k : Nat} {Γ : List Sl} {a b c e : Expr} {es rest : List Expr} {r ra rb rc r' : Rep} {rs l : List Rep} {pos p : Pos} {x : Str}
theorem DE.sub (h : DE X Γ e r) (s : Sub r r') : DE X Γ e r' := fun F0 H0 F H σ en Q q => h F0 H0 F H σ en Q fun v F' H' g hv => q v F' H' g (s F' v hv)
theorem DE.to (h : DE X Γ e r) (s : r = r') : DE X Γ e r' := s ▸ h
theorem DT.to {b b' : Bool} (h : DT X Γ e b) (s : b = b') : DT X Γ e b' := s ▸ h
theorem DL.to {l l' : List Rep} (h : DL X Γ e l) (s : l = l') : DL X Γ e l' := s ▸ h
theorem DL.froz (h : DL X Γ e l) : DE X Γ e (rLst X.K l) := fun F0 H0 F H σ en Q q => h F0 H0 F H σ en Q fun p vs F' H' g h1 h2 h3 h4 =>
  q (.ref p) (upd F' p (.lst vs)) H' ⟨g.f.trans (same_new h2), g.h, fun b o z => by
    by_cases hb : b = p
    · subst hb
      rw [upd_same] at z
      rw [h3, ← z]
    · rw [upd_ne hb] at z
      exact g.s b o z, fun a ha z => by
    have hp : a ≠ p := fun y => ha (y ▸ h1)
    rw [upd_ne hp]
    exact g.n a ha z⟩ ⟨p, vs, rfl, SqL.of upd_same, h4.mono (same_new h2)⟩
theorem de_var (B : BX X N sc k) {i : Nat} (hΓ : Γ[i]? = some (.im r)) (hN : N[i]? = some x) (hv : Vis sc x) (hd : (x == ("__debug__" : Str)) = false := by decide) (hcd : (x == ("__classdict__" : Str)) = false := by decide) : DE X Γ (.Name x pos) r := fun F0 H0 F H σ en Q q => by
  obtain ⟨v, h1, h2⟩ := en.im hΓ
  exact .of (pe_var (i := i) (B.hN ▸ hN) (B.hsc ▸ hv) hd hcd) ⟨v, h1, q v F H (.refl en.gr.s) h2⟩
theorem de_int {i : Int} {j : Nat} : DE X Γ (.Constant (.int i) j pos) (rInt i) := fun F0 H0 F H σ en Q q => .of pe_int (q _ F H (.refl en.gr.s) rfl)
theorem de_bl {i : Bool} {j : Nat} : DE X Γ (.Constant (.bool i) j pos) (rBl i) := fun F0 H0 F H σ en Q q => .of pe_bl (q _ F H (.refl en.gr.s) rfl)
theorem de_non {j : Nat} : DE X Γ (.Constant .none j pos) rNon := fun F0 H0 F H σ en Q q => .of pe_non (q _ F H (.refl en.gr.s) rfl)
theorem de_str {s : Str} {j : Nat} : DE X Γ (.Constant (.str s) j pos) (rStr s) := fun F0 H0 F H σ en Q q => .of pe_str (q _ F H (.refl en.gr.s) rfl)
/-- an operator by values -/
def B2 (r2 : R2) (ra rb rc : Rep) : Prop := ∀ F H x y, Same F H → ra.P F x → rb.P F y → ∀ Q : VK, (∀ v F' H', Gr F H F' H' → rc.P F' v → Q v H') → r2 x y H Q
theorem two {r2 : R2} (ha : DE X Γ a ra) (hb : DE X Γ b rb) (h2 : B2 r2 ra rb rc) {F0 H0 F H : Hp} {σ : L2.St} (en : En F0 H0 F H σ Γ) {Q : VK} (q : ∀ v F' H', Gr F H F' H' → rc.P F' v → Q v H') :
    tOp r2 (EV X a) (EV X b) σ H Q :=
  ha F0 H0 F H σ en _ fun v F1 H1 g1 h1 => hb F0 H0 F1 H1 σ (en.grow g1) _ fun u F2 H2 g2 k2 => h2 F2 H2 v u g2.s (ra.mono g2.f h1) k2 Q fun z F3 H3 g3 h3 => q z F3 H3 ((g1.trans g2).trans g3) h3
theorem de_op {op : Operator} {r2 : R2} (ho : OpR X (binaryOp op) r2) (h2 : B2 r2 ra rb rc) (ha : DE X Γ a ra) (hb : DE X Γ b rb) : DE X Γ (.BinOp a op b pos) rc := fun F0 H0 F H σ en Q q =>
  .of (pe_op ho pe_ev pe_ev) (two ha hb h2 en q)
theorem de_cmp {op : CmpOp} {r2 : R2} (ho : OpR X (compareOp op) r2) (h2 : B2 r2 ra rb rc) (ha : DE X Γ a ra) (hb : DE X Γ b rb) (hm : behindInMarks op b = false) : DE X Γ (.Compare a [op] [b] pos) rc := fun F0 H0 F H σ en Q q =>
  .of (pe_cmpR ho pe_ev pe_ev hm) (two ha hb h2 en q)
theorem dt_cmp {op : CmpOp} {r2 : R2} {t : Bool} (ho : OpR X (compareOp op) r2) (h2 : B2 r2 ra rb (rBl t)) (ha : DE X Γ a ra) (hb : DE X Γ b rb) (hm : behindInMarks op b = false) : DT X Γ (.Compare a [op] [b] pos) t := fun F0 H0 F H σ en Q q =>
  .of (pt_cmpR ho pe_ev pe_ev hm) (two ha hb h2 en fun v F' H' g hv => ⟨t, hv, q F' H' g⟩)
theorem b2_I0 {g : Int → Int → V} {i j : Int} : B2 (rI0 g) (rInt i) (rInt j) (rC (g i j)) := fun F H x y s h1 h2 Q q => ⟨i, j, h1, h2, q _ F H (.refl s) rfl⟩
theorem b2_I {C : Int → Int → Prop} {g : Int → Int → V} {i j : Int} (hc : C i j) : B2 (rI C g) (rInt i) (rInt j) (rC (g i j)) := fun F H x y s h1 h2 Q q => ⟨i, j, h1, h2, hc, q _ F H (.refl s) rfl⟩
theorem b2_eq {x y : V} (h : scal x y = true) : B2 rEq (rC x) (rC y) (rBl (decide (x = y))) := fun F H x y s h1 h2 Q q => by cases h1; cases h2; exact ⟨h, q _ F H (.refl s) rfl⟩
theorem b2_ne {x y : V} (h : scal x y = true) : B2 rNe (rC x) (rC y) (rBl (!decide (x = y))) := fun F H x y s h1 h2 Q q => by cases h1; cases h2; exact ⟨h, q _ F H (.refl s) rfl⟩
/-! ints -/
section
variable {i j : Int}
theorem de_add (ha : DE X Γ a (rInt i)) (hb : DE X Γ b (rInt j)) : DE X Γ (.BinOp a .Add b pos) (rInt (i + j)) := de_op op_add b2_I0 ha hb
theorem de_sub (ha : DE X Γ a (rInt i)) (hb : DE X Γ b (rInt j)) : DE X Γ (.BinOp a .Sub b pos) (rInt (i - j)) := de_op op_sub b2_I0 ha hb
theorem de_mul (hc : CMulW i j) (ha : DE X Γ a (rInt i)) (hb : DE X Γ b (rInt j)) : DE X Γ (.BinOp a .Mult b pos) (rInt (i * j)) := de_op op_mulW (b2_I hc) ha hb
def CDivX (_ j : Int) : Prop := j ≠ 0 ∧ j.natAbs.log2 < 9000
theorem op_fdivX : OpR X (binaryOp .FloorDiv) (rI CDivX fun i j => .int (i.fdiv j)) := opI fun i j _ _ _ _ _ hc q => floordiv_int hc.1 q (.inl (PyProof.noPylong_of_log2 hc.2))
theorem de_fdiv (hc : CDivX i j) (ha : DE X Γ a (rInt i)) (hb : DE X Γ b (rInt j)) : DE X Γ (.BinOp a .FloorDiv b pos) (rInt (i.fdiv j)) := de_op op_fdivX (b2_I hc) ha hb
theorem de_mod (hc : j ≠ 0) (ha : DE X Γ a (rInt i)) (hb : DE X Γ b (rInt j)) : DE X Γ (.BinOp a .Mod b pos) (rInt (i.fmod j)) := de_op op_modN (b2_I hc) ha hb
theorem de_pow (hc : CPow i j) (ha : DE X Γ a (rInt i)) (hb : DE X Γ b (rInt j)) : DE X Γ (.BinOp a .Pow b pos) (rInt (i ^ j.toNat)) := de_op op_pow (b2_I hc) ha hb
def U1 (f : V → Hp → VK → Prop) (ra rc : Rep) : Prop := ∀ F H x, Same F H → ra.P F x → ∀ Q : VK, (∀ v F' H', Gr F H F' H' → rc.P F' v → Q v H') → f x H Q
theorem de_un {op : UnaryOp} {f : V → Hp → VK → Prop} (ho : UnR X (unaryOp op) f) (h2 : U1 f ra rc) (ha : DE X Γ a ra) : DE X Γ (.UnaryOp op a pos) rc := fun F0 H0 F H σ en Q q =>
  .of (pe_un ho pe_ev) (ha F0 H0 F H σ en _ fun v F1 H1 g1 h1 => h2 F1 H1 v g1.s h1 Q fun z F3 H3 g3 h3 => q z F3 H3 (g1.trans g3) h3)
theorem de_neg (ha : DE X Γ a (rInt i)) : DE X Γ (.UnaryOp .USub a pos) (rInt (-i)) := de_un un_neg (fun F H x s h1 Q q => ⟨i, h1, q _ F H (.refl s) rfl⟩) ha
theorem dt_lt (ha : DE X Γ a (rInt i)) (hb : DE X Γ b (rInt j)) : DT X Γ (.Compare a [.Lt] [b] pos) (decide (i < j)) := dt_cmp op_lt b2_I0 ha hb (nomark _)
theorem dt_le (ha : DE X Γ a (rInt i)) (hb : DE X Γ b (rInt j)) : DT X Γ (.Compare a [.LtE] [b] pos) (decide (i ≤ j)) := dt_cmp op_le b2_I0 ha hb (nomark _)
theorem dt_gt (ha : DE X Γ a (rInt i)) (hb : DE X Γ b (rInt j)) : DT X Γ (.Compare a [.Gt] [b] pos) (decide (j < i)) := dt_cmp op_gt b2_I0 ha hb (nomark _)
theorem dt_ge (ha : DE X Γ a (rInt i)) (hb : DE X Γ b (rInt j)) : DT X Γ (.Compare a [.GtE] [b] pos) (decide (j ≤ i)) := dt_cmp op_ge b2_I0 ha hb (nomark _)
theorem vint_dec : decide (V.int i = V.int j) = decide (i = j) := by
  by_cases h : i = j
  · rw [decide_eq_true h, h, decide_eq_true rfl]
  · rw [decide_eq_false h, decide_eq_false fun z => h (V.int.inj z)]
theorem b2_eqI : B2 rEq (rInt i) (rInt j) (rBl (decide (i = j))) := by
  have h := b2_eq (x := .int i) (y := .int j) rfl
  rw [vint_dec] at h
  exact h
theorem b2_neI : B2 rNe (rInt i) (rInt j) (rBl (!decide (i = j))) := by
  have h := b2_ne (x := .int i) (y := .int j) rfl
  rw [vint_dec] at h
  exact h
theorem dt_eqI (ha : DE X Γ a (rInt i)) (hb : DE X Γ b (rInt j)) : DT X Γ (.Compare a [.Eq] [b] pos) (decide (i = j)) := dt_cmp op_eq b2_eqI ha hb (nomark _)
theorem dt_neI (ha : DE X Γ a (rInt i)) (hb : DE X Γ b (rInt j)) : DT X Γ (.Compare a [.NotEq] [b] pos) (!decide (i = j)) := dt_cmp op_ne b2_neI ha hb (nomark _)
theorem de_ltI (ha : DE X Γ a (rInt i)) (hb : DE X Γ b (rInt j)) : DE X Γ (.Compare a [.Lt] [b] pos) (rBl (decide (i < j))) := de_cmp op_lt b2_I0 ha hb (nomark _)
theorem de_leI (ha : DE X Γ a (rInt i)) (hb : DE X Γ b (rInt j)) : DE X Γ (.Compare a [.LtE] [b] pos) (rBl (decide (i ≤ j))) := de_cmp op_le b2_I0 ha hb (nomark _)
theorem de_gtI (ha : DE X Γ a (rInt i)) (hb : DE X Γ b (rInt j)) : DE X Γ (.Compare a [.Gt] [b] pos) (rBl (decide (j < i))) := de_cmp op_gt b2_I0 ha hb (nomark _)
theorem de_geI (ha : DE X Γ a (rInt i)) (hb : DE X Γ b (rInt j)) : DE X Γ (.Compare a [.GtE] [b] pos) (rBl (decide (j ≤ i))) := de_cmp op_ge b2_I0 ha hb (nomark _)
theorem de_eqI (ha : DE X Γ a (rInt i)) (hb : DE X Γ b (rInt j)) : DE X Γ (.Compare a [.Eq] [b] pos) (rBl (decide (i = j))) := de_cmp op_eq b2_eqI ha hb (nomark _)
theorem de_neI (ha : DE X Γ a (rInt i)) (hb : DE X Γ b (rInt j)) : DE X Γ (.Compare a [.NotEq] [b] pos) (rBl (!decide (i = j))) := de_cmp op_ne b2_neI ha hb (nomark _)
end
/-! truth values -/
section
variable {u v : Bool}
theorem dt_val (h : DE X Γ e (rBl u)) (he : ∀ whole, isTrue e X.env whole = (do let v ← whole; standAt e.pos; holding [v] (truthy v)) := by intro _; rfl) : DT X Γ e u := fun F0 H0 F H σ en Q q =>
  .of (pt_val pe_ev he) (h F0 H0 F H σ en _ fun v F' H' g hv => ⟨u, hv, q F' H' g⟩)
theorem dt_not (h : DT X Γ a u) : DT X Γ (.UnaryOp .Not a pos) (!u) := fun F0 H0 F H σ en Q q => .of (pt_not pt_ev) (h F0 H0 F H σ en _ fun F' H' g => q F' H' g)
theorem de_not (h : DE X Γ a (rBl u)) : DE X Γ (.UnaryOp .Not a pos) (rBl (!u)) := fun F0 H0 F H σ en Q q => .of (pe_not pe_ev) (h F0 H0 F H σ en _ fun v F' H' g hv => ⟨u, hv, q _ F' H' g rfl⟩)
theorem DW.t (h : DW X Γ e u) : DT X Γ e u := fun F0 H0 F H σ en Q q => .of (pw_ev.pt) (h F0 H0 F H σ en Q q)
theorem dw_and1 (h : DT X Γ a u) : DW X Γ (.BoolOp .And [a] pos) u := fun F0 H0 F H σ en Q q => .of (pw_and1 pt_ev) (h F0 H0 F H σ en Q q)
theorem dw_or1 (h : DT X Γ a u) : DW X Γ (.BoolOp .Or [a] pos) u := fun F0 H0 F H σ en Q q => .of (pw_or1 pt_ev) (h F0 H0 F H σ en Q q)
theorem dw_and (h : DT X Γ a u) (h2 : u = true → DW X Γ (.BoolOp .And (b :: rest) pos) v) : DW X Γ (.BoolOp .And (a :: b :: rest) pos) (u && v) := fun F0 H0 F H σ en Q q =>
  .of (pw_and pt_ev pw_ev) (h F0 H0 F H σ en _ fun F' H' g => by
    cases u with
    | true => rw [if_pos rfl]; exact h2 rfl F0 H0 F' H' σ (en.grow g) Q fun F2 H2 g2 => q F2 H2 (g.trans g2)
    | false => rw [if_neg Bool.false_ne_true]; exact q F' H' g)
theorem dw_or (h : DT X Γ a u) (h2 : u = false → DW X Γ (.BoolOp .Or (b :: rest) pos) v) : DW X Γ (.BoolOp .Or (a :: b :: rest) pos) (u || v) := fun F0 H0 F H σ en Q q =>
  .of (pw_or pt_ev pw_ev) (h F0 H0 F H σ en _ fun F' H' g => by
    cases u with
    | true => rw [if_pos rfl]; exact q F' H' g
    | false => rw [if_neg Bool.false_ne_true]; exact h2 rfl F0 H0 F' H' σ (en.grow g) Q fun F2 H2 g2 => q F2 H2 (g.trans g2))
theorem de_one {op} (h : DE X Γ a r) : DE X Γ (.BoolOp op [a] pos) r := fun F0 H0 F H σ en Q q => .of (pe_one pe_ev) (h F0 H0 F H σ en Q q)
theorem de_and (h : DE X Γ a (rBl u)) (h2 : u = true → DE X Γ (.BoolOp .And (b :: rest) pos) (rBl v)) : DE X Γ (.BoolOp .And (a :: b :: rest) pos) (rBl (u && v)) := fun F0 H0 F H σ en Q q =>
  .of (pe_and pe_ev pe_ev) (h F0 H0 F H σ en _ fun x F' H' g hx => ⟨u, hx, by
    cases u with
    | true => rw [if_pos rfl]; exact h2 rfl F0 H0 F' H' σ (en.grow g) Q fun y F2 H2 g2 hy => q y F2 H2 (g.trans g2) hy
    | false => rw [if_neg Bool.false_ne_true]; exact q _ F' H' g rfl⟩)
theorem de_or (h : DE X Γ a (rBl u)) (h2 : u = false → DE X Γ (.BoolOp .Or (b :: rest) pos) (rBl v)) : DE X Γ (.BoolOp .Or (a :: b :: rest) pos) (rBl (u || v)) := fun F0 H0 F H σ en Q q =>
  .of (pe_or pe_ev pe_ev) (h F0 H0 F H σ en _ fun x F' H' g hx => ⟨u, hx, by
    cases u with
    | true => rw [if_pos rfl]; exact q _ F' H' g rfl
    | false => rw [if_neg Bool.false_ne_true]; exact h2 rfl F0 H0 F' H' σ (en.grow g) Q fun y F2 H2 g2 hy => q y F2 H2 (g.trans g2) hy⟩)
theorem de_if (h : DT X Γ c u) (h1 : u = true → DE X Γ a r) (h2 : u = false → DE X Γ b r) : DE X Γ (.IfExp c a b pos) r := fun F0 H0 F H σ en Q q =>
  .of (pe_ifExp pt_ev pe_ev pe_ev) (h F0 H0 F H σ en _ fun F' H' g => by
    cases u with
    | true => rw [if_pos rfl]; exact h1 rfl F0 H0 F' H' σ (en.grow g) Q fun y F2 H2 g2 hy => q y F2 H2 (g.trans g2) hy
    | false => rw [if_neg Bool.false_ne_true]; exact h2 rfl F0 H0 F' H' σ (en.grow g) Q fun y F2 H2 g2 hy => q y F2 H2 (g.trans g2) hy)
theorem vbl_dec : decide (V.bl u = V.bl v) = (u == v) := by cases u <;> cases v <;> rfl
theorem b2_eqB : B2 rEq (rBl u) (rBl v) (rBl (u == v)) := by
  have h := b2_eq (x := .bl u) (y := .bl v) rfl
  rw [vbl_dec] at h
  exact h
theorem b2_neB : B2 rNe (rBl u) (rBl v) (rBl (u != v)) := by
  have h := b2_ne (x := .bl u) (y := .bl v) rfl
  rw [vbl_dec] at h
  exact h
theorem b2_isB : B2 rIsB (rBl u) (rBl v) (rBl (u == v)) := fun F H x y s h1 h2 Q q => ⟨u, v, h1, h2, q _ F H (.refl s) (by show V.bl _ = V.bl _; cases u <;> cases v <;> rfl)⟩
end
/-! argument lists, displays -/
theorem da_nil : DA X Γ [] [] := fun F0 H0 F H σ en Q q => .of pa_nil (q [] F H (.refl en.gr.s) .nil)
theorem da_cons (h : DE X Γ e r) (h2 : DA X Γ es rs) (hs : starEach (e :: es) X.env = (false, eval e X.env) :: starEach es X.env := by rfl) : DA X Γ (e :: es) (r :: rs) := fun F0 H0 F H σ en Q q =>
  .of (pa_cons pe_ev pa_ev hs) (h F0 H0 F H σ en _ fun v F1 H1 g1 h1 => h2 F0 H0 F1 H1 σ (en.grow g1) _ fun vs F2 H2 g2 k2 => q (v :: vs) F2 H2 (g1.trans g2) (.cons (r.mono g2.f h1) k2))
theorem de_tup {x1} (h : DA X Γ es rs) (hl : rs.length ≤ sizeLine) : DE X Γ (.Tuple es x1 pos) (rTup X.K rs) := fun F0 H0 F H σ en Q q =>
  .of (pe_tup pa_ev) (h F0 H0 F H σ en _ fun vs F1 H1 g1 h1 => ⟨h1.len ▸ hl, fun p hp => q (.ref p) _ _ (g1.trans (.new g1.s hp)) ⟨p, vs, rfl, SqT.of upd_same, h1.mono (same_new (g1.s.free hp))⟩⟩)
theorem dl_lst (h : DA X Γ es rs) (hl : rs.length ≤ sizeLine) : DL X Γ (.List es pos) rs := fun F0 H0 F H σ en Q q =>
  .of (pe_lst pa_ev) (h F0 H0 F H σ en _ fun vs F1 H1 g1 h1 => ⟨h1.len ▸ hl, fun p hp => q p vs F1 _ (g1.trans (.newOwn g1.s hp)) (g1.h.free hp) (g1.s.free hp) upd_same h1⟩)
end
end DL

set_option Elab.async false
set_option linter.all false
set_option maxRecDepth 100000
set_option maxHeartbeats 4000000
namespace DL
open PySem PySem.Spec PyProof.Rows L2

/-! ### a def that may be called by its name -/
structure Cal (P : Program) (w : World) (K : PySem.W.Frag) (mg : Str → Option Value) (base : Heap) (k : Nat) (x : Str) (sp : Sp) : Prop where
  ex : ∃ (f : Addr) (fd : FuncData) (ps : List Str), FnOk P w K mg base (L2.CX P w) k f fd ps sp ∧ mg x = some (.ref f) ∧ PySem.W.keepIn K (.ref f) = true ∧ Binds K fd ps []
theorem FnOk.wide {P : Program} {w : World} {K : PySem.W.Frag} {mg : Str → Option Value} {base : Heap} {k : Nat} {f : Addr} {fd : FuncData} {ps : List Str} {sp : Sp} (F : FnOk P w K mg base CX0 k f fd ps sp) : FnOk P w K mg base (L2.CX P w) k f fd ps sp :=
  ⟨F.len, fun A outer s H args us vs Q E hr he hb hv hs => codeAny_mono (F.run A outer s H args us vs Q E hr he hb hv hs) fun r s' h => by
    cases r with
    | error e => exact False.elim h
    | ok fl => cases fl <;> exact h⟩
/-- the end of a call: a value, a new list of one's own, or an error without a field of the class named -/
inductive Ret where
  | val (r : Rep)
  | lst (l : List Rep)
def Ret.P (F0 H0 F H : Hp) : Ret → V → Prop
  | .val r, v => r.P F v
  | .lst l, v => ∃ p vs, v = .ref p ∧ H0 p = none ∧ F p = none ∧ H p = some (.lst vs) ∧ RL F l vs
/-- from the arguments' worth to the answer's -/
def Pr (F H : Hp) (res : Ret) (Q : VK) : Prop := ∀ v F' H', Gr F H F' H' → res.P F H F' H' v → Q v H'
def Pm {ι : Type} (pre : ι → Prop) (args : ι → List Rep) (res : ι → Ret) : Sp := fun vs H Q _ => ∃ (x : ι) (F : Hp), pre x ∧ Same F H ∧ RL F (args x) vs ∧ Pr F H (res x) Q
section
variable {X : Cx} {N : List Str} {sc : Scope} {k j : Nat} {Γ : List Sl} {a b c e : Expr} {es rest : List Expr} {r ra rb rc r' : Rep} {rs l : List Rep} {pos p : Pos} {x : Str}
variable {ι : Type} {pre : ι → Prop} {args : ι → List Rep} {res : ι → Ret}
def CA (X : Cx) (Γ : List Sl) (e : Expr) (ret : Ret) : Prop := ∀ F0 H0 F H σ, En F0 H0 F H σ Γ → ∀ Q : VK, (∀ v F' H' F1 H1, Gr F H F1 H1 → Gr F1 H1 F' H' → ret.P F1 H1 F' H' v → Q v H') → EV X e σ H Q
theorem ca_call (B : BX X N sc k) (C : Cal X.prog X.w X.K X.mg X.base j x (Pm pre args res)) (hk : j ≤ k) (g : ι) (hp : pre g) (ha : DA X Γ (e :: es) (args g)) (hg : sc.names.lookup x = some .globalImplicit)
    (hdb : (x == ("__debug__" : Str)) = false := by decide) (he : starEach (e :: es) X.env = (false, eval e X.env) :: starEach es X.env := by rfl) (hpl : (backTo pos (starEach es X.env)).any (·.1) = false := by rfl) :
    CA X Γ (.Call (.Name x p) (e :: es) [] pos) (res g) := fun F0 H0 F H σ en Q q => by
  obtain ⟨f, fd, ps, G, hm, kp, hb⟩ := C.ex
  have hgl : Gl X x := by
    show X.env.scope.names.lookup x = _
    rw [B.hsc]
    exact hg
  refine .of (pe_call (E := E0) G (B.room.mono hk) hgl hm kp hb .nil passL pa_ev hdb he hpl) ?_
  refine ha F0 H0 F H σ en _ fun vs F1 H1 g1 h1 => ?_
  show Pm pre args res (vs ++ []) H1 Q E0
  rw [List.append_nil]
  exact ⟨g, F1, hp, g1.s, h1, fun v F' H' g2 hv => q v F' H' F1 H1 g1 g2 hv⟩
theorem CA.val (h : CA X Γ e (.val r)) : DE X Γ e r := fun F0 H0 F H σ en Q q => h F0 H0 F H σ en Q fun v F' H' F1 H1 g1 g2 hv => q v F' H' (g1.trans g2) hv
theorem CA.lst (h : CA X Γ e (.lst l)) : DL X Γ e l := fun F0 H0 F H σ en Q q => h F0 H0 F H σ en Q fun v F' H' F1 H1 g1 g2 hv => by
  obtain ⟨p, vs, rfl, h1, h2, h3, h4⟩ := hv
  exact q p vs F' H' (g1.trans g2) (g1.h.free h1) h2 h3 h4

/-! ### built-ins by name -/
def CB (f : List V → Hp → VK → Prop) (rs : List Rep) (r : Rep) : Prop := ∀ F H vs, Same F H → RL F rs vs → ∀ Q : VK, (∀ v F' H', Gr F H F' H' → r.P F' v → Q v H') → f vs H Q
theorem de_blt {id : String} {f : List V → Hp → VK → Prop} (B : BX X N sc k) (hc : CallR X (.builtin id) f) (h2 : CB f rs r) (hm : X.mg x = none) (hv : bootBuiltins x = some (.builtin id)) (ha : DA X Γ (e :: es) rs) (hg : sc.names.lookup x = some .globalImplicit)
    (hn : x ≠ "__name__" := by decide) (hdb : (x == ("__debug__" : Str)) = false := by decide) (he : starEach (e :: es) X.env = (false, eval e X.env) :: starEach es X.env := by rfl) (hpl : (backTo pos (starEach es X.env)).any (·.1) = false := by rfl) :
    DE X Γ (.Call (.Name x p) (e :: es) [] pos) r := fun F0 H0 F H σ en Q q => by
  have hgl : Gl X x := by
    show X.env.scope.names.lookup x = _
    rw [B.hsc]
    exact hg
  exact .of (pe_callB hc hgl hm hv pa_ev hn hdb he hpl) (ha F0 H0 F H σ en _ fun vs F1 H1 g1 h1 => h2 F1 H1 vs g1.s h1 Q fun v F' H' g2 hv => q v F' H' (g1.trans g2) hv)
theorem de_bty {id : String} {f : List V → Hp → VK → Prop} (B : BX X N sc k) (hc : CallR X (.type id) f) (h2 : CB f rs r) (hm : X.mg x = none) (hv : bootBuiltins x = some (.type id)) (ha : DA X Γ (e :: es) rs) (hg : sc.names.lookup x = some .globalImplicit)
    (hn : x ≠ "__name__" := by decide) (hdb : (x == ("__debug__" : Str)) = false := by decide) (he : starEach (e :: es) X.env = (false, eval e X.env) :: starEach es X.env := by rfl) (hpl : (backTo pos (starEach es X.env)).any (·.1) = false := by rfl) :
    DE X Γ (.Call (.Name x p) (e :: es) [] pos) r := fun F0 H0 F H σ en Q q => by
  have hgl : Gl X x := by
    show X.env.scope.names.lookup x = _
    rw [B.hsc]
    exact hg
  exact .of (pe_callTy hc hgl hm hv pa_ev hn hdb he hpl) (ha F0 H0 F H σ en _ fun vs F1 H1 g1 h1 => h2 F1 H1 vs g1.s h1 Q fun v F' H' g2 hv => q v F' H' (g1.trans g2) hv)
/-- a built-in function under a module's own name (from math import ..) -/
theorem de_bfun {id : String} {f : List V → Hp → VK → Prop} (B : BX X N sc k) (hc : CallR X (.builtin id) f) (h2 : CB f rs r) (hm : X.mg x = some (.builtin id)) (ha : DA X Γ (e :: es) rs) (hg : sc.names.lookup x = some .globalImplicit)
    (hdb : (x == ("__debug__" : Str)) = false := by decide) (he : starEach (e :: es) X.env = (false, eval e X.env) :: starEach es X.env := by rfl) (hpl : (backTo pos (starEach es X.env)).any (·.1) = false := by rfl) :
    DE X Γ (.Call (.Name x p) (e :: es) [] pos) r := fun F0 H0 F H σ en Q q => by
  have hgl : Gl X x := by
    show X.env.scope.names.lookup x = _
    rw [B.hsc]
    exact hg
  exact .of (pe_callBfun hc hgl hm pa_ev hdb he hpl) (ha F0 H0 F H σ en _ fun vs F1 H1 g1 h1 => h2 F1 H1 vs g1.s h1 Q fun v F' H' g2 hv => q v F' H' (g1.trans g2) hv)
theorem rl1 {F : Hp} {r : Rep} {vs : List V} (h : RL F [r] vs) : ∃ v, vs = [v] ∧ r.P F v := by
  cases h with
  | cons a t => cases t; exact ⟨_, rfl, a⟩
theorem rl2 {F : Hp} {r s : Rep} {vs : List V} (h : RL F [r, s] vs) : ∃ v w, vs = [v, w] ∧ r.P F v ∧ s.P F w := by
  cases h with
  | cons a t =>
    obtain ⟨w, rfl, b⟩ := rl1 t
    exact ⟨_, _, rfl, a, b⟩

/-- a name that the body may store -/
def LocX (X : Cx) (sc : Scope) (x : Str) : Prop := sc.names.lookup x = some .local ∨ (sc.names.lookup x = some .cell ∧ X.fn x = true)
/-! ### statements -/
def GO (X : Cx) (F0 H0 : Hp) (st : List Stmt) (D : Ends) (Γ : List Sl) : Prop := ∀ F H σ, En F0 H0 F H σ Γ → XS X st D σ H
variable {F0 H0 : Hp} {st body orelse : List Stmt} {D : Ends} {i : Nat} {tpos : Pos}
theorem go_nil (h : ∀ F H σ, En F0 H0 F H σ Γ → D.nx σ H) : GO X F0 H0 [] D Γ := fun F H σ en => .of pss_nil (h F H σ en)
theorem go_then (h : GO X F0 H0 st D Γ) : GO X F0 H0 [] { D with nx := XS X st D } Γ := go_nil fun F H σ en => h F H σ en
theorem go_set (B : BX X N sc k) (he : DE X Γ e r) (hN : N[i]? = some x) (hx : LocX X sc x) (h : GO X F0 H0 st D (Γ.set i (.im r))) (hs : swapsWith e (some (.Name x tpos)) pos.line X.env = pure false := by rfl) :
    GO X F0 H0 (.Assign [.Name x tpos] e pos :: st) D Γ := fun F H σ en => by
  have hf : X.fn x = true ∨ X.env.scope.names.lookup x = some .local := by
    rcases hx with hx | hx
    · exact .inr (by rw [B.hsc]; exact hx)
    · exact .inl hx.2
  have hx : Loc sc x := hx.elim .inl fun z => .inr z.1
  refine .of (pss_cons (ps_set (i := i) (by rw [B.hN]; exact B.nd) (by rw [B.hN]; exact hN) (by rw [B.hsc]; exact hx) pe_ev hs hf) pss_ev) ?_
  exact he F0 H0 F H σ en _ fun v F' H' g hv => h F' H' _ ((en.grow g).setIm hv)
theorem go_setL (B : BX X N sc k) (he : DL X Γ e l) (hN : N[i]? = some x) (hx : LocX X sc x) (h : GO X F0 H0 st D (Γ.set i (.ow l))) (hs : swapsWith e (some (.Name x tpos)) pos.line X.env = pure false := by rfl) :
    GO X F0 H0 (.Assign [.Name x tpos] e pos :: st) D Γ := fun F H σ en => by
  have hf : X.fn x = true ∨ X.env.scope.names.lookup x = some .local := by
    rcases hx with hx | hx
    · exact .inr (by rw [B.hsc]; exact hx)
    · exact .inl hx.2
  have hx : Loc sc x := hx.elim .inl fun z => .inr z.1
  refine .of (pss_cons (ps_set (i := i) (by rw [B.hN]; exact B.nd) (by rw [B.hN]; exact hN) (by rw [B.hsc]; exact hx) pe_ev hs hf) pss_ev) ?_
  refine he F0 H0 F H σ en _ fun p vs F' H' g h1 h2 h3 h4 => h F' H' _ ((en.grow g).setOw h2 h3 h4 (en.gr.h.free h1) fun j l' k1 k2 => ?_)
  obtain ⟨p', vs', a1, a2, a3, a4, a5⟩ := en.ow k1
  rw [a1] at k2
  have e2 : p' = p := V.ref.inj (Option.some.inj (Option.some.inj k2))
  rw [e2, h1] at a3
  cases a3
theorem go_expr (he : DE X Γ e r) (h : GO X F0 H0 st D Γ) (hs : swapsWith e none pos.line X.env = pure false := by rfl) : GO X F0 H0 (.Expr e pos :: st) D Γ := fun F H σ en =>
  .of (pss_cons (ps_expr pe_ev hs) pss_ev) (he F0 H0 F H σ en _ fun v F' H' g _ => h F' H' σ (en.grow g))
theorem go_doc {s : Str} {jj : Nat} {pp : Pos} (h : GO X F0 H0 st D Γ) (hs : swapsWith (.Constant (.str s) jj pp) none pos.line X.env = pure false := by rfl) : GO X F0 H0 (.Expr (.Constant (.str s) jj pp) pos :: st) D Γ := go_expr de_str h hs
theorem go_pass (h : GO X F0 H0 st D Γ) : GO X F0 H0 (.Pass pos :: st) D Γ := fun F H σ en => .of (pss_cons ps_pass pss_ev) (h F H σ en)
theorem go_if {t : Bool} (hc : DT X Γ c t) (h1 : t = true → GO X F0 H0 body { D with nx := XS X st D } Γ) (h2 : t = false → GO X F0 H0 orelse { D with nx := XS X st D } Γ) : GO X F0 H0 (.If c body orelse pos :: st) D Γ := fun F H σ en =>
  .of (pss_cons (ps_if pt_ev pss_ev pss_ev) pss_ev) (hc F0 H0 F H σ en _ fun F' H' g => by
    cases t with
    | true => rw [if_pos rfl]; exact h1 rfl F' H' σ (en.grow g)
    | false => rw [if_neg Bool.false_ne_true]; exact h2 rfl F' H' σ (en.grow g))
/-- what a return gives -/
def RT (F0 H0 : Hp) (ret : Ret) (D : Ends) : Prop := ∀ v F' H', Gr F0 H0 F' H' → ret.P F0 H0 F' H' v → D.rt v H'
theorem go_ret (R : RT F0 H0 (.val r') D) (he : DE X Γ e r) (hs : Sub r r') : GO X F0 H0 (.Return (some e) pos :: st) D Γ := fun F H σ en =>
  .of (pss_cons (ps_ret pe_ev) (pss_ev (st := st))) (he F0 H0 F H σ en _ fun v F' H' g hv => R v F' H' (en.gr.trans g) (hs F' v hv))
theorem go_retL {l' : List Rep} (R : RT F0 H0 (.lst l') D) (he : DL X Γ e l) (hs : l = l') : GO X F0 H0 (.Return (some e) pos :: st) D Γ := fun F H σ en =>
  .of (pss_cons (ps_ret pe_ev) (pss_ev (st := st))) (he F0 H0 F H σ en _ fun p vs F' H' g h1 h2 h3 h4 => R _ F' H' (en.gr.trans g) ⟨p, vs, rfl, en.gr.h.free h1, h2, h3, hs ▸ h4⟩)
/-- return of a list of one's own by its name -/
theorem go_retV {l' : List Rep} (B : BX X N sc k) (R : RT F0 H0 (.lst l') D) (hΓ : Γ[i]? = some (.ow l)) (hs : l = l') (hN : N[i]? = some x) (hv : Vis sc x) (hd : (x == ("__debug__" : Str)) = false := by decide) (hcd : (x == ("__classdict__" : Str)) = false := by decide) :
    GO X F0 H0 (.Return (some (.Name x p)) pos :: st) D Γ := fun F H σ en => by
  obtain ⟨q, vs, h1, h2, h3, h4, h5⟩ := en.ow hΓ
  exact .of (pss_cons (ps_ret (pe_var (i := i) (B.hN ▸ hN) (B.hsc ▸ hv) hd hcd)) (pss_ev (st := st))) ⟨_, h1, R _ F H en.gr ⟨q, vs, rfl, h5, h2, h3, hs ▸ h4⟩⟩
theorem go_retN (R : RT F0 H0 (.val r') D) (hs : Sub rNon r') : GO X F0 H0 (.Return none pos :: st) D Γ := fun F H σ en =>
  .of (pss_cons ps_retN (pss_ev (st := st))) (R _ F H en.gr (hs F _ rfl))
theorem go_break (h : ∀ F H σ, En F0 H0 F H σ Γ → D.bk σ H) : GO X F0 H0 (.Break pos :: st) D Γ := fun F H σ en => .of (pss_cons ps_break (pss_ev (st := st))) (h F H σ en)
theorem go_cont (h : ∀ F H σ, En F0 H0 F H σ Γ → D.ct σ H) : GO X F0 H0 (.Continue pos :: st) D Γ := fun F H σ en => .of (pss_cons ps_continue (pss_ev (st := st))) (h F H σ en)
/-- a list of one's own stands still from here on -/
theorem go_froz (i : Nat) (hΓ : Γ[i]? = some (.ow l)) (h : GO X F0 H0 st D (Γ.set i (.im (rLst X.K l)))) : GO X F0 H0 st D Γ := fun F H σ en => by
  obtain ⟨F', s1, s2, en'⟩ := en.freeze (K := X.K) hΓ
  exact h F' H σ en'
/-- less is known of a slot -/
theorem go_weak {Γ' : List Sl} (h : GO X F0 H0 st D Γ') (hw : ∀ F H σ, En F0 H0 F H σ Γ → En F0 H0 F H σ Γ') : GO X F0 H0 st D Γ := fun F H σ en => h F H σ (hw F H σ en)
/-- x.append(e), x a list of one's own -/
theorem go_append {apos ps2 : Pos} (B : BX X N sc k) (hΓ : Γ[i]? = some (.ow l)) (he : DE X Γ e r) (hl : l.length < sizeLine) (hN : N[i]? = some x) (hv : Vis sc x) (h : GO X F0 H0 st D (Γ.set i (.ow (l ++ [r]))))
    (hd : (x == ("__debug__" : Str)) = false := by decide) (hcd : (x == ("__classdict__" : Str)) = false := by decide)
    (hbase : attributeBase (.Name x p) "append" X.env (eval (.Name x p) X.env) = eval (.Name x p) X.env := by rfl)
    (hfew : ((backTo pos (starEach (e :: []) X.env)).all (fun x => !x.1) && (backToKw pos (keywordEach [] X.env)).all (fun x => x.1.isSome)
      && decide ((e :: []).length + ([] : List Keyword).length + (if ([] : List Keyword).isEmpty then 0 else 1) < 30)) = true := by rfl)
    (hline : (apos.endLine == pos.line) = true := by rfl) (hs : starEach (e :: []) X.env = (false, eval e X.env) :: starEach [] X.env := by rfl) (hplain : (backTo pos (starEach [] X.env)).any (·.1) = false := by rfl)
    (hsw : swapsWith (.Call (.Attribute (.Name x p) "append" apos) [e] [] pos) none ps2.line X.env = pure false := by rfl) :
    GO X F0 H0 (.Expr (.Call (.Attribute (.Name x p) "append" apos) [e] [] pos) ps2 :: st) D Γ := fun F H σ en => by
  obtain ⟨q, vs, h1, h2, h3, h4, h5⟩ := en.ow hΓ
  refine .of (pss_cons (ps_expr (pe_bm PySem.F.plainAttrs_list PySem.F.slot_list_append PySem.F.type_list_append mt_append (pe_var (i := i) (B.hN ▸ hN) (B.hsc ▸ hv) hd hcd) (pa_cons pe_ev pa_nil hs) hbase hfew hline hs hplain) hsw) pss_ev) ?_
  refine ⟨.ref q, h1, .inl ⟨rfl, vs, SqL.of h3⟩, ?_⟩
  refine he F0 H0 F H σ en _ fun v F' H' g hv => ?_
  have en' := en.grow g
  refine ⟨q, vs, v, rfl, rfl, g.h _ _ h3, by rw [← h4.len]; exact hl, ?_⟩
  exact h F' _ σ (en'.put hΓ h1 ((h4.mono g.f).snoc hv))
end

/-! ### a def keeps its promise -/
/-- the def st, under the name x -/
structure TD (K : PySem.W.Frag) (mg : Str → Option Value) (x : Str) (st : Stmt) : Prop where
  ex : ∃ f fd, Fun K x x st f fd ∧ mg x = some (.ref f)
theorem en_start {F H : Hp} {N : List Str} {rs : List Rep} {vs : List V} (s : Same F H) (h : RL F rs vs) (hl : rs.length ≤ N.length) : En F H F H (L2.start N vs) (rs.map Sl.im ++ List.replicate (N.length - rs.length) .any) where
  gr := .refl s
  len := by
    unfold L2.start
    have := h.len
    simp
    omega
  ok i t x h1 h2 := by
    have hlen := h.len
    by_cases hi : i < rs.length
    · rw [List.getElem?_append_left (by simpa using hi), List.getElem?_map] at h1
      unfold L2.start at h2
      rw [List.getElem?_append_left (by simp; omega), List.getElem?_map] at h2
      cases e : rs[i]? with
      | none => rw [e] at h1; cases h1
      | some r =>
        rw [e] at h1
        cases h1
        obtain ⟨v, k1, k2⟩ := h.get e
        rw [k1] at h2
        cases h2
        exact ⟨v, rfl, k2⟩
    · rw [List.getElem?_append_right (by simpa using hi), List.getElem?_replicate] at h1
      split at h1
      · cases h1
        trivial
      · cases h1
  own i p l h1 h2 := by
    by_cases hi : i < rs.length
    · rw [List.getElem?_append_left (by simpa using hi), List.getElem?_map] at h1
      cases e : rs[i]? with
      | none => rw [e] at h1; cases h1
      | some r => rw [e] at h1; cases h1
    · rw [List.getElem?_append_right (by simpa using hi), List.getElem?_replicate] at h1
      split at h1 <;> cases h1
  sep i j p l l' h1 := by
    by_cases hi : i < rs.length
    · rw [List.getElem?_append_left (by simpa using hi), List.getElem?_map] at h1
      cases e : rs[i]? with
      | none => rw [e] at h1; cases h1
      | some r => rw [e] at h1; cases h1
    · rw [List.getElem?_append_right (by simpa using hi), List.getElem?_replicate] at h1
      split at h1 <;> cases h1
section
variable {P : Program} {w : World} {K : PySem.W.Frag} {mg : Str → Option Value} {base : Heap} {k : Nat} {x : Str} {st : Stmt} {N ps : List Str} {ι : Type} {pre : ι → Prop} {args : ι → List Rep} {res : ι → Ret}
/-- a def that raises nothing -/
theorem cal_ok (T : TD K mg x st) (S : FnScope N ps (defScope st)) (hn : ∀ g, (args g).length = ps.length)
    (hb : ∀ (kV doc pm : Value) (an : Option Addr) (cdv ct : Value) (us : List Value), us.length = ps.length → bindArgs (PySem.W.fnOf x x (defArgs st) (defBody st) (defScope st) .none kV doc pm an cdv ct) ⟨us, []⟩ = pure (ps.zip us))
    (body : ∀ (X : Cx), X.prog = P → X.w = w → X.K = K → X.mg = mg → X.base = base → BX X N (defScope st) k → (∀ x : Str, X.fn x = true) → ∀ (g : ι) (F0 H0 : Hp) (D : Ends), pre g → RT F0 H0 (res g) D → (∀ σ H', D.nx σ H' = D.rt .non H') →
      GO X F0 H0 (defBody st) D ((args g).map Sl.im ++ List.replicate (N.length - ps.length) .any)) : Cal P w K mg base (k + 1) x (Pm pre args res) := by
  obtain ⟨f, fd, F, hm⟩ := T.ex
  refine ⟨f, fd, ps, ?_, hm, F.kp, F.binds hb⟩
  refine FnOk.wide (F.ok S (fun vs H Q E h => ?_) (fun cdv A outer s H vs Q E hr h => ?_))
  · obtain ⟨g, F1, _, _, h1, _⟩ := h
    rw [← h1.len, hn]
  · obtain ⟨g, F1, hp, hs, h1, q⟩ := h
    refine ⟨_, pss_ev, ?_⟩
    have hpl : ps.length ≤ N.length := by have := congrArg List.length S.pre; rw [List.length_take] at this; omega
    have en := en_start (N := N) hs h1 (by rw [hn]; exact hpl)
    rw [hn] at en
    exact body _ rfl rfl rfl rfl rfl ⟨rfl, rfl, S.nd, hr, rfl, PassesOwn.never⟩ (fun _ => rfl) g F1 H { nx := fun _ H' => Q .non H', rt := Q } hp q (fun _ _ => rfl) F1 H _ en
end
end DL

set_option Elab.async false
set_option linter.all false
set_option maxRecDepth 100000
set_option maxHeartbeats 4000000
namespace DL
open PySem PySem.Spec PyProof.Rows L2

/-! ### targets -/
def GV (X : Cx) (tg : Expr) (v : V) (σ : L2.St) (H : Hp) (Q : L2.St → Hp → Prop) : Prop := ∀ (pins : List (Addr × Obj)) (s : Shared) (u : Value), Inv X pins σ H s → RelV v u → wpAny (model X.prog X.w) X.A (assign tg X.env u) (fun _ s' => ∃ σ' H', Inv X pins σ' H' s' ∧ Q σ' H') X.xe s
theorem pg_ev {X : Cx} {tg : Expr} : PG X tg (GV X tg) := ⟨fun pins s σ H v u Q I r h => h pins s u I r⟩
theorem GV.of {X : Cx} {tg : Expr} {t : TG} {v : V} {σ : L2.St} {H : Hp} {Q : L2.St → Hp → Prop} (h : PG X tg t) (q : t v σ H Q) : GV X tg v σ H Q := fun pins s u I r => h.run pins s σ H v u Q I r q
def GVs (X : Cx) (ts : List Expr) (vs : List V) (σ : L2.St) (H : Hp) (Q : L2.St → Hp → Prop) : Prop := ∀ (pins : List (Addr × Obj)) (s : Shared) (us : List Value), Inv X pins σ H s → Vals vs us → wpAny (model X.prog X.w) X.A (assignInOrder ((assignEach ts X.env).map (·.2)) us) (fun _ s' => ∃ σ' H', Inv X pins σ' H' s' ∧ Q σ' H') X.xe s
/-- two states of the slots that part at ws alone -/
def Off (ws : List Nat) (σ σ' : L2.St) : Prop := ∀ us : List Nat, (∀ i ∈ ws, i ∈ us) → wipe σ' us = wipe σ us
theorem wipe_get : ∀ (us : List Nat) (σ : L2.St) (j : Nat), (wipe σ us)[j]? = if j ∈ us ∧ j < σ.length then some none else σ[j]?
  | [], σ, j => by simp [wipe]
  | u :: us, σ, j => by
    unfold wipe
    by_cases h : u = j
    · subst h
      by_cases hl : u < σ.length
      · rw [List.getElem?_set_self (by rw [wipe_length]; exact hl), if_pos ⟨List.mem_cons_self, hl⟩]
      · rw [List.getElem?_eq_none (by rw [List.length_set, wipe_length]; omega), if_neg (fun z => hl z.2), List.getElem?_eq_none (by omega)]
    · rw [List.getElem?_set_ne h, wipe_get us σ j]
      by_cases hm : j ∈ us ∧ j < σ.length
      · rw [if_pos hm, if_pos ⟨List.mem_cons_of_mem _ hm.1, hm.2⟩]
      · rw [if_neg hm, if_neg]
        rintro ⟨z, z2⟩
        rcases List.mem_cons.mp z with z | z
        · exact h z.symm
        · exact hm ⟨z, z2⟩
theorem off_set {σ : L2.St} {i : Nat} {x : Option V} : Off [i] σ (σ.set i x) := fun us h => by
  apply List.ext_getElem?
  intro j
  rw [wipe_get, wipe_get, List.length_set]
  by_cases hj : j ∈ us ∧ j < σ.length
  · rw [if_pos hj, if_pos hj]
  · rw [if_neg hj, if_neg hj]
    by_cases hi : i = j
    · subst hi
      have : ¬ i < σ.length := fun z => hj ⟨h i (by simp), z⟩
      rw [List.getElem?_eq_none (by simpa using this), List.getElem?_eq_none (by omega)]
    · rw [List.getElem?_set_ne hi]
theorem Off.trans {a b : List Nat} {σ σ1 σ2 : L2.St} (h : Off a σ σ1) (k : Off b σ1 σ2) : Off (a ++ b) σ σ2 := fun us z =>
  (k us fun i hi => z i (List.mem_append_right _ hi)).trans (h us fun i hi => z i (List.mem_append_left _ hi))
def DG (X : Cx) (Γ : List Sl) (tg : Expr) (r : Rep) (Γ' : List Sl) (ws : List Nat) : Prop := ∀ F0 H0 F H σ v, En F0 H0 F H σ Γ → r.P F v → ∀ Q : L2.St → Hp → Prop, (∀ F' H' σ', Gr F H F' H' → En F0 H0 F' H' σ' Γ' → Off ws σ σ' → Q σ' H') → GV X tg v σ H Q
def DGs (X : Cx) (Γ : List Sl) (ts : List Expr) (rs : List Rep) (Γ' : List Sl) (ws : List Nat) : Prop := ∀ F0 H0 F H σ vs, En F0 H0 F H σ Γ → RL F rs vs → ∀ Q : L2.St → Hp → Prop, (∀ F' H' σ', Gr F H F' H' → En F0 H0 F' H' σ' Γ' → Off ws σ σ' → Q σ' H') → GVs X ts vs σ H Q
section
variable {X : Cx} {N : List Str} {sc : Scope} {k j : Nat} {Γ Γ' Γ1 : List Sl} {a b c e : Expr} {es rest : List Expr} {r ra rb rc r' : Rep} {rs l : List Rep} {pos p : Pos} {x : Str} {i : Nat} {ws ws' : List Nat}
theorem dg_name (B : BX X N sc k) (hN : N[i]? = some x) (hx : LocX X sc x) : DG X Γ (.Name x pos) r (Γ.set i (.im r)) [i] := fun F0 H0 F H σ v en hv Q q => by
  have hf : X.fn x = true ∨ X.env.scope.names.lookup x = some .local := by
    rcases hx with hx | hx
    · exact .inr (by rw [B.hsc]; exact hx)
    · exact .inl hx.2
  have hx : Loc sc x := hx.elim .inl fun z => .inr z.1
  exact .of (pg_name (i := i) (by rw [B.hN]; exact B.nd) (by rw [B.hN]; exact hN) (by rw [B.hsc]; exact hx) hf) (q F H _ (.refl en.gr.s) (en.setIm hv) off_set)
theorem dgs_nil : DGs X Γ [] [] Γ [] := fun F0 H0 F H σ vs en hv Q q pins s us I r => by
  cases hv
  cases r
  exact assignInOrder_nil ⟨σ, H, I, q F H σ (.refl en.gr.s) en fun _ _ => rfl⟩
theorem dgs_cons (h1 : DG X Γ e r Γ1 ws) (h2 : DGs X Γ1 es rs Γ' ws') (hs : (assignEach (e :: es) X.env).map (·.2) = assign e X.env :: (assignEach es X.env).map (·.2) := by rfl) : DGs X Γ (e :: es) (r :: rs) Γ' (ws ++ ws') := fun F0 H0 F H σ vs en hv Q q pins s us I rr => by
  cases hv with
  | cons v1 vt =>
    cases rr with
    | cons r1 rt =>
      rw [hs]
      refine assignInOrder_cons (thn (h1 F0 H0 F H σ _ en v1 (fun σ1 H1 => ∃ F1, Gr F H F1 H1 ∧ En F0 H0 F1 H1 σ1 Γ1 ∧ Off ws σ σ1) (fun F' H' σ' g en' o => ⟨F', g, en', o⟩) pins s _ I r1) fun _ s1 ⟨σ1, H1, I1, F1, g1, en1, o1⟩ => ?_)
      exact h2 F0 H0 F1 H1 σ1 _ en1 (RL.mono g1.f vt) Q (fun F' H' σ' g en' o => q F' H' σ' (g1.trans g) en' (o1.trans o)) pins s1 _ I1 rt
theorem dg_tup {n : Nat} (B : BX X N sc k) (h : DGs X Γ es rs Γ' ws) (hn : (assignEach es X.env).length = n := by rfl) (hl : rs.length = n := by rfl) (hst : (assignEach es X.env).findIdx? (·.1) = none := by rfl) : DG X Γ (.Tuple es j pos) (rTup X.K rs) Γ' ws := fun F0 H0 F H σ v en hv Q q => by
  obtain ⟨p, vs, rfl, h1, h2⟩ := hv
  refine .of (pg_tup (n := n) (t := GVs X es) B.calm ⟨fun pins s σ H vs us Q I r h => h pins s us I r⟩ hn hst) ?_
  exact ⟨p, vs, rfl, sqt_mono en.gr.s h1, by rw [← h2.len]; exact hl, h F0 H0 F H σ vs en h2 Q q⟩
end
/-! ### what a for or a comprehension walks -/
def IV (X : Cx) (tg it : Expr) (σ : L2.St) (H : Hp) (R : It → Hp → Prop) : Prop := ∀ (pins : List (Addr × Obj)) (s : Shared), Inv X pins σ H s → wpAny (model X.prog X.w) X.A (eval it X.env) (fun v s1 => wpAny (model X.prog X.w) X.A (pyIter v) (PIE X pins σ tg R) X.xe s1) X.xe s
theorem pi_ev {X : Cx} {tg it : Expr} : PI X tg it (IV X tg it) := ⟨fun pins s σ H R I h => h pins s I⟩
theorem IV.of {X : Cx} {tg it : Expr} {wi : TI} {σ : L2.St} {H : Hp} {R : It → Hp → Prop} (h : PI X tg it wi) (q : wi σ H R) : IV X tg it σ H R := fun pins s I => h.run pins s σ H R I q
/-- n turns, the i-th brings what is worth rr i -/
structure Wk (J : It) (F1 H1 : Hp) (n : Nat) (rr : Nat → Rep) : Prop where
  stop : ∀ i H, Same F1 H → n ≤ i → J.stop i H
  go : ∀ i H, Same F1 H → i < n → J.go i H
  yld : ∀ i F H x H', Same F1 F → Same F H → i < n → J.yld i H x H' → ∃ F', Gr F H F' H' ∧ (rr i).P F' x
def SR (X : Cx) (Γ : List Sl) (tg it : Expr) (n : Nat) (rr : Nat → Rep) : Prop := ∀ F0 H0 F H σ, En F0 H0 F H σ Γ → ∀ R : It → Hp → Prop, (∀ J F1 H1, Gr F H F1 H1 → Wk J F1 H1 n rr → R J H1) → IV X tg it σ H R
section
variable {X : Cx} {N : List Str} {sc : Scope} {k j : Nat} {Γ Γ' Γ1 : List Sl} {tg it it2 a b c e : Expr} {es rest : List Expr} {r ra rb rc r' : Rep} {rs l l2 : List Rep} {pos p : Pos} {x : Str} {i : Nat} {ws ws' : List Nat}
theorem seqL_same {K : PySem.W.Frag} {F H : Hp} {p : Addr} {vs : List V} (s : Same F H) (h : SqL K F p vs) : SqL K H p vs := s.seq h
theorem sr_list (h : DE X Γ it (rLst X.K l)) : SR X Γ tg it l.length (fun i => l.getD i rNon) := fun F0 H0 F H σ en R q =>
  .of (pi_list pe_ev) (h F0 H0 F H σ en _ fun v F1 H1 g hv => by
    obtain ⟨p, vs, rfl, hs, hl⟩ := hv
    refine ⟨p, rfl, ⟨vs, g.s.seq hs⟩, q _ F1 H1 g ⟨fun i H2 s hi => ⟨vs, s.seq hs, by rw [← hl.len]; exact hi⟩, fun i H2 s hi => ?_, fun i F2 H2 x H' s s2 hi hy => ?_⟩⟩
    · have hi' : i < vs.length := hl.len ▸ hi
      exact ⟨vs, vs[i], s.seq hs, List.getElem?_eq_getElem hi'⟩
    · obtain ⟨rfl, hx⟩ := hy
      have hx' := hx vs (s2.seq (s.seq hs))
      obtain ⟨r, e, hr⟩ := hl.got hx'
      refine ⟨F2, .refl s2, ?_⟩
      show (l.getD i rNon).P F2 x
      rw [List.getD_eq_getElem?_getD, e]
      exact r.mono s hr)
theorem sr_range1 {n : Int} (B : BX X N sc k) (hm : X.mg "range" = none) (h : DE X Γ a (rInt n)) (hg : sc.names.lookup ("range" : Str) = some NameKind.globalImplicit) (hb : n < 2 ^ 62) (hb2 : -(2 ^ 62) ≤ n) (hs : starEach [a] X.env = [(false, eval a X.env)] := by rfl) :
    SR X Γ tg (.Call (.Name "range" p) [a] [] pos) n.toNat (fun i => rInt (i : Nat)) := fun F0 H0 F H σ en R q => by
  have hgl : Gl X "range" := by
    show X.env.scope.names.lookup _ = _
    rw [B.hsc]
    exact hg
  refine .of (pi_range1 hgl hm (pa_cons pe_ev pa_nil hs) hs) (h F0 H0 F H σ en _ fun v F1 H1 g hv => ?_)
  cases hv
  refine ⟨n, rfl, hb2, hb, q _ F1 H1 g ⟨fun i H2 s hi => hi, fun i H2 s hi => hi, fun i F2 H2 x H' s s2 hi hy => ?_⟩⟩
  obtain ⟨rfl, rfl⟩ := hy
  exact ⟨F2, .refl s2, by show V.int _ = V.int _; rw [Int.zero_add]⟩
theorem sr_range2 {m n : Int} (B : BX X N sc k) (hm : X.mg "range" = none) (h : DE X Γ a (rInt m)) (h2 : DE X Γ b (rInt n)) (hg : sc.names.lookup ("range" : Str) = some NameKind.globalImplicit) (hb : -(2 ^ 62) ≤ m ∧ m < 2 ^ 62 ∧ -(2 ^ 62) ≤ n ∧ n < 2 ^ 62)
    (hs : starEach [a, b] X.env = [(false, eval a X.env), (false, eval b X.env)] := by rfl) (hs2 : starEach [b] X.env = [(false, eval b X.env)] := by rfl) (hs3 : starEach [a, b] X.env = (false, eval a X.env) :: starEach [b] X.env := by rfl) :
    SR X Γ tg (.Call (.Name "range" p) [a, b] [] pos) (n - m).toNat (fun i => rInt (m + (i : Nat))) := fun F0 H0 F H σ en R q => by
  have hgl : Gl X "range" := by
    show X.env.scope.names.lookup _ = _
    rw [B.hsc]
    exact hg
  refine .of (pi_range2 hgl hm (pa_cons pe_ev (pa_cons pe_ev pa_nil hs2) hs3) hs hs2) (h F0 H0 F H σ en _ fun v F1 H1 g hv => h2 F0 H0 F1 H1 σ (en.grow g) _ fun v2 F3 H3 g3 hv2 => ?_)
  cases hv
  cases hv2
  refine ⟨m, n, rfl, hb, q _ F3 H3 (g.trans g3) ⟨fun i H2 s hi => hi, fun i H2 s hi => hi, fun i F2 H2 x H' s s2 hi hy => ?_⟩⟩
  obtain ⟨rfl, rfl⟩ := hy
  exact ⟨F2, .refl s2, rfl⟩
theorem sr_zip {jj : Nat} {tpos : Pos} (B : BX X N sc k) (hm : X.mg "zip" = none) (h : DE X Γ it (rLst X.K l)) (h2 : DE X Γ it2 (rLst X.K l2)) (hg : sc.names.lookup ("zip" : Str) = some NameKind.globalImplicit)
    (hs : starEach [it, it2] X.env = (false, eval it X.env) :: starEach [it2] X.env := by rfl) (hs2 : starEach [it2] X.env = (false, eval it2 X.env) :: starEach [] X.env := by rfl) (hpl : (backTo pos (starEach [it2] X.env)).any (·.1) = false := by rfl) :
    SR X Γ (.Tuple es jj tpos) (.Call (.Name "zip" p) [it, it2] [] pos) (min l.length l2.length) (fun i => rTup X.K [l.getD i rNon, l2.getD i rNon]) := fun F0 H0 F H σ en R q => by
  have hgl : Gl X "zip" := by
    show X.env.scope.names.lookup _ = _
    rw [B.hsc]
    exact hg
  refine .of (pi_zip hgl hm (pa_cons pe_ev (pa_cons pe_ev pa_nil hs2) hs) hs hpl) (h F0 H0 F H σ en _ fun v F1 H1 g hv => h2 F0 H0 F1 H1 σ (en.grow g) _ fun v2 F3 H3 g3 hv2 => ?_)
  obtain ⟨p, vs, rfl, hsq, hl⟩ := hv
  obtain ⟨p2, vs2, rfl, hsq2, hl2⟩ := hv2
  have hsq := g3.f.seq hsq
  have hl := hl.mono g3.f
  refine ⟨p, p2, vs, vs2, rfl, g3.s.seq hsq, g3.s.seq hsq2, q _ F3 H3 (g.trans g3) ⟨fun i H2 s hi => ⟨vs, vs2, s.seq hsq, s.seq hsq2, ?_⟩, fun i H2 s hi => ?_, fun i F2 H2 x H' s s2 hi hy => ?_⟩⟩
  · rw [← hl.len, ← hl2.len]
    omega
  · have h3 := hl.len
    have h4 := hl2.len
    have i1 : i < vs.length := by omega
    have i2 : i < vs2.length := by omega
    exact ⟨vs, vs2, vs[i], vs2[i], s.seq hsq, s.seq hsq2, List.getElem?_eq_getElem i1, List.getElem?_eq_getElem i2⟩
  · obtain ⟨T, y, z, rfl, nT, rfl, f1, f2⟩ := hy
    obtain ⟨r1, e1, k1⟩ := hl.got (f1 vs (s2.seq (s.seq hsq)))
    obtain ⟨r2, e2, k2⟩ := hl2.got (f2 vs2 (s2.seq (s.seq hsq2)))
    refine ⟨_, .new s2 nT, T, [y, z], rfl, SqT.of upd_same, ?_⟩
    have sn : Same F2 (upd F2 T (.tup [y, z])) := same_new (s2.free nT)
    rw [List.getD_eq_getElem?_getD, List.getD_eq_getElem?_getD, e1, e2]
    exact .cons (r1.mono (s.trans sn) k1) (.cons (r2.mono (s.trans sn) k2) .nil)
theorem sr_enum {jj : Nat} {tpos : Pos} (B : BX X N sc k) (hm : X.mg "enumerate" = none) (h : DE X Γ it (rLst X.K l)) (hg : sc.names.lookup ("enumerate" : Str) = some NameKind.globalImplicit) (hs : starEach [it] X.env = [(false, eval it X.env)] := by rfl) :
    SR X Γ (.Tuple es jj tpos) (.Call (.Name "enumerate" p) [it] [] pos) l.length (fun i => rTup X.K [rInt (i : Nat), l.getD i rNon]) := fun F0 H0 F H σ en R q => by
  have hgl : Gl X "enumerate" := by
    show X.env.scope.names.lookup _ = _
    rw [B.hsc]
    exact hg
  refine .of (pi_enum hgl hm (pa_cons pe_ev pa_nil hs) hs) (h F0 H0 F H σ en _ fun v F1 H1 g hv => ?_)
  obtain ⟨p, vs, rfl, hsq, hl⟩ := hv
  refine ⟨p, vs, rfl, g.s.seq hsq, q _ F1 H1 g ⟨fun i H2 s hi => ⟨vs, s.seq hsq, ?_⟩, fun i H2 s hi => ?_, fun i F2 H2 x H' s s2 hi hy => ?_⟩⟩
  · rw [← hl.len]
    exact hi
  · have i1 : i < vs.length := hl.len ▸ hi
    exact ⟨vs, vs[i], s.seq hsq, List.getElem?_eq_getElem i1⟩
  · obtain ⟨T, y, rfl, nT, rfl, f1⟩ := hy
    obtain ⟨r1, e1, k1⟩ := hl.got (f1 vs (s2.seq (s.seq hsq)))
    refine ⟨_, .new s2 nT, T, _, rfl, SqT.of upd_same, ?_⟩
    have sn : Same F2 (upd F2 T (.tup [.int (i : Nat), y])) := same_new (s2.free nT)
    rw [List.getD_eq_getElem?_getD, e1]
    exact .cons rfl (.cons (r1.mono (s.trans sn) k1) .nil)

/-! ### for -/
structure Up (F0 F1 H0 : Hp) : Prop where
  up : ∀ F H, Gr F1 H0 F H → Gr F0 H0 F H
variable {F0 H0 F1 F H : Hp} {σ : L2.St} {st body : List Stmt} {D : Ends} {n : Nat} {rr : Nat → Rep}
theorem Up.en (u : Up F0 F1 H0) (en : En F1 H0 F H σ Γ) : En F0 H0 F H σ Γ := ⟨u.up _ _ en.gr, en.len, en.ok, en.own, en.sep⟩
theorem Up.rt {ret : Ret} (u : Up F0 F1 H0) (h : RT F0 H0 ret D) : RT F1 H0 ret D := fun v F' H' g hv => h v F' H' (u.up _ _ g) (by
  cases ret with
  | val r => exact hv
  | lst l => exact hv)
/-- what is wanted behind a turn -/
def LN (F1 H0 : Hp) (Iv : Nat → List Sl → Prop) (j : Nat) : L2.St → Hp → Prop := fun σ H => ∃ F Γ, En F1 H0 F H σ Γ ∧ Iv j Γ
theorem go_turn {Iv : Nat → List Sl → Prop} (h : Iv j Γ) (e : D.nx = LN F1 H0 Iv j := by rfl) : GO X F1 H0 [] D Γ := go_nil fun F H σ en => by rw [e]; exact ⟨F, Γ, en, h⟩
theorem go_contT {Iv : Nat → List Sl → Prop} (h : Iv j Γ) (e : D.ct = LN F1 H0 Iv j := by rfl) : GO X F1 H0 (.Continue pos :: st) D Γ := go_cont fun F H σ en => by rw [e]; exact ⟨F, Γ, en, h⟩
theorem go_brk (u : Up F0 F1 H0) {D0 : Ends} (h : GO X F0 H0 body D0 Γ) (e : D.bk = XS X body D0 := by rfl) : GO X F1 H0 (.Break pos :: st) D Γ := go_break fun F H σ en => by rw [e]; exact h F H σ (u.en en)
theorem go_for {ws : List Nat} (B : BX X N sc k) (Iv : Nat → List Sl → Prop) (hi : SR X Γ tg it n rr) {Γ0 : List Sl} (hle : SlLe Γ Γ0) (h0 : Iv 0 Γ0) (G1 : Nat → List Sl → List Sl)
    (hg : ∀ i Γ', i < n → Iv i Γ' → DG X Γ' tg (rr i) (G1 i Γ') ws)
    (hb : ∀ F1, Up F0 F1 H0 → ∀ i Γ', i < n → Iv i Γ' → GO X F1 H0 body { D with nx := LN F1 H0 Iv (i + 1), ct := LN F1 H0 Iv (i + 1), bk := XS X st D } (G1 i Γ'))
    (he : ∀ Γ', Iv n Γ' → GO X F0 H0 st D Γ') (hs : ∀ x, foldedSetIterable it X.env x = pure x := by intro _; rfl) : GO X F0 H0 (.For tg it body [] pos :: st) D Γ := fun F H σ en => by
  refine .of (pss_cons (ps_for B.own B.calm pi_ev pg_ev pss_ev hs) pss_ev) ?_
  refine hi F0 H0 F H σ en _ fun J F1 H1 g wk => ?_
  have en1 := en.grow g
  have u : Up F0 F1 H0 := ⟨fun F2 H2 g2 => ⟨en1.gr.f.trans g2.f, g2.h, g2.s, fun a ha z => g2.n a ha (en1.gr.n a ha z)⟩⟩
  have start : En F1 H0 F1 H1 σ Γ := ⟨⟨Same.refl _, en1.gr.h, g.s, fun _ _ z => z⟩, en1.len, en1.ok, en1.own, en1.sep⟩
  refine ⟨fun i m σ H => m = n - i ∧ i ≤ n ∧ LN F1 H0 Iv i σ H, ⟨n, by simp, Nat.zero_le _, F1, Γ0, start.le hle, h0⟩, fun i m σ2 H2 hw => ?_⟩
  obtain ⟨rfl, hle, F2, Γ2, en2, iv⟩ := hw
  have s2 : Same F1 H2 := en2.gr.f.trans en2.gr.s
  by_cases hlt : i < n
  · refine .inr ⟨wk.go i H2 s2 hlt, LN F1 H0 Iv (i + 1), fun σ' H' h => ⟨n - (i + 1), by omega, rfl, hlt, h⟩, fun x H' hy => ?_⟩
    obtain ⟨F3, g3, hx⟩ := wk.yld i F2 H2 x H' en2.gr.f en2.gr.s hlt hy
    exact hg i Γ2 hlt iv F1 H0 F3 H' σ2 x (en2.grow g3) hx _ fun F4 H4 σ4 g4 en4 _ => hb F1 u i Γ2 hlt iv F4 H4 σ4 en4
  · have e : i = n := by omega
    subst e
    exact .inl ⟨wk.stop i H2 s2 (Nat.le_refl _), he Γ2 iv F2 H2 σ2 (u.en en2)⟩
/-- a, b = e -/
theorem go_asg {ws : List Nat} (he : DE X Γ e r) (hg : DG X Γ tg r Γ' ws) (h : GO X F0 H0 st D Γ') (hs : swapsWithSole [tg] e pos.line X.env = pure false := by rfl) (hw : swappedStores [tg] e X.env = pure none := by rfl)
    (h1 : (assignEach [tg] X.env).map (·.2) = [assign tg X.env] := by rfl) : GO X F0 H0 (.Assign [tg] e pos :: st) D Γ := fun F H σ en => by
  refine .of (pss_cons (ps_asg pe_ev pg_ev hs hw h1) pss_ev) ?_
  exact he F0 H0 F H σ en _ fun v F1 H1 g hv => hg F0 H0 F1 H1 σ v (en.grow g) hv _ fun F2 H2 σ2 g2 en2 _ => h F2 H2 σ2 en2
/-- a, b = x, y -/
theorem go_par {i j : Nat} {y : Str} {px py pt : Pos} {kt k2 : Nat} {pt2 : Pos} (B : BX X N sc k) (ha : DE X Γ a ra) (hb : DE X Γ b rb) (hi : N[i]? = some x) (hj : N[j]? = some y) (hij : i ≠ j) (hx : sc.names.lookup x = some .local) (hy : sc.names.lookup y = some .local)
    (h : GO X F0 H0 st D ((Γ.set i (.im ra)).set j (.im rb))) (hw : ∀ env : Env, env.scope = sc → swappedStores [.Tuple [.Name x px, .Name y py] kt pt] (.Tuple [a, b] k2 pt2) env = pure (some [x, y]))
    (hs : swapsWithSole [.Tuple [.Name x px, .Name y py] kt pt] (.Tuple [a, b] k2 pt2) pos.line X.env = pure false := by rfl)
    (hs1 : starEach [a, b] X.env = (false, eval a X.env) :: starEach [b] X.env := by rfl) (hs2 : starEach [b] X.env = (false, eval b X.env) :: starEach [] X.env := by rfl) :
    GO X F0 H0 (.Assign [.Tuple [.Name x px, .Name y py] kt pt] (.Tuple [a, b] k2 pt2) pos :: st) D Γ := fun F H σ en => by
  refine .of (pss_cons (ps_par (i := i) (j := j) B.calm (by rw [B.hN]; exact B.nd) (by rw [B.hN]; exact hi) (by rw [B.hN]; exact hj) hij (by rw [B.hsc]; exact hx) (by rw [B.hsc]; exact hy) (pa_cons pe_ev (pa_cons pe_ev pa_nil hs2) hs1) (hw X.env B.hsc) hs) pss_ev) ?_
  exact ha F0 H0 F H σ en _ fun v F1 H1 g1 h1 => hb F0 H0 F1 H1 σ (en.grow g1) _ fun u F2 H2 g2 h2 => ⟨v, u, rfl, h F2 H2 _ (((en.grow g1).grow g2).setIm (ra.mono g2.f h1) |>.setIm h2)⟩
end
end DL

set_option Elab.async false
set_option linter.all false
set_option maxRecDepth 100000
set_option maxHeartbeats 4000000
namespace DL
open PySem PySem.Spec PyProof.Rows L2
theorem RL.atI {F : Hp} {l : List Rep} {vs : List V} {i : Int} {r : Rep} (h : RL F l vs) (e : L2.atI l i = some r) : ∃ v, L2.atI vs i = some v ∧ r.P F v := by
  unfold L2.atI at e ⊢
  rw [h.len] at e
  cases q : ixN vs.length i with
  | none => rw [q] at e; cases e
  | some j =>
    rw [q] at e
    exact h.get e
def cutR {α : Type} (xs : List α) (lo hi : Option Int) : List α := (xs.drop (HT.sIx xs.length 0 lo)).take (HT.sIx xs.length xs.length hi - HT.sIx xs.length 0 lo)
theorem RL.cut {F : Hp} {l : List Rep} {vs : List V} {lo hi : Option Int} (h : RL F l vs) : RL F (cutR l lo hi) (cutV vs lo hi) := by
  unfold cutR cutV
  rw [h.len]
  exact (h.drop _).take _
theorem cutR_map {α β : Type} (f : α → β) (xs : List α) (lo hi : Option Int) : cutR (xs.map f) lo hi = (cutR xs lo hi).map f := by
  unfold cutR
  rw [List.length_map, List.map_take, List.map_drop]
theorem cutR_to {α : Type} (xs : List α) (n : Nat) : cutR xs none (some (n : Int)) = xs.take n := by
  unfold cutR
  rw [HT.sIx_none, HT.sIx_nat, List.drop_zero, Nat.sub_zero]
  by_cases h : n ≤ xs.length
  · rw [Nat.min_eq_left h]
  · rw [Nat.min_eq_right (by omega), List.take_of_length_le (Nat.le_refl _), List.take_of_length_le (by omega)]
theorem cutR_from {α : Type} (xs : List α) (n : Nat) : cutR xs (some (n : Int)) none = xs.drop n := by
  unfold cutR
  rw [HT.sIx_none, HT.sIx_nat]
  by_cases h : n ≤ xs.length
  · rw [Nat.min_eq_left h, List.take_of_length_le (by rw [List.length_drop]; omega)]
  · rw [Nat.min_eq_right (by omega), Nat.sub_self, List.take_zero, List.drop_eq_nil_of_le (by omega)]
section
variable {X : Cx} {N : List Str} {sc : Scope} {k j : Nat} {Γ Γ' Γ1 : List Sl} {tg it a b c e : Expr} {es rest : List Expr} {r ra rb rc r' : Rep} {rs l l2 : List Rep} {pos p p2 : Pos} {x : Str} {i : Nat} {ws ws' : List Nat} {F0 H0 F1 F H : Hp} {σ : L2.St} {st body : List Stmt} {D : Ends}
/-! places -/
theorem de_ixr {r2 : R2} (hr : IxR X r2) (h2 : B2 r2 ra rb rc) (ha : DE X Γ a ra) (hb : DE X Γ b rb) (hs : PlainIx b := by exact fun _ _ => rfl) : DE X Γ (.Subscript a b pos) rc := fun F0 H0 F H σ en Q q =>
  .of (pe_ix hr pe_ev pe_ev hs) (two ha hb h2 en q)
theorem de_ixL {n : Int} (h : atI l n = some r) (ha : DE X Γ a (rLst X.K l)) (hb : DE X Γ b (rInt n)) (hs : PlainIx b := by exact fun _ _ => rfl) : DE X Γ (.Subscript a b pos) r :=
  de_ixr ix_list (fun F H x y s h1 h2 Q q => by
    obtain ⟨p, vs, rfl, k1, k2⟩ := h1
    cases h2
    obtain ⟨v, k3, k4⟩ := k2.atI h
    exact ⟨p, vs, n, v, rfl, rfl, s.seq k1, k3, q v F H (.refl s) k4⟩) ha hb hs
theorem de_ixT {n : Int} (h : atI l n = some r) (ha : DE X Γ a (rTup X.K l)) (hb : DE X Γ b (rInt n)) (hs : PlainIx b := by exact fun _ _ => rfl) : DE X Γ (.Subscript a b pos) r :=
  de_ixr ix_tup (fun F H x y s h1 h2 Q q => by
    obtain ⟨p, vs, rfl, k1, k2⟩ := h1
    cases h2
    obtain ⟨v, k3, k4⟩ := k2.atI h
    exact ⟨p, vs, n, v, rfl, rfl, sqt_mono s k1, k3, q v F H (.refl s) k4⟩) ha hb hs
/-- an item of a list of one's own -/
theorem de_ixO {n : Int} (B : BX X N sc k) (h : atI l n = some r) (hΓ : Γ[i]? = some (.ow l)) (hN : N[i]? = some x) (hv : Vis sc x) (hb : DE X Γ b (rInt n)) (hs : PlainIx b := by exact fun _ _ => rfl) (hd : (x == ("__debug__" : Str)) = false := by decide) (hcd : (x == ("__classdict__" : Str)) = false := by decide) :
    DE X Γ (.Subscript (.Name x p) b pos) r := fun F0 H0 F H σ en Q q => by
  obtain ⟨p, vs, h1, h2, h3, h4, h5⟩ := en.ow hΓ
  refine .of (pe_ix ix_list (pe_var (i := i) (B.hN ▸ hN) (B.hsc ▸ hv) hd hcd) pe_ev hs) ⟨_, h1, hb F0 H0 F H σ en _ fun v F' H' g hv => ?_⟩
  cases hv
  obtain ⟨v, k3, k4⟩ := h4.atI h
  exact ⟨p, vs, n, v, rfl, rfl, SqL.of (g.h _ _ h3), k3, q v F' H' g (r.mono g.f k4)⟩
/-- x[i] = e, x a list of one's own -/
theorem go_put {n : Int} {jj : Nat} {tpos : Pos} (B : BX X N sc k) (he : DE X Γ e r) (hb : DE X Γ b (rInt n)) (hj : ixN l.length n = some jj) (hΓ : Γ[i]? = some (.ow l)) (hN : N[i]? = some x) (hv : Vis sc x) (h : GO X F0 H0 st D (Γ.set i (.ow (l.set jj r))))
    (hd : (x == ("__debug__" : Str)) = false := by decide) (hcd : (x == ("__classdict__" : Str)) = false := by decide)
    (ha : ∀ v, assign (.Subscript (.Name x p) b tpos) X.env v = (do
      let ov ← holding [v] (eval (.Name x p) X.env)
      let iv ← holding [v, ov] (eval b X.env)
      standAt tpos
      holding [v, ov, iv] (setItem ov iv v)
      release [v, ov, iv] []) := by intro _; rfl)
    (hs : swapsWithSole [.Subscript (.Name x p) b tpos] e pos.line X.env = pure false := by rfl) (hw : swappedStores [.Subscript (.Name x p) b tpos] e X.env = pure none := by rfl)
    (h1 : (assignEach [.Subscript (.Name x p) b tpos] X.env).map (·.2) = [assign (.Subscript (.Name x p) b tpos) X.env] := by rfl) :
    GO X F0 H0 (.Assign [.Subscript (.Name x p) b tpos] e pos :: st) D Γ := fun F H σ en => by
  refine .of (pss_cons (ps_asg pe_ev (pg_sub (pe_var (i := i) (B.hN ▸ hN) (B.hsc ▸ hv) hd hcd) pe_ev set_list ha) hs hw h1) pss_ev) ?_
  refine he F0 H0 F H σ en _ fun v F1 H1 g1 hv1 => ?_
  have en1 := en.grow g1
  obtain ⟨q, vs, k1, k2, k3, k4, k5⟩ := en1.ow hΓ
  refine ⟨_, k1, hb F0 H0 F1 H1 σ en1 _ fun v2 F2 H2 g2 hv2 => ?_⟩
  cases hv2
  have en2 := en1.grow g2
  refine ⟨q, vs, n, jj, rfl, rfl, g2.h _ _ k3, by rw [← k4.len]; exact hj, ?_⟩
  exact h F2 _ σ (en2.put hΓ k1 ((k4.mono g2.f).set (r.mono g2.f hv1) jj))
/-! lengths -/
theorem cb_lenL : CB (fun xs H Q => ∃ p ys, xs = [V.ref p] ∧ (SqL X.K H p ys ∨ SqT X.K H p ys) ∧ Q (.int ys.length) H) [rLst X.K l] (rInt l.length) := fun F H vs s h Q q => by
  obtain ⟨v, rfl, p, ys, rfl, k1, k2⟩ := rl1 h
  exact ⟨p, ys, rfl, .inl (s.seq k1), q _ F H (.refl s) (by rw [k2.len]; rfl)⟩
theorem cb_lenT : CB (fun xs H Q => ∃ p ys, xs = [V.ref p] ∧ (SqL X.K H p ys ∨ SqT X.K H p ys) ∧ Q (.int ys.length) H) [rTup X.K l] (rInt l.length) := fun F H vs s h Q q => by
  obtain ⟨v, rfl, p, ys, rfl, k1, k2⟩ := rl1 h
  exact ⟨p, ys, rfl, .inr (sqt_mono s k1), q _ F H (.refl s) (by rw [k2.len]; rfl)⟩
theorem de_lenL (B : BX X N sc k) (hm : X.mg "len" = none) (h : DE X Γ e (rLst X.K l)) (hg : sc.names.lookup ("len" : Str) = some NameKind.globalImplicit) (he : starEach (e :: []) X.env = (false, eval e X.env) :: starEach [] X.env := by rfl) : DE X Γ (.Call (.Name "len" p) [e] [] pos) (rInt l.length) :=
  de_blt B call_len_seq cb_lenL hm PySem.boot_len (da_cons h da_nil he) hg (he := he)
theorem de_lenT (B : BX X N sc k) (hm : X.mg "len" = none) (h : DE X Γ e (rTup X.K l)) (hg : sc.names.lookup ("len" : Str) = some NameKind.globalImplicit) (he : starEach (e :: []) X.env = (false, eval e X.env) :: starEach [] X.env := by rfl) : DE X Γ (.Call (.Name "len" p) [e] [] pos) (rInt l.length) :=
  de_blt B call_len_seq cb_lenT hm PySem.boot_len (da_cons h da_nil he) hg (he := he)
/-- len of a list of one's own -/
theorem de_lenO (B : BX X N sc k) (hm : X.mg "len" = none) (hΓ : Γ[i]? = some (.ow l)) (hN : N[i]? = some x) (hv : Vis sc x) (hg : sc.names.lookup ("len" : Str) = some NameKind.globalImplicit) (hd : (x == ("__debug__" : Str)) = false := by decide) (hcd : (x == ("__classdict__" : Str)) = false := by decide)
    (he : starEach (Expr.Name x p2 :: []) X.env = (false, eval (.Name x p2) X.env) :: starEach [] X.env := by rfl) : DE X Γ (.Call (.Name "len" p) [.Name x p2] [] pos) (rInt l.length) := fun F0 H0 F H σ en Q q => by
  obtain ⟨pp, vs, h1, h2, h3, h4, h5⟩ := en.ow hΓ
  have hgl : Gl X "len" := by
    show X.env.scope.names.lookup _ = _
    rw [B.hsc]
    exact hg
  exact .of (pe_callB call_len_seq hgl hm PySem.boot_len (pa_cons (pe_var (i := i) (B.hN ▸ hN) (B.hsc ▸ hv) hd hcd) pa_nil he) (he := he)) ⟨_, h1, pp, vs, rfl, .inl (SqL.of h3), q _ F H (.refl en.gr.s) (by rw [h4.len]; rfl)⟩
/-! list(xs), xs[a:b]: new lists -/
theorem dl_list (B : BX X N sc k) (hm : X.mg "list" = none) (h : DE X Γ e (rLst X.K l)) (hg : sc.names.lookup ("list" : Str) = some NameKind.globalImplicit) (he : starEach (e :: []) X.env = (false, eval e X.env) :: starEach [] X.env := by rfl) : DL X Γ (.Call (.Name "list" p) [e] [] pos) l := fun F0 H0 F H σ en Q q => by
  have hgl : Gl X "list" := by
    show X.env.scope.names.lookup _ = _
    rw [B.hsc]
    exact hg
  refine .of (pe_callTy call_list_of hgl hm (by decide +kernel) (pa_cons pe_ev pa_nil he) (he := he)) (h F0 H0 F H σ en _ fun v F1 H1 g hv => ?_)
  obtain ⟨p, vs, rfl, k1, k2⟩ := hv
  exact ⟨p, vs, rfl, .inl (g.s.seq k1), fun q' hq => q q' vs F1 _ (g.trans (.newOwn g.s hq)) (g.h.free hq) (g.s.free hq) upd_same k2⟩
theorem dl_listT (B : BX X N sc k) (hm : X.mg "list" = none) (h : DE X Γ e (rTup X.K l)) (hg : sc.names.lookup ("list" : Str) = some NameKind.globalImplicit) (he : starEach (e :: []) X.env = (false, eval e X.env) :: starEach [] X.env := by rfl) : DL X Γ (.Call (.Name "list" p) [e] [] pos) l := fun F0 H0 F H σ en Q q => by
  have hgl : Gl X "list" := by
    show X.env.scope.names.lookup _ = _
    rw [B.hsc]
    exact hg
  refine .of (pe_callTy call_list_of hgl hm (by decide +kernel) (pa_cons pe_ev pa_nil he) (he := he)) (h F0 H0 F H σ en _ fun v F1 H1 g hv => ?_)
  obtain ⟨p, vs, rfl, k1, k2⟩ := hv
  exact ⟨p, vs, rfl, .inr (sqt_mono g.s k1), fun q' hq => q q' vs F1 _ (g.trans (.newOwn g.s hq)) (g.h.free hq) (g.s.free hq) upd_same k2⟩
def DO (X : Cx) (Γ : List Sl) (e : Option Expr) (o : Option Int) : Prop := match e, o with
  | none, none => True
  | some e, some n => DE X Γ e (rInt n)
  | _, _ => False
theorem dl_slice {lo hi : Option Expr} {ol oh : Option Int} (h : DE X Γ e (rLst X.K l)) (h1 : DO X Γ lo ol) (h2 : DO X Γ hi oh) : DL X Γ (.Subscript e (.Slice lo hi none p2) pos) (cutR l ol oh) := fun F0 H0 F H σ en Q q => by
  have part : ∀ {o : Option Expr} {w : Option Int}, DO X Γ o w → ∃ t, PO X o t ∧ ∀ F H, En F0 H0 F H σ Γ → ∀ R : Option Int → Hp → Prop, (∀ F' H', Gr F H F' H' → R w H') → t σ H R := fun {o w} hd => by
    match o, w, hd with
    | none, none, _ => exact ⟨_, po_none, fun F H en R q => q F H (.refl en.gr.s)⟩
    | some e, some n, hd => exact ⟨_, po_some pe_ev, fun F H en R q => hd F0 H0 F H σ en _ fun v F' H' g hv => ⟨n, hv, q F' H' g⟩⟩
    | none, some _, hd => exact hd.elim
    | some _, none, hd => exact hd.elim
  obtain ⟨t1, q1, w1⟩ := part h1
  obtain ⟨t2, q2, w2⟩ := part h2
  refine .of (pe_slice sl_list pe_ev q1 q2) (h F0 H0 F H σ en _ fun v F1 H1 g hv => w1 F1 H1 (en.grow g) _ fun F2 H2 g2 => w2 F2 H2 ((en.grow g).grow g2) _ fun F3 H3 g3 => ?_)
  obtain ⟨p, vs, rfl, k1, k2⟩ := hv
  have gg := (g.trans g2).trans g3
  exact ⟨p, vs, rfl, g3.s.seq ((g2.f.trans g3.f).seq k1), fun q' hq => q q' _ F3 _ (gg.trans (.newOwn gg.s hq)) (gg.h.free hq) (gg.s.free hq) upd_same (k2.cut.mono (g2.f.trans g3.f))⟩
theorem dl_cat (ha : DL X Γ a l) (hb : DL X Γ b l2) (hl : l.length + l2.length ≤ sizeLine) : DL X Γ (.BinOp a .Add b pos) (l ++ l2) := fun F0 H0 F H σ en Q q =>
  .of (pe_op op_cat pe_ev pe_ev) (ha F0 H0 F H σ en _ fun p1 vs1 F1 H1 g1 a1 a2 a3 a4 => hb F0 H0 F1 H1 σ (en.grow g1) _ fun p2 vs2 F2 H2 g2 b1 b2 b3 b4 =>
    ⟨p1, p2, vs1, vs2, rfl, rfl, g2.h _ _ a3, b3, by rw [← a4.len, ← b4.len]; exact hl, fun q' hq => q q' _ F2 _ ((g1.trans g2).trans (.newOwn g2.s hq)) ((g1.trans g2).h.free hq) (g2.s.free hq) upd_same ((a4.mono g2.f).app b4)⟩)
/-! kinds -/
def RTy (K : PySem.W.Frag) (r : Rep) (t : Value) : Prop := ∀ F H v, Same F H → r.P F v → TyX K H v t
theorem rty_int {K : PySem.W.Frag} {n : Int} : RTy K (rInt n) (.type "int") := fun F H v s h => by cases h; exact .base (.int n)
theorem rty_bl {K : PySem.W.Frag} {n : Bool} : RTy K (rBl n) (.type "bool") := fun F H v s h => by cases h; exact .base (.bl n)
theorem rty_str {K : PySem.W.Frag} {n : Str} : RTy K (rStr n) (.type "str") := fun F H v s h => by cases h; exact .base (.str n)
theorem rty_non {K : PySem.W.Frag} : RTy K rNon (.type "NoneType") := fun F H v s h => by cases h; exact .base .non
theorem rty_tup {K : PySem.W.Frag} : RTy K (rTup K l) (.type "tuple") := fun F H v s h => by
  obtain ⟨p, vs, rfl, h1, h2⟩ := h
  rcases sqt_mono s h1 with (h | ⟨o, h⟩) | h
  · exact .base (.tup h)
  · exact .fTuple h
  · obtain ⟨_, _, _, hk, hc, _⟩ := h
    exact .kTuple hk hc
theorem rty_lst {K : PySem.W.Frag} : RTy K (rLst K l) (.type "list") := fun F H v s h => by
  obtain ⟨p, vs, rfl, h1, h2⟩ := h
  rcases s.seq h1 with (h | ⟨o, h⟩) | h
  · exact .base (.lst h)
  · exact .base (.frz h)
  · obtain ⟨_, _, _, hk, hc, _⟩ := h
    exact .kList hk hc
theorem cb_isi {t : Value} {T : String} {u : Bool} (h : RTy X.K r t) (hk : PySem.W.kitOne X.K t (.type T) = some u) : CB (rIsi X.K) [r, rC (.ty T)] (rBl u) := fun F H vs s hv Q q => by
  obtain ⟨v, w, rfl, h1, h2⟩ := rl2 hv
  cases h2
  exact ⟨v, .ty T, t, .type T, u, rfl, .ty T, h F H v s h1, hk, q _ F H (.refl s) rfl⟩
theorem de_ty {T : String} (B : BX X N sc k) (hm : X.mg x = none) (hv : bootBuiltins x = some (.type T)) (hg : sc.names.lookup x = some .globalImplicit) (hn : x ≠ "__name__" := by decide) (hdb : (x == ("__debug__" : Str)) = false := by decide) : DE X Γ (.Name x pos) (rC (.ty T)) := fun F0 H0 F H σ en Q q => by
  have hgl : Gl X x := by
    show X.env.scope.names.lookup x = _
    rw [B.hsc]
    exact hg
  exact .of (pe_bltn (v := .ty T) hgl hm hv rfl hn hdb) (q _ F H (.refl en.gr.s) rfl)
theorem de_isi {t : Value} {T : String} {u : Bool} (B : BX X N sc k) (hm : X.mg "isinstance" = none) (h : RTy X.K r t) (hk : PySem.W.kitOne X.K t (.type T) = some u) (ha : DE X Γ a r) (hb : DE X Γ b (rC (.ty T))) (hg : sc.names.lookup ("isinstance" : Str) = some NameKind.globalImplicit)
    (he : starEach (a :: [b]) X.env = (false, eval a X.env) :: starEach [b] X.env := by rfl) (he2 : starEach (b :: []) X.env = (false, eval b X.env) :: starEach [] X.env := by rfl) (hpl : (backTo pos (starEach [b] X.env)).any (·.1) = false := by rfl) : DE X Γ (.Call (.Name "isinstance" p) [a, b] [] pos) (rBl u) :=
  de_blt B call_isi (cb_isi h hk) hm (by decide +kernel) (da_cons ha (da_cons hb da_nil he2) he) hg (he := he) (hpl := hpl)
/-! equal data -/
def RDp (K : PySem.W.Frag) (r : Rep) (d : PyData) : Prop := (∀ F v, r.P F v → Dp K F v d) ∧ SeqAt.shaped d = true
mutual
theorem dp_mono {K : PySem.W.Frag} {F H : Hp} (s : Same F H) : ∀ (d : PyData) (v : V), Dp K F v d → Dp K H v d
  | _, _, .non => .non
  | _, _, .bl b => .bl b
  | _, _, .int i => .int i
  | _, _, .str x => .str x
  | _, _, .lst h a => .lst (s.seq h) (dpa_mono s _ _ a)
  | _, _, .tup h a => .tup (sqt_mono s h) (dpa_mono s _ _ a)
theorem dpa_mono {K : PySem.W.Frag} {F H : Hp} (s : Same F H) : ∀ (ds : List PyData) (vs : List V), DpAll K F vs ds → DpAll K H vs ds
  | _, _, .nil => .nil
  | _, _, .cons h t => .cons (dp_mono s _ _ h) (dpa_mono s _ _ t)
end
def DpL (K : PySem.W.Frag) (r : Rep) (d : PyData) : Prop := ∀ F v, r.P F v → Dp K F v d
theorem dpl_int {K : PySem.W.Frag} {n : Int} : DpL K (rInt n) (.int n) := fun F v h => by cases h; exact .int n
theorem dpl_bl {K : PySem.W.Frag} {n : Bool} : DpL K (rBl n) (.bool n) := fun F v h => by cases h; exact .bl n
theorem dpl_str {K : PySem.W.Frag} {n : Str} : DpL K (rStr n) (.str n) := fun F v h => by cases h; exact .str n
theorem dpl_non {K : PySem.W.Frag} : DpL K rNon .none := fun F v h => by cases h; exact .non
theorem dpa_of {K : PySem.W.Frag} {F : Hp} {α : Type} {R : α → Rep} {d : α → PyData} : ∀ {xs : List α} {vs : List V}, (∀ x ∈ xs, DpL K (R x) (d x)) → RL F (xs.map R) vs → DpAll K F vs (xs.map d)
  | [], _, _, h => by cases h; exact .nil
  | x :: xs, _, hd, h => by
    cases h with
    | cons a t => exact .cons (hd x List.mem_cons_self F _ a) (dpa_of (fun y hy => hd y (List.mem_cons_of_mem _ hy)) t)
theorem dpl_lst {K : PySem.W.Frag} {α : Type} {R : α → Rep} {d : α → PyData} {xs : List α} (h : ∀ x ∈ xs, DpL K (R x) (d x)) : DpL K (rLst K (xs.map R)) (.list (xs.map d)) := fun F v hv => by
  obtain ⟨p, vs, rfl, h1, h2⟩ := hv
  exact .lst h1 (dpa_of h h2)
theorem dpl_tup {K : PySem.W.Frag} {α : Type} {R : α → Rep} {d : α → PyData} {xs : List α} (h : ∀ x ∈ xs, DpL K (R x) (d x)) : DpL K (rTup K (xs.map R)) (.tuple (xs.map d)) := fun F v hv => by
  obtain ⟨p, vs, rfl, h1, h2⟩ := hv
  exact .tup h1 (dpa_of h h2)
theorem dpl_tup2 {K : PySem.W.Frag} {d1 d2 : PyData} (h1 : DpL K ra d1) (h2 : DpL K rb d2) : DpL K (rTup K [ra, rb]) (.tuple [d1, d2]) := fun F v hv => by
  obtain ⟨p, vs, rfl, k1, k2⟩ := hv
  obtain ⟨v, w, rfl, a, b⟩ := rl2 k2
  exact .tup k1 (.cons (h1 F v a) (.cons (h2 F w b) .nil))
theorem b2_eqD {d1 d2 : PyData} (h1 : DpL X.K ra d1) (h2 : DpL X.K rb d2) (s1 : SeqAt.shaped d1 = true) (s2 : SeqAt.shaped d2 = true) : B2 (rEqD X.K) ra rb (rBl (PyData.eqv d1 d2)) := fun F H x y s k1 k2 Q q =>
  ⟨d1, d2, dp_mono s _ _ (h1 F x k1), dp_mono s _ _ (h2 F y k2), s1, s2, q _ F H (.refl s) rfl⟩
theorem b2_neD {d1 d2 : PyData} (h1 : DpL X.K ra d1) (h2 : DpL X.K rb d2) (s1 : SeqAt.shaped d1 = true) (s2 : SeqAt.shaped d2 = true) : B2 (rNeD X.K) ra rb (rBl (!PyData.eqv d1 d2)) := fun F H x y s k1 k2 Q q =>
  ⟨d1, d2, dp_mono s _ _ (h1 F x k1), dp_mono s _ _ (h2 F y k2), s1, s2, q _ F H (.refl s) rfl⟩
theorem BX.hu (B : BX X N sc k) : X.A.units + 64 < cLine := B.room.units
/-! gcd, lcm, abs, int -/
theorem de_gcd {m n : Int} (B : BX X N sc k) (hm : X.mg x = some (.builtin "math.gcd")) (ha : DE X Γ a (rInt m)) (hb : DE X Γ b (rInt n)) (hg : sc.names.lookup x = some .globalImplicit) (hdb : (x == ("__debug__" : Str)) = false := by decide)
    (he : starEach (a :: [b]) X.env = (false, eval a X.env) :: starEach [b] X.env := by rfl) (he2 : starEach (b :: []) X.env = (false, eval b X.env) :: starEach [] X.env := by rfl) (hpl : (backTo pos (starEach [b] X.env)).any (·.1) = false := by rfl) : DE X Γ (.Call (.Name x p) [a, b] [] pos) (rInt (Int.gcd m n : Nat)) :=
  de_bfun B cr_gcd (fun F H vs s hv Q q => by
    obtain ⟨v, w, rfl, h1, h2⟩ := rl2 hv
    cases h1
    cases h2
    exact ⟨m, n, rfl, q _ F H (.refl s) rfl⟩) hm (da_cons ha (da_cons hb da_nil he2) he) hg hdb (he := he) (hpl := hpl)
def rLcm : List V → Hp → VK → Prop := fun vs H Q => ∃ a b : Int, vs = [.int a, .int b] ∧ a.natAbs.log2 < 10000 ∧ b.natAbs.log2 < 10000 ∧ Q (.int ((Nat.lcm a.natAbs b.natAbs : Nat) : Int)) H
theorem lcm_log {a b : Nat} (ha : a.log2 < 10000) (hb : b.log2 < 10000) : (Nat.lcm a b).log2 < 20002 := by
  by_cases h0 : Nat.lcm a b = 0
  · rw [h0, Nat.log2_zero]; decide
  · have hab : Nat.lcm a b ≤ a * b := Nat.div_le_self _ _
    have ha1 : a < 2 ^ 10001 := by
      by_cases z : a = 0
      · subst z; exact Nat.pow_pos (by decide)
      · exact (Nat.log2_lt z).mp (by omega)
    have hb1 : b < 2 ^ 10001 := by
      by_cases z : b = 0
      · subst z; exact Nat.pow_pos (by decide)
      · exact (Nat.log2_lt z).mp (by omega)
    have : Nat.lcm a b < 2 ^ 20002 := by
      have h1 : a * b < 2 ^ 10001 * 2 ^ 10001 := Nat.mul_lt_mul'' ha1 hb1
      rw [← Nat.pow_add] at h1
      exact Nat.lt_of_le_of_lt hab h1
    exact (Nat.log2_lt h0).mpr this
theorem cr_lcm : CallR X (.builtin "math.lcm") rLcm := by
  intro pins s σ H vs us Q I r h
  obtain ⟨a, b, rfl, ha, hb, q⟩ := h
  obtain ⟨t, u, rfl⟩ := Vals.int2 r
  have e1 : Nat.lcm 1 a.natAbs = a.natAbs := Nat.lcm_one_left _
  have m : ∀ x y : Nat, (max x y).log2 ≤ max x.log2 y.log2 := fun x y => by
    rcases Nat.le_total x y with z | z
    · rw [Nat.max_eq_right z]; exact Nat.le_max_right _ _
    · rw [Nat.max_eq_left z]; exact Nat.le_max_left _ _
  have m1 := m 1 a.natAbs
  have m2 := m a.natAbs b.natAbs
  have l1 : Nat.log2 1 = 0 := by decide
  have hl := lcm_log ha hb
  have hbl : bitsLine = 134217728 := by decide
  refine call_function_meets PySem.W.MGF.kind_lcm PySem.W.MGF.plain_lcm PySem.W.MGF.entry_lcm (PySem.W.MGF.args_lcm _ _) (PySem.W.mg_run_lcm a t b u (by omega) (by omega) ?_).meets ?_
  · rw [e1, Int.natAbs_natCast, hbl]
    omega
  · rw [e1]
    exact ⟨.int _, H, I.tok _, ⟨_, rfl⟩, q⟩
theorem de_lcm {m n : Int} (B : BX X N sc k) (hm : X.mg x = some (.builtin "math.lcm")) (h1 : m.natAbs.log2 < 10000) (h2 : n.natAbs.log2 < 10000) (ha : DE X Γ a (rInt m)) (hb : DE X Γ b (rInt n)) (hg : sc.names.lookup x = some .globalImplicit) (hdb : (x == ("__debug__" : Str)) = false := by decide)
    (he : starEach (a :: [b]) X.env = (false, eval a X.env) :: starEach [b] X.env := by rfl) (he2 : starEach (b :: []) X.env = (false, eval b X.env) :: starEach [] X.env := by rfl) (hpl : (backTo pos (starEach [b] X.env)).any (·.1) = false := by rfl) : DE X Γ (.Call (.Name x p) [a, b] [] pos) (rInt (Int.lcm m n : Nat)) :=
  de_bfun B cr_lcm (fun F H vs s hv Q q => by
    obtain ⟨v, w, rfl, k1, k2⟩ := rl2 hv
    cases k1
    cases k2
    exact ⟨m, n, rfl, h1, h2, q _ F H (.refl s) rfl⟩) hm (da_cons ha (da_cons hb da_nil he2) he) hg hdb (he := he) (hpl := hpl)
theorem de_abs {m : Int} (B : BX X N sc k) (hm : X.mg "abs" = none) (ha : DE X Γ a (rInt m)) (hg : sc.names.lookup ("abs" : Str) = some NameKind.globalImplicit)
    (he : starEach (a :: []) X.env = (false, eval a X.env) :: starEach [] X.env := by rfl) : DE X Γ (.Call (.Name "abs" p) [a] [] pos) (rInt (m.natAbs : Nat)) :=
  de_blt B call_abs (fun F H vs s hv Q q => by
    obtain ⟨v, rfl, k1⟩ := rl1 hv
    cases k1
    exact ⟨m, rfl, q _ F H (.refl s) (by show V.int _ = V.int _; congr 1; split <;> omega)⟩) hm (by decide +kernel) (da_cons ha da_nil he) hg (he := he)
theorem de_toInt {m : Int} (B : BX X N sc k) (hm : X.mg "int" = none) (ha : DE X Γ a (rInt m)) (hg : sc.names.lookup ("int" : Str) = some NameKind.globalImplicit)
    (he : starEach (a :: []) X.env = (false, eval a X.env) :: starEach [] X.env := by rfl) : DE X Γ (.Call (.Name "int" p) [a] [] pos) (rInt m) :=
  de_bty B call_int1 (fun F H vs s hv Q q => by
    obtain ⟨v, rfl, k1⟩ := rl1 hv
    cases k1
    exact .inl ⟨m, rfl, q _ F H (.refl s) rfl⟩) hm (by decide +kernel) (da_cons ha da_nil he) hg (he := he)
/-! is None -/
def NotNon (r : Rep) : Prop := ∀ F v, r.P F v → v ≠ .non
theorem de_isN (ha : DE X Γ a rNon) : DE X Γ (.Compare a [.Is] [.Constant .none j p] pos) (rBl true) := de_cmp op_isN (fun F H x y s h1 h2 Q q => by cases h1; cases h2; exact ⟨rfl, q _ F H (.refl s) rfl⟩) ha de_non (nomark _)
theorem de_isN0 (hn : NotNon r) (ha : DE X Γ a r) : DE X Γ (.Compare a [.Is] [.Constant .none j p] pos) (rBl false) := de_cmp op_isN (fun F H x y s h1 h2 Q q => by
  cases h2
  exact ⟨rfl, q _ F H (.refl s) (by show V.bl _ = V.bl _; rw [decide_eq_false (hn F x h1)])⟩) ha de_non (nomark _)
theorem notNon_int {n : Int} : NotNon (rInt n) := fun F v h => by cases h; exact fun z => nomatch z
theorem notNon_num {K : PySem.W.Frag} {q : Rat} : NotNon (rNum K q) := fun F v h => by
  unfold rNum at h
  split at h
  · cases h; exact fun z => nomatch z
  · obtain ⟨p, vs, rfl, _⟩ := h
    exact fun z => nomatch z
end
end DL

set_option Elab.async false
set_option linter.all false
set_option maxRecDepth 100000
set_option maxHeartbeats 4000000
namespace DL
open PySem PySem.Spec PyProof.Rows L2
/-- the slots after some stores -/
def sets (Γ : List Sl) : List (Nat × Sl) → List Sl
  | [] => Γ
  | (i, s) :: r => sets (Γ.set i s) r
section
variable {X : Cx} {N : List Str} {sc : Scope} {k j : Nat} {Γ Γ' Γ1 : List Sl} {tg it a b c e : Expr} {es rest : List Expr} {r ra rb rc r' : Rep} {rs l l2 : List Rep} {pos p p2 : Pos} {x : Str} {i : Nat} {ws ws' : List Nat} {F0 H0 F1 F H : Hp} {σ : L2.St} {st body : List Stmt} {D : Ends} {n : Nat} {rr : Nat → Rep}
theorem go_le (h : SlLe Γ Γ') (g : GO X F0 H0 st D Γ') : GO X F0 H0 st D Γ := fun F H σ en => g F H σ (en.le h)
/-- a loop whose slots are known at each turn: chg tells those that change -/
def IvS (Γ : List Sl) (chg : Nat → List (Nat × Sl)) (J : Nat → Prop) : Nat → List Sl → Prop := fun i Γ' => Γ' = sets Γ (chg i) ∧ J i
theorem go_forS {ws : List Nat} (B : BX X N sc k) (chg : Nat → List (Nat × Sl)) (J : Nat → Prop) (hi : SR X Γ tg it n rr) (G1 : Nat → List Sl) (hg : ∀ i, i < n → DG X (sets Γ (chg i)) tg (rr i) (G1 i) ws) (h0 : SlLe Γ (sets Γ (chg 0))) (j0 : J 0)
    (hb : ∀ F1, Up F0 F1 H0 → ∀ i, i < n → J i → GO X F1 H0 body { D with nx := LN F1 H0 (IvS Γ chg J) (i + 1), ct := LN F1 H0 (IvS Γ chg J) (i + 1), bk := XS X st D } (G1 i))
    (he : J n → GO X F0 H0 st D (sets Γ (chg n))) (hs : ∀ x, foldedSetIterable it X.env x = pure x := by intro _; rfl) : GO X F0 H0 (.For tg it body [] pos :: st) D Γ :=
  go_for B (IvS Γ chg J) hi h0 ⟨rfl, j0⟩ (fun i _ => G1 i) (fun i Γ' hlt hv => by rw [hv.1]; exact hg i hlt) (fun F1 u i Γ' hlt hv => hb F1 u i hlt hv.2) (fun Γ' hv => by rw [hv.1]; exact he hv.2) hs
theorem go_turnS {chg : Nat → List (Nat × Sl)} {J : Nat → Prop} {Γ0 : List Sl} (hj : J j) (h : SlLe Γ (sets Γ0 (chg j))) (e : D.nx = LN F1 H0 (IvS Γ0 chg J) j := by rfl) : GO X F1 H0 [] D Γ := go_nil fun F H σ en => by rw [e]; exact ⟨F, _, en.le h, rfl, hj⟩
theorem go_contS {chg : Nat → List (Nat × Sl)} {J : Nat → Prop} {Γ0 : List Sl} (hj : J j) (h : SlLe Γ (sets Γ0 (chg j))) (e : D.ct = LN F1 H0 (IvS Γ0 chg J) j := by rfl) : GO X F1 H0 (.Continue pos :: st) D Γ := go_cont fun F H σ en => by rw [e]; exact ⟨F, _, en.le h, rfl, hj⟩
/-! ### numbers -/
section
variable {q : Rat} {K : PySem.W.Frag}
theorem num_whole (h : q.den = 1) : rNum K q = rInt q.num := if_pos h
theorem num_pair (h : q.den ≠ 1) : rNum K q = rTup K [rInt q.num, rInt (q.den : Int)] := if_neg h
theorem num_int (n : Int) : rNum K (n : Rat) = rInt n := num_whole (Rat.den_intCast n)
theorem de_i2n {n : Int} (h : DE X Γ e (rInt n)) : DE X Γ e (rNum X.K (n : Rat)) := h.to (num_int n).symm
theorem de_n2i (hq : q.den = 1) (h : DE X Γ e (rNum X.K q)) : DE X Γ e (rInt q.num) := h.to (num_whole hq)
theorem de_n2t (hq : q.den ≠ 1) (h : DE X Γ e (rNum X.K q)) : DE X Γ e (rTup X.K [rInt q.num, rInt (q.den : Int)]) := h.to (num_pair hq)
theorem de_num0 (hq : q.den ≠ 1) (h : DE X Γ a (rNum X.K q)) {jj : Nat} : DE X Γ (.Subscript a (.Constant (.int 0) jj p) pos) (rInt q.num) := de_ixT rfl (de_n2t hq h) de_int
theorem de_num1 (hq : q.den ≠ 1) (h : DE X Γ a (rNum X.K q)) {jj : Nat} : DE X Γ (.Subscript a (.Constant (.int 1) jj p) pos) (rInt (q.den : Int)) := de_ixT rfl (de_n2t hq h) de_int
def numT (q : Rat) : Value := if q.den = 1 then .type "int" else .type "tuple"
theorem rty_num : RTy K (rNum K q) (numT q) := by
  unfold numT
  by_cases h : q.den = 1
  · rw [num_whole h, if_pos h]; exact rty_int
  · rw [num_pair h, if_neg h]; exact rty_tup
theorem kit_numT {K : PySem.W.Frag} : PySem.W.kitOne K (numT q) (.type "tuple") = some (decide (q.den ≠ 1)) := by
  unfold numT
  by_cases h : q.den = 1
  · rw [if_pos h, h]; exact kit_ty (by decide +kernel)
  · rw [if_neg h, decide_eq_true h]; exact kit_ty (by decide +kernel)
theorem kit_numI {K : PySem.W.Frag} : PySem.W.kitOne K (numT q) (.type "int") = some (decide (q.den = 1)) := by
  unfold numT
  by_cases h : q.den = 1
  · rw [if_pos h, h]; exact kit_ty (by decide +kernel)
  · rw [if_neg h, decide_eq_false h]; exact kit_ty (by decide +kernel)
theorem kit_numB {K : PySem.W.Frag} : PySem.W.kitOne K (numT q) (.type "bool") = some false := by
  unfold numT
  by_cases h : q.den = 1
  · rw [if_pos h]; exact kit_ty (by decide +kernel)
  · rw [if_neg h]; exact kit_ty (by decide +kernel)
/-- a pair of whole numbers is a number -/
theorem sub_pair {t b : Int} (h : (b : Int) ≠ 1) (h1 : q.num = t) (h2 : (q.den : Int) = b) : Sub (rTup K [rInt t, rInt b]) (rNum K q) := .of (by rw [num_pair (by omega), h1, h2])
theorem sub_whole {t : Int} (h : q.den = 1) (h1 : q.num = t) : Sub (rInt t) (rNum K q) := .of (by rw [num_whole h, h1])
def numD (q : Rat) : PyData := if q.den = 1 then .int q.num else .tuple [.int q.num, .int (q.den : Int)]
theorem dpl_num : DpL K (rNum K q) (numD q) := by
  unfold numD
  by_cases h : q.den = 1
  · rw [num_whole h, if_pos h]; exact dpl_int
  · rw [num_pair h, if_neg h]; exact dpl_tup2 dpl_int dpl_int
theorem numD_eq {q r : Rat} : PyData.eqv (numD q) (numD r) = decide (q = r) := by
  unfold numD
  by_cases h : q.den = 1 <;> by_cases k : r.den = 1
  · rw [if_pos h, if_pos k]
    show (q.num == r.num) = _
    by_cases e : q = r
    · subst e; simp
    · rw [decide_eq_false e]
      have : q.num ≠ r.num := fun z => e (Rat.ext z (by rw [h, k]))
      simpa using this
  · rw [if_pos h, if_neg k]
    have : q ≠ r := fun z => k (z ▸ h)
    rw [decide_eq_false this]; rfl
  · rw [if_neg h, if_pos k]
    have : q ≠ r := fun z => h (z ▸ k)
    rw [decide_eq_false this]; rfl
  · rw [if_neg h, if_neg k]
    show (q.num == r.num && ((q.den : Int) == (r.den : Int) && true)) = _
    by_cases e : q = r
    · subst e; simp
    · rw [decide_eq_false e]
      by_cases n : q.num = r.num
      · have : q.den ≠ r.den := fun z => e (Rat.ext n z)
        have : (q.den : Int) ≠ r.den := by omega
        simp [this]
      · simp [n]
theorem shaped_num : SeqAt.shaped (numD q) = true := by
  unfold numD
  by_cases h : q.den = 1
  · rw [if_pos h]; rfl
  · rw [if_neg h]; rfl
theorem dt_eqN {r : Rat} (B : BX X N sc k) (ha : DE X Γ a (rNum X.K q)) (hb : DE X Γ b (rNum X.K r)) : DT X Γ (.Compare a [.Eq] [b] pos) (decide (q = r)) := (dt_cmp (op_eqD B.hu) (b2_eqD dpl_num dpl_num shaped_num shaped_num) ha hb (nomark _)).to numD_eq
theorem dt_neN {r : Rat} (B : BX X N sc k) (ha : DE X Γ a (rNum X.K q)) (hb : DE X Γ b (rNum X.K r)) : DT X Γ (.Compare a [.NotEq] [b] pos) (!decide (q = r)) := (dt_cmp (op_neD B.hu) (b2_neD dpl_num dpl_num shaped_num shaped_num) ha hb (nomark _)).to (by rw [numD_eq])
theorem de_eqN {r : Rat} (B : BX X N sc k) (ha : DE X Γ a (rNum X.K q)) (hb : DE X Γ b (rNum X.K r)) : DE X Γ (.Compare a [.Eq] [b] pos) (rBl (decide (q = r))) := (de_cmp (op_eqD B.hu) (b2_eqD dpl_num dpl_num shaped_num shaped_num) ha hb (nomark _)).to (by rw [numD_eq])
theorem de_neN {r : Rat} (B : BX X N sc k) (ha : DE X Γ a (rNum X.K q)) (hb : DE X Γ b (rNum X.K r)) : DE X Γ (.Compare a [.NotEq] [b] pos) (rBl (!decide (q = r))) := (de_cmp (op_neD B.hu) (b2_neD dpl_num dpl_num shaped_num shaped_num) ha hb (nomark _)).to (by rw [numD_eq])
end
/-! ### sizes of ints -/
def Lg (i : Int) : Nat := i.natAbs.log2
theorem lg_lt {i : Int} {n : Nat} : Lg i < n → i.natAbs < 2 ^ n := fun h => by
  by_cases h0 : i.natAbs = 0
  · rw [h0]; exact Nat.pow_pos (by decide)
  · exact (Nat.log2_lt h0).mp h
theorem lg_of {i : Int} {n : Nat} (hn : 0 < n) (h : i.natAbs < 2 ^ n) : Lg i < n := by
  unfold Lg
  by_cases h0 : i.natAbs = 0
  · rw [h0, Nat.log2_zero]; exact hn
  · exact (Nat.log2_lt h0).mpr h
theorem lg_mul (i j : Int) : Lg (i * j) ≤ Lg i + Lg j + 1 := by
  have h1 := lg_lt (i := i) (Nat.lt_succ_self _)
  have h2 := lg_lt (i := j) (Nat.lt_succ_self _)
  have h3 : (i * j).natAbs < 2 ^ ((Lg i + 1) + (Lg j + 1)) := by
    rw [Int.natAbs_mul, Nat.pow_add]
    exact Nat.mul_lt_mul'' h1 h2
  have := lg_of (by omega) h3
  omega
theorem lg_add (i j : Int) : Lg (i + j) ≤ max (Lg i) (Lg j) + 1 := by
  have h1 := lg_lt (i := i) (Nat.lt_succ_self _)
  have h2 := lg_lt (i := j) (Nat.lt_succ_self _)
  have m1 : 2 ^ (Lg i + 1) ≤ 2 ^ (max (Lg i) (Lg j) + 1) := Nat.pow_le_pow_right (by decide) (by omega)
  have m2 : 2 ^ (Lg j + 1) ≤ 2 ^ (max (Lg i) (Lg j) + 1) := Nat.pow_le_pow_right (by decide) (by omega)
  have e : 2 ^ (max (Lg i) (Lg j) + 2) = 2 * 2 ^ (max (Lg i) (Lg j) + 1) := by rw [Nat.pow_succ]; omega
  have h3 : (i + j).natAbs < 2 ^ (max (Lg i) (Lg j) + 2) := by omega
  have := lg_of (by omega) h3
  omega
theorem lg_neg (i : Int) : Lg (-i) = Lg i := by unfold Lg; rw [Int.natAbs_neg]
theorem lg_sub (i j : Int) : Lg (i - j) ≤ max (Lg i) (Lg j) + 1 := by
  have := lg_add i (-j)
  rw [lg_neg] at this
  rw [Int.sub_eq_add_neg]
  exact this
theorem lg_le {i j : Int} (h : i.natAbs ≤ j.natAbs) : Lg i ≤ Lg j := by
  have h2 := lg_lt (i := j) (Nat.lt_succ_self _)
  have := lg_of (i := i) (n := Lg j + 1) (by omega) (by omega)
  omega
theorem de_mulG {m n : Int} (hc : Lg m + Lg n < 1000000) (ha : DE X Γ a (rInt m)) (hb : DE X Γ b (rInt n)) : DE X Γ (.BinOp a .Mult b pos) (rInt (m * n)) := de_mul hc ha hb
theorem de_divG {m n : Int} (h0 : n ≠ 0) (hc : Lg n < 9000) (ha : DE X Γ a (rInt m)) (hb : DE X Γ b (rInt n)) : DE X Γ (.BinOp a .FloorDiv b pos) (rInt (m.fdiv n)) := de_fdiv ⟨h0, hc⟩ ha hb
/-- a number of at most n bits above and below -/
def Sz (n : Nat) (q : Rat) : Prop := Lg q.num ≤ n ∧ Lg (q.den : Int) ≤ n
end
end DL

set_option Elab.async false
set_option linter.all false
set_option maxRecDepth 100000
set_option maxHeartbeats 4000000
namespace DL
open PySem PySem.Spec PyProof.Rows L2
/-! ### errors -/
inductive Out where
  | ok (r : Ret)
  | err (C : Addr)
def PrX (F H : Hp) : Out → VK → XK → Prop
  | .ok ret, Q, _ => Pr F H ret Q
  | .err C, _, E => ∀ H', Same H H' → E (.ref C) none H'
def PmX {ι : Type} (pre : ι → Prop) (args : ι → List Rep) (out : ι → Out) : Sp := fun vs H Q E => ∃ (x : ι) (F : Hp), pre x ∧ Same F H ∧ RL F (args x) vs ∧ PrX F H (out x) Q E
/-- an error class of the program's own, without fields -/
structure XCls (K : PySem.W.Frag) (mg : Str → Option Value) (x : Str) (C : Addr) : Prop where
  g : mg x = some (.ref C)
  ex : PySem.W.excIn K C [.type "ValueError", .type "Exception", .type "BaseException", .type "object"] "ValueError.__new__" = true
  kp : PySem.W.keepIn K (.ref C) = true
  bs : PySem.W.subIn K (.ref C) (.type "BaseException") = some true
  ty : PySem.W.typeIn K (.ref C) = some (.type "type")
  hd : PySem.W.hasDictIn K C = true
section
variable {X : Cx} {N : List Str} {sc : Scope} {k j : Nat} {Γ : List Sl} {a b c e : Expr} {es rest : List Expr} {r ra rb rc r' : Rep} {rs l : List Rep} {pos p : Pos} {x : Str} {i : Nat}
variable {ι : Type} {pre : ι → Prop} {args : ι → List Rep} {out : ι → Out} {ret : Ret} {F0 H0 : Hp} {st body : List Stmt} {D : Ends} {C : Addr} {W : WX}
theorem ca_callX (B : BX X N sc k) (G : Cal X.prog X.w X.K X.mg X.base j x (PmX pre args out)) (hk : j ≤ k) (g : ι) (hp : pre g) (ho : out g = .ok ret) (ha : DA X Γ (e :: es) (args g)) (hg : sc.names.lookup x = some .globalImplicit)
    (hdb : (x == ("__debug__" : Str)) = false := by decide) (he : starEach (e :: es) X.env = (false, eval e X.env) :: starEach es X.env := by rfl) (hpl : (backTo pos (starEach es X.env)).any (·.1) = false := by rfl) :
    CA X Γ (.Call (.Name x p) (e :: es) [] pos) ret := fun F0 H0 F H σ en Q q => by
  obtain ⟨f, fd, ps, G, hm, kp, hb⟩ := G.ex
  have hgl : Gl X x := by
    show X.env.scope.names.lookup x = _
    rw [B.hsc]
    exact hg
  refine .of (pe_call (E := E0) G (B.room.mono hk) hgl hm kp hb .nil passL pa_ev hdb he hpl) ?_
  refine ha F0 H0 F H σ en _ fun vs F1 H1 g1 h1 => ?_
  show PmX pre args out (vs ++ []) H1 Q E0
  rw [List.append_nil]
  refine ⟨g, F1, hp, g1.s, h1, ?_⟩
  rw [ho]
  exact fun v F' H' g2 hv => q v F' H' F1 H1 g1 g2 hv
theorem ca_callO (okr : ι → Ret) (B : BX X N sc k) (G : Cal X.prog X.w X.K X.mg X.base j x (PmX pre args out)) (hk : j ≤ k) (g : ι) (hp : pre g) (ho : out g = .ok (okr g)) (ha : DA X Γ (e :: es) (args g)) (hg : sc.names.lookup x = some .globalImplicit)
    (hdb : (x == ("__debug__" : Str)) = false := by decide) (he : starEach (e :: es) X.env = (false, eval e X.env) :: starEach es X.env := by rfl) (hpl : (backTo pos (starEach es X.env)).any (·.1) = false := by rfl) :
    CA X Γ (.Call (.Name x p) (e :: es) [] pos) (okr g) := ca_callX B G hk g hp ho ha hg hdb he hpl
/-- a call that raises: what is wanted of the error is wanted anyway -/
def EX (X : Cx) (Γ : List Sl) (e : Expr) (C : Addr) (W : WX) : Prop := ∀ F0 H0 F H σ, En F0 H0 F H σ Γ → (∀ H', Same H H' → W (.ref C) none σ H') → ∀ Q : VK, EV X e σ H Q
theorem ex_call (B : BX X N sc k) (tk : Takes X W) (G : Cal X.prog X.w X.K X.mg X.base j x (PmX pre args out)) (hk : j ≤ k) (g : ι) (hp : pre g) (ho : out g = .err C) (ha : DA X Γ (e :: es) (args g)) (hg : sc.names.lookup x = some .globalImplicit)
    (hdb : (x == ("__debug__" : Str)) = false := by decide) (he : starEach (e :: es) X.env = (false, eval e X.env) :: starEach es X.env := by rfl) (hpl : (backTo pos (starEach es X.env)).any (·.1) = false := by rfl) :
    EX X Γ (.Call (.Name x p) (e :: es) [] pos) C W := fun F0 H0 F H σ en w Q => by
  obtain ⟨f, fd, ps, G, hm, kp, hb⟩ := G.ex
  have hgl : Gl X x := by
    show X.env.scope.names.lookup x = _
    rw [B.hsc]
    exact hg
  refine .of (pe_callS (E := WE W) G (B.room.mono hk) hgl hm kp hb (fun σ => passAt tk σ) pa_ev hdb he hpl) ?_
  refine ha F0 H0 F H σ en _ fun vs F1 H1 g1 h1 => ?_
  refine ⟨g, F1, hp, g1.s, h1, ?_⟩
  rw [ho]
  exact fun H' s => w H' (g1.h.trans s)
/-- raise X('..') -/
theorem go_raise {m : Str} {jj : Nat} {p2 pos2 : Pos} (B : BX X N sc k) (tk : Takes X W) (Z : XCls X.K X.mg x C) (hg : sc.names.lookup x = some .globalImplicit) (h : ∀ F H σ, En F0 H0 F H σ Γ → W (.ref C) none σ H) (hdb : (x == ("__debug__" : Str)) = false := by decide) :
    GO X F0 H0 (.Raise (some (.Call (.Name x p) [.Constant (.str m) jj p2] [] pos)) none pos2 :: st) D Γ := fun F H σ en => by
  have hgl : Gl X x := by
    show X.env.scope.names.lookup x = _
    rw [B.hsc]
    exact hg
  exact .of (pss_cons (ps_raise B.calm tk (pmk_own PySem.F.excBase_ValueError Z.ex Z.g Z.kp (raises_own Z.bs Z.ty) hgl hdb)) (pss_ev (st := st))) (h F H σ en)
theorem go_retE (he : EX X Γ e C W) (h : ∀ F H σ, En F0 H0 F H σ Γ → ∀ H', Same H H' → W (.ref C) none σ H') : GO X F0 H0 (.Return (some e) pos :: st) D Γ := fun F H σ en =>
  .of (pss_cons (ps_ret pe_ev) (pss_ev (st := st))) (he F0 H0 F H σ en (h F H σ en) _)
theorem go_exprE (he : EX X Γ e C W) (h : ∀ F H σ, En F0 H0 F H σ Γ → ∀ H', Same H H' → W (.ref C) none σ H') (hs : swapsWith e none pos.line X.env = pure false := by rfl) : GO X F0 H0 (.Expr e pos :: st) D Γ := fun F H σ en =>
  .of (pss_cons (ps_expr pe_ev hs) (pss_ev (st := st))) (he F0 H0 F H σ en (h F H σ en) _)
end
section
variable {P : Program} {w : World} {K : PySem.W.Frag} {mg : Str → Option Value} {base : Heap} {k : Nat} {x : Str} {st : Stmt} {N ps : List Str} {ι : Type} {pre : ι → Prop} {args : ι → List Rep} {out : ι → Out}
/-- a def that may raise -/
theorem cal_okX (T : TD K mg x st) (S : FnScope N ps (defScope st)) (hn : ∀ g, (args g).length = ps.length)
    (hb : ∀ (kV doc pm : Value) (an : Option Addr) (cdv ct : Value) (us : List Value), us.length = ps.length → bindArgs (PySem.W.fnOf x x (defArgs st) (defBody st) (defScope st) .none kV doc pm an cdv ct) ⟨us, []⟩ = pure (ps.zip us))
    (body : ∀ (X : Cx), X.prog = P → X.w = w → X.K = K → X.mg = mg → X.base = base → BX X N (defScope st) k → (∀ x : Str, X.fn x = true) → ∀ (g : ι) (F0 H0 : Hp) (D : Ends) (E : XK), Takes X (fun cls d _ H => E cls d H) → pre g → PrX F0 H0 (out g) D.rt E → (∀ σ H', D.nx σ H' = D.rt .non H') →
      GO X F0 H0 (defBody st) D ((args g).map Sl.im ++ List.replicate (N.length - ps.length) .any)) : Cal P w K mg base (k + 1) x (PmX pre args out) := by
  obtain ⟨f, fd, F, hm⟩ := T.ex
  refine ⟨f, fd, ps, ?_, hm, F.kp, F.binds hb⟩
  refine F.okX S (fun vs H Q E h => ?_) (fun cdv A outer s H vs Q E hr h => ?_)
  · obtain ⟨g, F1, _, _, h1, _⟩ := h
    rw [← h1.len, hn]
  · obtain ⟨g, F1, hp, hs, h1, q⟩ := h
    refine ⟨_, pss_ev, ?_⟩
    have hpl : ps.length ≤ N.length := by have := congrArg List.length S.pre; rw [List.length_take] at this; omega
    have en := en_start (N := N) hs h1 (by rw [hn]; exact hpl)
    rw [hn] at en
    exact body _ rfl rfl rfl rfl rfl ⟨rfl, rfl, S.nd, hr, rfl, passes_of rfl⟩ (fun _ => rfl) g F1 H { nx := fun _ H' => Q .non H', rt := Q } E (takes_of rfl rfl rfl rfl) hp q (fun _ _ => rfl) F1 H _ en
theorem PrX.rt {F H : Hp} {D : Ends} {E : XK} {o : Out} {ret : Ret} (h : PrX F H o D.rt E) (e : o = .ok ret) : RT F H ret D := by
  subst e
  exact h
theorem PrX.er {F0 H0 : Hp} {Q : VK} {E : XK} {o : Out} {C : Addr} (h : PrX F0 H0 o Q E) (e : o = .err C) : ∀ H', Same H0 H' → E (.ref C) none H' := by
  subst e
  exact h
end
end DL

set_option linter.all false
set_option maxHeartbeats 4000000
namespace DL
theorem den_ne (q : Rat) : ((q.den : Int) : Rat) ≠ 0 := by
  have := q.den_nz
  simp [this]
theorem q_eq (q : Rat) : q = (q.num : Rat) / ((q.den : Int) : Rat) := by
  have h2 := Rat.mkRat_self q
  rw [Rat.mkRat_eq_div] at h2
  exact h2.symm
theorem aux_plus (a b c d : Rat) (hb : b ≠ 0) (hd : d ≠ 0) : (a * d + c * b) / (b * d) = a / b + c / d := by grind
theorem aux_minus (a b c d : Rat) (hb : b ≠ 0) (hd : d ≠ 0) : (a * d - c * b) / (b * d) = a / b - c / d := by grind
theorem aux_times (a b c d : Rat) (hb : b ≠ 0) (hd : d ≠ 0) : (a * c) / (b * d) = a / b * (c / d) := by grind
theorem aux_over (a b c d : Rat) (hb : b ≠ 0) (hd : d ≠ 0) (hc : c ≠ 0) : (a * d) / (b * c) = a / b / (c / d) := by grind
theorem r_plus (q r : Rat) : (((q.num * (r.den : Int) + r.num * (q.den : Int) : Int)) : Rat) / ((((q.den : Int) * (r.den : Int) : Int)) : Rat) = q + r := by
  conv => rhs; rw [q_eq q, q_eq r]
  rw [← aux_plus _ _ _ _ (den_ne q) (den_ne r), Rat.intCast_add, Rat.intCast_mul, Rat.intCast_mul, Rat.intCast_mul]
theorem r_minus (q r : Rat) : (((q.num * (r.den : Int) - r.num * (q.den : Int) : Int)) : Rat) / ((((q.den : Int) * (r.den : Int) : Int)) : Rat) = q - r := by
  conv => rhs; rw [q_eq q, q_eq r]
  rw [← aux_minus _ _ _ _ (den_ne q) (den_ne r), Rat.intCast_sub, Rat.intCast_mul, Rat.intCast_mul, Rat.intCast_mul]
theorem r_times (q r : Rat) : (((q.num * r.num : Int)) : Rat) / ((((q.den : Int) * (r.den : Int) : Int)) : Rat) = q * r := by
  conv => rhs; rw [q_eq q, q_eq r]
  rw [← aux_times _ _ _ _ (den_ne q) (den_ne r), Rat.intCast_mul, Rat.intCast_mul]
theorem num_ne {q : Rat} (h : q ≠ 0) : q.num ≠ 0 := fun z => h (Rat.num_eq_zero.mp z)
theorem r_over (q r : Rat) (h : r ≠ 0) : (((q.num * (r.den : Int) : Int)) : Rat) / ((((q.den : Int) * r.num : Int)) : Rat) = q / r := by
  have hn : (r.num : Rat) ≠ 0 := by simpa using num_ne h
  conv => rhs; rw [q_eq q, q_eq r]
  rw [← aux_over _ _ _ _ (den_ne q) (den_ne r) hn, Rat.intCast_mul, Rat.intCast_mul]
/-- lowest terms -/
def lowC (t b : Int) : Int := if b < 0 then -(Int.gcd t b : Int) else (Int.gcd t b : Int)
theorem gcd_pos {t b : Int} (hb : b ≠ 0) : 0 < (Int.gcd t b : Int) := by
  have : 0 < Int.gcd t b := Nat.pos_of_ne_zero fun z => hb (Int.gcd_eq_zero_iff.mp z).2
  omega
theorem lowC_ne {t b : Int} (hb : b ≠ 0) : lowC t b ≠ 0 := by
  have := gcd_pos (t := t) hb
  unfold lowC
  split <;> omega
theorem lowC_dvd (t b : Int) : lowC t b ∣ t ∧ lowC t b ∣ b := by
  have h1 := Int.gcd_dvd_left t b
  have h2 := Int.gcd_dvd_right t b
  unfold lowC
  split
  · exact ⟨Int.neg_dvd.mpr h1, Int.neg_dvd.mpr h2⟩
  · exact ⟨h1, h2⟩
theorem rat_num {t b : Int} (hb : b ≠ 0) : ((t : Rat) / (b : Rat)).num = t.fdiv (lowC t b) := by
  rw [← Rat.divInt_eq_div, Rat.num_divInt, Int.fdiv_eq_ediv_of_dvd (lowC_dvd t b).1, Int.gcd_comm]
  unfold lowC
  split
  · rename_i h
    rw [Int.sign_eq_neg_one_of_neg h, Int.ediv_neg, Int.neg_mul, Int.one_mul, Int.neg_ediv_of_dvd (Int.gcd_dvd_left t b)]
  · rename_i h
    rw [Int.sign_eq_one_of_pos (by omega), Int.one_mul]
theorem rat_den {t b : Int} (hb : b ≠ 0) : (((t : Rat) / (b : Rat)).den : Int) = b.fdiv (lowC t b) := by
  rw [← Rat.divInt_eq_div, Rat.den_divInt, if_neg hb, Int.fdiv_eq_ediv_of_dvd (lowC_dvd t b).2, Int.gcd_comm]
  unfold lowC
  have hd := Int.gcd_dvd_right t b
  split
  · rename_i h
    rw [Int.ediv_neg, ← Int.neg_ediv_of_dvd hd, Int.natCast_ediv]
    congr 1
    omega
  · rename_i h
    rw [Int.natCast_ediv]
    congr 1
    omega
theorem rat_den1 {t b : Int} (hb : b ≠ 0) (h : lowC t b = b) : ((t : Rat) / (b : Rat)).den = 1 := by
  have := rat_den (t := t) hb
  rw [h, Int.fdiv_self hb] at this
  omega
theorem rat_denN {t b : Int} (hb : b ≠ 0) (h : lowC t b ≠ b) : b.fdiv (lowC t b) ≠ 1 := by
  intro z
  rw [Int.fdiv_eq_ediv_of_dvd (lowC_dvd t b).2] at z
  have := Int.eq_mul_of_ediv_eq_right (lowC_dvd t b).2 z
  omega
end DL

set_option linter.all false
set_option maxHeartbeats 4000000
namespace DL
open PySem L2
theorem lg_lowC {t b : Int} (hb : b ≠ 0) : Lg (lowC t b) ≤ Lg b := lg_le (by
  have h : (Int.gcd t b) ≤ b.natAbs := Nat.le_of_dvd (by omega) (by have := Int.natAbs_dvd_natAbs.mpr (Int.gcd_dvd_right t b); simpa using this)
  unfold lowC
  split <;> omega)
theorem den_neI (q : Rat) : (q.den : Int) ≠ 0 := by
  have := q.den_nz
  omega
theorem dd_ne (q r : Rat) : (q.den : Int) * (r.den : Int) ≠ 0 := Int.mul_ne_zero (den_neI q) (den_neI r)
theorem dn_ne {q r : Rat} (h : r ≠ 0) : (q.den : Int) * r.num ≠ 0 := Int.mul_ne_zero (den_neI q) (num_ne h)
theorem r_less (q r : Rat) : decide (q.num * (r.den : Int) < r.num * (q.den : Int)) = decide (q < r) := by
  simp [Rat.lt_iff]
theorem r_floor (q : Rat) : q.num.fdiv (q.den : Int) = q.floor := by
  rw [Int.fdiv_eq_ediv_of_nonneg _ (by omega), Rat.floor_def]
theorem r_ceil (q : Rat) : -((-q.num).fdiv (q.den : Int)) = q.ceil := by
  rw [Int.fdiv_eq_ediv_of_nonneg _ (by omega), Rat.ceil_eq_neg_floor_neg, Rat.floor_def]
  rfl
end DL

set_option Elab.async false
set_option linter.all false
set_option maxRecDepth 100000
set_option maxHeartbeats 4000000
namespace DL
open PySem PySem.Spec PyProof.Rows L2
section
variable {X : Cx} {N : List Str} {sc : Scope} {k j : Nat} {Γ Γ' Γ1 : List Sl} {tg it a b c e : Expr} {es rest : List Expr} {r ra rb rc r' : Rep} {rs l l2 : List Rep} {pos p p2 : Pos} {x : Str} {i : Nat} {ws ws' : List Nat} {F0 H0 F1 F H : Hp} {σ : L2.St} {st body : List Stmt} {D : Ends} {n : Nat} {rr : Nat → Rep}
variable {α : Type} {R : α → Rep} {xs : List α}
theorem SR.to {rr' : Nat → Rep} (h : SR X Γ tg it n rr) (e : ∀ i, i < n → rr i = rr' i) : SR X Γ tg it n rr' := fun F0 H0 F H σ en Q q => h F0 H0 F H σ en Q fun J F1 H1 g wk => q J F1 H1 g ⟨wk.stop, wk.go, fun i F H x H' s s2 hi hy => by
  obtain ⟨F', g', hx⟩ := wk.yld i F H x H' s s2 hi hy
  exact ⟨F', g', e i hi ▸ hx⟩⟩
theorem getD_map (d : α) {i : Nat} (hi : i < xs.length) : (xs.map R).getD i rNon = R (xs.getD i d) := by
  rw [List.getD_eq_getElem?_getD, List.getD_eq_getElem?_getD, List.getElem?_map, List.getElem?_eq_getElem hi]
  rfl
theorem sr_listM (d : α) (h : DE X Γ it (rLst X.K (xs.map R))) : SR X Γ tg it xs.length (fun i => R (xs.getD i d)) := by
  have h2 := sr_list (tg := tg) h
  rw [List.length_map] at h2
  exact h2.to fun i hi => getD_map d hi
theorem atI_map (d : α) {n : Int} (h0 : 0 ≤ n) (h1 : n < xs.length) : atI (xs.map R) n = some (R (xs.getD n.toNat d)) := by
  obtain ⟨m, rfl⟩ : ∃ m : Nat, n = m := ⟨n.toNat, by omega⟩
  refine atI_nat ?_
  have hm : m < xs.length := by omega
  rw [List.getElem?_map, List.getElem?_eq_getElem hm, Int.toNat_natCast, List.getD_eq_getElem?_getD, List.getElem?_eq_getElem hm]
  rfl
theorem de_ixM {n : Int} (d : α) (h0 : 0 ≤ n) (h1 : n < xs.length) (ha : DE X Γ a (rLst X.K (xs.map R))) (hb : DE X Γ b (rInt n)) (hs : PlainIx b := by exact fun _ _ => rfl) : DE X Γ (.Subscript a b pos) (R (xs.getD n.toNat d)) :=
  de_ixL (atI_map d h0 h1) ha hb hs
theorem de_ixOM {n : Int} (d : α) (B : BX X N sc k) (hΓ : Γ[i]? = some (.ow (xs.map R))) (hN : N[i]? = some x) (hv : Vis sc x) (h0 : 0 ≤ n) (h1 : n < xs.length) (hb : DE X Γ b (rInt n)) (hs : PlainIx b := by exact fun _ _ => rfl) (hd : (x == ("__debug__" : Str)) = false := by decide) (hcd : (x == ("__classdict__" : Str)) = false := by decide) :
    DE X Γ (.Subscript (.Name x p) b pos) (R (xs.getD n.toNat d)) := de_ixO B (atI_map d h0 h1) hΓ hN hv hb hs hd hcd
theorem de_lenM (B : BX X N sc k) (hm : X.mg "len" = none) (h : DE X Γ e (rLst X.K (xs.map R))) (hg : sc.names.lookup ("len" : Str) = some NameKind.globalImplicit) (he : starEach (e :: []) X.env = (false, eval e X.env) :: starEach [] X.env := by rfl) : DE X Γ (.Call (.Name "len" p) [e] [] pos) (rInt xs.length) := by
  have := de_lenL B hm h hg he (p := p) (pos := pos)
  rwa [List.length_map] at this
/-! a number or None -/
def rOpt (K : PySem.W.Frag) : Option Rat → Rep
  | none => rNon
  | some q => rNum K q
theorem de_n2o {q : Rat} (h : DE X Γ e (rNum X.K q)) : DE X Γ e (rOpt X.K (some q)) := h
theorem de_e2o (h : DE X Γ e rNon) : DE X Γ e (rOpt X.K none) := h
theorem de_o2n {o : Option Rat} (hn : o.isNone = false) (h : DE X Γ e (rOpt X.K o)) : DE X Γ e (rNum X.K (o.getD 0)) := by
  cases o with
  | none => cases hn
  | some q => exact h
theorem de_isNo {o : Option Rat} (h : DE X Γ a (rOpt X.K o)) : DE X Γ (.Compare a [.Is] [.Constant .none j p] pos) (rBl o.isNone) := by
  cases o with
  | none => exact de_isN h
  | some q => exact de_isN0 notNon_num h
/-! is True, is False -/
theorem de_isBl {u v : Bool} {jj : Nat} (ha : DE X Γ a (rBl u)) : DE X Γ (.Compare a [.Is] [.Constant (.bool v) jj p] pos) (rBl (u == v)) := de_cmp op_isBl b2_isB ha de_bl (nomark _)
theorem dt_isN (ha : DE X Γ a rNon) {jj : Nat} : DT X Γ (.Compare a [.Is] [.Constant .none jj p] pos) true := dt_cmp op_isN (fun F H x y s h1 h2 Q q => by cases h1; cases h2; exact ⟨rfl, q _ F H (.refl s) rfl⟩) ha de_non (nomark _)
theorem dt_isN0 (hn : NotNon r) (ha : DE X Γ a r) {jj : Nat} : DT X Γ (.Compare a [.Is] [.Constant .none jj p] pos) false := dt_cmp op_isN (fun F H x y s h1 h2 Q q => by
  cases h2
  exact ⟨rfl, q _ F H (.refl s) (by show V.bl _ = V.bl _; rw [decide_eq_false (hn F x h1)])⟩) ha de_non (nomark _)
theorem dt_isNo {o : Option Rat} (h : DE X Γ a (rOpt X.K o)) {jj : Nat} : DT X Γ (.Compare a [.Is] [.Constant .none jj p] pos) o.isNone := by
  cases o with
  | none => exact dt_isN h
  | some q => exact dt_isN0 notNon_num h
theorem dt_isBl {u v : Bool} {jj : Nat} (ha : DE X Γ a (rBl u)) : DT X Γ (.Compare a [.Is] [.Constant (.bool v) jj p] pos) (u == v) := dt_cmp op_isBl b2_isB ha de_bl (nomark _)
/-! x in a list of numbers -/
theorem any_num {qs : List Rat} {q : Rat} : (qs.map numD).any (fun z => PyData.eqv z (numD q)) = decide (q ∈ qs) := by
  have e : ((fun z => PyData.eqv z (numD q)) ∘ numD) = fun x => decide (x = q) := funext fun x => numD_eq
  rw [List.any_map, e]
  induction qs with
  | nil => simp
  | cons x xs ih =>
    rw [List.any_cons, ih]
    by_cases h : x = q
    · simp [h]
    · have h2 : ¬ q = x := fun z => h z.symm
      simp [h, h2]
theorem any_num2 {qs : List Rat} {q : Rat} : ((qs.map numD).any fun z => PyData.eqv z (numD q)) = decide (q ∈ qs) := any_num
theorem dpl_nums {K : PySem.W.Frag} {qs : List Rat} : DpL K (rLst K (qs.map (rNum K))) (.list (qs.map numD)) := dpl_lst fun _ _ => dpl_num
theorem canLay_nums : ∀ (qs : List Rat), SeqAt.shaped (.list (qs.map numD)) = true := by
  intro qs
  have h1 : ∀ l : List Rat, PyData.canLayAll0 (l.map numD) = true := fun l => by
    induction l with
    | nil => rfl
    | cons x xs ih =>
      show (PyData.canLay0 (numD x) && PyData.canLayAll0 (xs.map numD)) = true
      rw [ih, SeqAt.canLay_of_shaped shaped_num]
      rfl
  have hd : ∀ q : Rat, PyData.depth (numD q) ≤ 1 := fun q => by
    unfold numD
    split
    · exact Nat.zero_le _
    · show max 0 (max 0 0) + 1 ≤ 1
      decide
  have h2 : ∀ l : List Rat, PyData.depthAll (l.map numD) ≤ 1 := fun l => by
    induction l with
    | nil => exact (by decide)
    | cons x xs ih =>
      show max (PyData.depth (numD x)) (PyData.depthAll (xs.map numD)) ≤ 1
      have := hd x
      omega
  unfold SeqAt.shaped
  rw [Bool.and_eq_true]
  refine ⟨h1 qs, decide_eq_true ?_⟩
  show PyData.depthAll (qs.map numD) + 1 ≤ 64
  have := h2 qs
  omega
theorem de_inN {qs : List Rat} {q : Rat} (B : BX X N sc k) (ha : DE X Γ a (rNum X.K q)) (hb : DE X Γ b (rLst X.K (qs.map (rNum X.K)))) (hm : behindInMarks .In b = false := by rfl) : DE X Γ (.Compare a [.In] [b] pos) (rBl (decide (q ∈ qs))) :=
  (de_cmp (rc := rBl ((qs.map numD).any fun z => PyData.eqv z (numD q))) (op_inD (by have := B.room.un; omega)) (fun F H x y s h1 h2 Q q' => ⟨numD q, qs.map numD, dp_mono s _ _ (dpl_num F x h1), dp_mono s _ _ (dpl_nums F y h2), shaped_num, canLay_nums qs, q' _ F H (.refl s) rfl⟩) ha hb hm).to (by rw [any_num])
theorem dt_inN {qs : List Rat} {q : Rat} (B : BX X N sc k) (ha : DE X Γ a (rNum X.K q)) (hb : DE X Γ b (rLst X.K (qs.map (rNum X.K)))) (hm : behindInMarks .In b = false := by rfl) : DT X Γ (.Compare a [.In] [b] pos) (decide (q ∈ qs)) :=
  (dt_cmp (t := (qs.map numD).any fun z => PyData.eqv z (numD q)) (op_inD (by have := B.room.un; omega)) (fun F H x y s h1 h2 Q q' => ⟨numD q, qs.map numD, dp_mono s _ _ (dpl_num F x h1), dp_mono s _ _ (dpl_nums F y h2), shaped_num, canLay_nums qs, q' _ F H (.refl s) rfl⟩) ha hb hm).to (by rw [any_num])
theorem dt_notInN {qs : List Rat} {q : Rat} (B : BX X N sc k) (ha : DE X Γ a (rNum X.K q)) (hb : DE X Γ b (rLst X.K (qs.map (rNum X.K)))) (hm : behindInMarks .NotIn b = false := by rfl) : DT X Γ (.Compare a [.NotIn] [b] pos) (!decide (q ∈ qs)) :=
  (dt_cmp (t := !(qs.map numD).any fun z => PyData.eqv z (numD q)) (op_notInD (by have := B.room.un; omega)) (fun F H x y s h1 h2 Q q' => ⟨numD q, qs.map numD, dp_mono s _ _ (dpl_num F x h1), dp_mono s _ _ (dpl_nums F y h2), shaped_num, canLay_nums qs, q' _ F H (.refl s) rfl⟩) ha hb hm).to (by rw [any_num])
theorem de_notInN {qs : List Rat} {q : Rat} (B : BX X N sc k) (ha : DE X Γ a (rNum X.K q)) (hb : DE X Γ b (rLst X.K (qs.map (rNum X.K)))) (hm : behindInMarks .NotIn b = false := by rfl) : DE X Γ (.Compare a [.NotIn] [b] pos) (rBl (!decide (q ∈ qs))) :=
  (de_cmp (rc := rBl (!(qs.map numD).any fun z => PyData.eqv z (numD q))) (op_notInD (by have := B.room.un; omega)) (fun F H x y s h1 h2 Q q' => ⟨numD q, qs.map numD, dp_mono s _ _ (dpl_num F x h1), dp_mono s _ _ (dpl_nums F y h2), shaped_num, canLay_nums qs, q' _ F H (.refl s) rfl⟩) ha hb hm).to (by rw [any_num])
end
end DL

set_option Elab.async false
set_option linter.all false
set_option maxRecDepth 100000
set_option maxHeartbeats 4000000
namespace DL
open PySem PySem.Spec PyProof.Rows L2
/-! ### comprehensions -/
def IsBlk (X : Cx) (scope : Scope) (X' : Cx) : Prop := ∃ (s : Shared) (H : Hp) (C : Addr) (cl : List (Str × Addr)) (fp : List Addr), X' = X.blk s H scope (compEnvC scope cl C X.env) fp
def TVs (X : Cx) (ifs : List Expr) (σ : L2.St) (H : Hp) (Q : Bool → Hp → Prop) : Prop := ∀ (pins : List (Addr × Obj)) (s : Shared), Inv X pins σ H s →
    wpAny (model X.prog X.w) X.A (forIn ifs true fun c r => if r = true then do let ok ← isTrue c X.env (eval c X.env); pure (ForInStep.yield ok) else pure (ForInStep.yield r)) (TP X pins σ Q) X.xe s
theorem TVs.of {X : Cx} {ifs : List Expr} {te : TT} {σ : L2.St} {H : Hp} {Q : Bool → Hp → Prop} (h : PTs X ifs te) (q : te σ H Q) : TVs X ifs σ H Q := fun pins s I => h.run pins s σ H Q I q
def DTs (X : Cx) (Γ : List Sl) (ifs : List Expr) (b : Bool) : Prop := ∀ F0 H0 F H σ, En F0 H0 F H σ Γ → ∀ Q : Bool → Hp → Prop, (∀ F' H', Gr F H F' H' → Q b H') → TVs X ifs σ H Q
theorem dts_nil {X : Cx} {Γ : List Sl} : DTs X Γ [] true := fun F0 H0 F H σ en Q q => .of pts_nil (q F H (.refl en.gr.s))
theorem dts_one {X : Cx} {Γ : List Sl} {c : Expr} {b : Bool} (h : DT X Γ c b) : DTs X Γ [c] b := fun F0 H0 F H σ en Q q => .of (pts_one pt_ev) (h F0 H0 F H σ en Q q)
def wipeG (Γ : List Sl) : List Nat → List Sl
  | [] => Γ
  | v :: vs => (wipeG Γ vs).set v .any
theorem En.wipe {F0 H0 F H : Hp} {σ : L2.St} {Γ : List Sl} (e : En F0 H0 F H σ Γ) : ∀ vs : List Nat, En F0 H0 F H (L2.wipe σ vs) (wipeG Γ vs)
  | [] => e
  | v :: vs => (En.wipe e vs).setAny none
section
variable {X : Cx} {N : List Str} {sc : Scope} {k j : Nat} {Γ Γ' Γ1 : List Sl} {tg it a b c e : Expr} {ifs es rest : List Expr} {r ra rb rc r' : Rep} {rs l l2 : List Rep} {pos p p2 : Pos} {x : Str} {i : Nat} {ws ws' : List Nat} {F0 H0 F1 F H : Hp} {σ : L2.St} {st body : List Stmt} {D : Ends} {n : Nat} {rr : Nat → Rep}
variable {scope : Scope} {own : List (Str × Nat)}
theorem BX.blk (B : BX X N sc k) {X' : Cx} (h : IsBlk X scope X') : BX X' N (relS scope sc) k := by
  obtain ⟨s, H, C, cl, fp, rfl⟩ := h
  exact ⟨B.hN, by show relS scope X.env.scope = _; rw [B.hsc], B.nd, B.room, B.calm, PassesOwn.never⟩
theorem wipe_wipe (σ : L2.St) (us : List Nat) : L2.wipe (L2.wipe σ us) us = L2.wipe σ us := by
  apply List.ext_getElem?
  intro j
  rw [wipe_get us (L2.wipe σ us) j, wipe_length]
  by_cases hj : j ∈ us ∧ j < σ.length
  · rw [if_pos hj, wipe_get us σ j, if_pos hj]
  · rw [if_neg hj]
theorem filter_snoc (tb : Nat → Bool) (f : Nat → Rep) (i : Nat) : ((List.range (i + 1)).filter tb).map f = ((List.range i).filter tb).map f ++ (if tb i = true then [f i] else []) := by
  rw [List.range_succ, List.filter_append, List.map_append]
  congr 1
  by_cases h : tb i = true
  · rw [if_pos h]; simp [h]
  · rw [if_neg h]; simp [h]
theorem dl_lc (B : BX X N sc k) (own : List (Str × Nat)) (hi : SR X Γ tg it n rr) (ok : BlkOk N sc scope own) (G1 : Nat → List Sl) (tb : Nat → Bool) (f : Nat → Rep) (hn : n < sizeLine) (hw : ∀ i ∈ ws, i ∈ own.map (·.2))
    (hg : ∀ (s : Shared) (H : Hp) (C : Addr) (cl : List (Str × Addr)) (fp : List Addr), BX (X.blk s H scope (compEnvC scope cl C X.env) fp) N (relS scope sc) k → ∀ i, i < n → DG (X.blk s H scope (compEnvC scope cl C X.env) fp) (wipeG Γ (own.map (·.2))) tg (rr i) (G1 i) ws)
    (ht : ∀ (s : Shared) (H : Hp) (C : Addr) (cl : List (Str × Addr)) (fp : List Addr), BX (X.blk s H scope (compEnvC scope cl C X.env) fp) N (relS scope sc) k → ∀ i, i < n → DTs (X.blk s H scope (compEnvC scope cl C X.env) fp) (G1 i) ifs (tb i))
    (he : ∀ (s : Shared) (H : Hp) (C : Addr) (cl : List (Str × Addr)) (fp : List Addr), BX (X.blk s H scope (compEnvC scope cl C X.env) fp) N (relS scope sc) k → ∀ i, i < n → tb i = true → DE (X.blk s H scope (compEnvC scope cl C X.env) fp) (G1 i) e (f i)) (hs : ∀ x, foldedSetIterable it X.env x = pure x := by intro _; rfl) :
    DL X Γ (.ListComp e [⟨tg, it, ifs, 0⟩] scope pos) (((List.range n).filter tb).map f) := fun F0 H0 F H σ en Q q => by
  replace hg : ∀ X', IsBlk X scope X' → BX X' N (relS scope sc) k → ∀ i, i < n → DG X' (wipeG Γ (own.map (·.2))) tg (rr i) (G1 i) ws := fun X' h B => by obtain ⟨s, H, C, cl, fp, rfl⟩ := h; exact hg s H C cl fp B
  replace ht : ∀ X', IsBlk X scope X' → BX X' N (relS scope sc) k → ∀ i, i < n → DTs X' (G1 i) ifs (tb i) := fun X' h B => by obtain ⟨s, H, C, cl, fp, rfl⟩ := h; exact ht s H C cl fp B
  replace he : ∀ X', IsBlk X scope X' → BX X' N (relS scope sc) k → ∀ i, i < n → tb i = true → DE X' (G1 i) e (f i) := fun X' h B => by obtain ⟨s, H, C, cl, fp, rfl⟩ := h; exact he s H C cl fp B
  let g : TG := fun v σ H Q => ∀ X', IsBlk X scope X' → GV X' tg v σ H Q
  let tt : TT := fun σ H Q => ∀ X', IsBlk X scope X' → TVs X' ifs σ H Q
  let te : TE := fun σ H Q => ∀ X', IsBlk X scope X' → EV X' e σ H Q
  have pg : ∀ (s : Shared) (H : Hp) (C : Addr) (cl : List (Str × Addr)) (fp : List Addr), PG (X.blk s H scope (compEnvC scope cl C X.env) fp) tg g := fun s H C cl fp => ⟨fun pins s' σ H v u Q I r h => h _ ⟨s, _, C, cl, fp, rfl⟩ pins s' u I r⟩
  have pt : ∀ (s : Shared) (H : Hp) (C : Addr) (cl : List (Str × Addr)) (fp : List Addr), PTs (X.blk s H scope (compEnvC scope cl C X.env) fp) ifs tt := fun s H C cl fp => ⟨fun pins s' σ H Q I h => h _ ⟨s, _, C, cl, fp, rfl⟩ pins s' I⟩
  have pe : ∀ (s : Shared) (H : Hp) (C : Addr) (cl : List (Str × Addr)) (fp : List Addr), PE (X.blk s H scope (compEnvC scope cl C X.env) fp) e te := fun s H C cl fp => ⟨fun pins s' σ H Q I h => h _ ⟨s, _, C, cl, fp, rfl⟩ pins s' I⟩
  refine .of (pe_lc B.calm (by rw [B.hN]; exact B.nd) pi_ev (by rw [B.hN, B.hsc]; exact ok) pg pt pe hs) ?_
  refine hi F0 H0 F H σ en _ fun J F1 H1 g1 wk => fun D hD => ?_
  have en1 := en.grow g1
  refine ⟨fun i m H => m = n - i ∧ i ≤ n ∧ ∃ F vs, Gr F1 H1 F H ∧ F D = none ∧ H D = some (.lst vs) ∧ RL F (((List.range i).filter tb).map f) vs, ⟨n, by simp, Nat.zero_le _, F1, [], .newOwn g1.s hD, g1.s.free hD, upd_same, .nil⟩, fun i m H2 hw2 => ?_⟩
  obtain ⟨rfl, hle, F2, vs, g2, d2, e2, l2⟩ := hw2
  have s2 : Same F1 H2 := g2.f.trans g2.s
  by_cases hlt : i < n
  · refine .inr ⟨wk.go i H2 s2 hlt, fun H => i + 1 ≤ n ∧ ∃ F vs, Gr F1 H1 F H ∧ F D = none ∧ H D = some (.lst vs) ∧ RL F (((List.range (i + 1)).filter tb).map f) vs, fun H' h => ⟨n - (i + 1), by omega, rfl, h.1, h.2⟩, fun x H3 hy => ?_⟩
    obtain ⟨F3, g3, hx⟩ := wk.yld i F2 H2 x H3 g2.f g2.s hlt hy
    have en3 := ((en1.grow (g2.trans g3)).wipe (own.map (·.2)))
    -- the target is stored
    have key : ∀ X', IsBlk X scope X' → ∀ Q : L2.St → Hp → Prop, (∀ F' H' σ', Gr F3 H3 F' H' → En F0 H0 F' H' σ' (G1 i) → Off ws (L2.wipe σ (own.map (·.2))) σ' → Q σ' H') → GV X' tg x (L2.wipe σ (own.map (·.2))) H3 Q := fun X' hX' Q hQ => hg X' hX' (B.blk hX') i hlt F0 H0 F3 H3 _ x en3 hx Q hQ
    intro X' hX'
    refine key X' hX' _ fun F4 H4 σ4 g4 en4 off => ⟨?_, fun X2 hX2 => ?_⟩
    · have := off (own.map (·.2)) hw
      rw [this]
      exact wipe_wipe _ _
    refine ht X2 hX2 (B.blk hX2) i hlt F0 H0 F4 H4 σ4 en4 _ fun F5 H5 g5 => ?_
    have gg5 := ((g2.trans g3).trans g4).trans g5
    have d5 : F5 D = none := (((g3.trans g4).trans g5).n D (by rw [e2]; exact fun z => nomatch z) d2)
    have h5 : H5 D = some (.lst vs) := ((g3.trans g4).trans g5).h _ _ e2
    have l5 := l2.mono ((g3.trans g4).trans g5).f
    cases hb : tb i with
    | false =>
      rw [if_neg Bool.false_ne_true]
      refine ⟨hlt, F5, vs, gg5, d5, h5, ?_⟩
      rw [filter_snoc, hb, if_neg Bool.false_ne_true, List.append_nil]
      exact l5
    | true =>
      rw [if_pos rfl]
      intro X3 hX3
      refine he X3 hX3 (B.blk hX3) i hlt hb F0 H0 F5 H5 σ4 (en4.grow g5) _ fun y F6 H6 g6 hy6 => ?_
      have h6 := g6.h _ _ h5
      have d6 := g6.n D (by rw [h5]; exact fun z => nomatch z) d5
      have hlen : vs.length < sizeLine := by
        rw [← l5.len, List.length_map]
        have := List.length_filter_le tb (List.range i)
        rw [List.length_range] at this
        omega
      refine ⟨vs, h6, hlen, hlt, F6, vs ++ [y], ?_, d6, upd_same, ?_⟩
      · have gg6 := gg5.trans g6
        exact ⟨gg6.f, fun b o z => by rw [upd_ne (ne_of_none z hD)]; exact gg6.h b o z, same_out gg6.s d6, gg6.n⟩
      · rw [filter_snoc, hb, if_pos rfl]
        exact (l5.mono g6.f).snoc hy6
  · have e : i = n := by omega
    subst e
    refine .inl ⟨wk.stop i H2 s2 (Nat.le_refl _), ?_⟩
    exact q D vs F2 H2 (g1.trans g2) (g1.h.free hD) d2 e2 l2
/-- over a list, without a test -/
theorem lc_all {α : Type} {R : α → Rep} {xs : List α} {d : α} {f : α → Rep} : ((List.range xs.length).filter fun _ => true).map (fun i => f (xs.getD i d)) = xs.map f := by
  rw [List.filter_eq_self.mpr (fun _ _ => rfl)]
  apply List.ext_getElem
  · simp
  · intro i h1 h2
    simp at h1 h2
    simp [List.getD_eq_getElem?_getD, List.getElem?_eq_getElem h2]
end
end DL

set_option linter.all false
set_option maxHeartbeats 4000000
namespace DL
open PySem L2
/-! sizes of numbers -/
theorem lg_dvd {a b : Int} (hb : b ≠ 0) (h : a ∣ b) : Lg a ≤ Lg b := lg_le (Nat.le_of_dvd (by omega) (Int.natAbs_dvd_natAbs.mpr h))
theorem fdiv_lg {a b : Int} (hb : b ≠ 0) (h : b ∣ a) : Lg (a.fdiv b) ≤ Lg a := by
  rw [Int.fdiv_eq_ediv_of_dvd h]
  by_cases h0 : a = 0
  · subst h0; simp
  · exact lg_dvd h0 (Int.ediv_dvd_of_dvd h)
theorem sz_ratio {t b : Int} {n : Nat} (hb : b ≠ 0) (h1 : Lg t ≤ n) (h2 : Lg b ≤ n) : Sz n ((t : Rat) / (b : Rat)) := by
  have hd := lowC_dvd t b
  refine ⟨?_, ?_⟩
  · rw [rat_num hb]
    exact Nat.le_trans (fdiv_lg (lowC_ne hb) hd.1) h1
  · rw [rat_den hb]
    exact Nat.le_trans (fdiv_lg (lowC_ne hb) hd.2) h2
theorem Sz.mono {m n : Nat} {q : Rat} (h : Sz m q) (k : m ≤ n) : Sz n q := ⟨Nat.le_trans h.1 k, Nat.le_trans h.2 k⟩
theorem sz_add {m n : Nat} {q r : Rat} (h : Sz m q) (k : Sz n r) : Sz (m + n + 2) (q + r) := by
  rw [← r_plus]
  refine sz_ratio (dd_ne q r) ?_ ?_ <;> grind [lg_mul, lg_add, Sz]
theorem sz_sub {m n : Nat} {q r : Rat} (h : Sz m q) (k : Sz n r) : Sz (m + n + 2) (q - r) := by
  rw [← r_minus]
  refine sz_ratio (dd_ne q r) ?_ ?_ <;> grind [lg_mul, lg_sub, Sz]
theorem sz_mul {m n : Nat} {q r : Rat} (h : Sz m q) (k : Sz n r) : Sz (m + n + 1) (q * r) := by
  rw [← r_times]
  refine sz_ratio (dd_ne q r) ?_ ?_ <;> grind [lg_mul, Sz]
theorem sz_div {m n : Nat} {q r : Rat} (hr : r ≠ 0) (h : Sz m q) (k : Sz n r) : Sz (m + n + 1) (q / r) := by
  rw [← r_over q r hr]
  refine sz_ratio (dn_ne hr) ?_ ?_ <;> grind [lg_mul, Sz]
theorem sz_int {n : Nat} {i : Int} (h : Lg i ≤ n) : Sz n (i : Rat) := by
  refine ⟨?_, ?_⟩
  · rw [Rat.num_intCast]; exact h
  · rw [Rat.den_intCast]
    have : Lg ((1 : Nat) : Int) = 0 := by decide
    omega
def half : Rat := (1 : Int) / (2 : Int)
theorem half_num : half.num = 1 := by decide +kernel
theorem half_den : half.den = 2 := by decide +kernel
theorem sub_half {K : PySem.W.Frag} : Sub (rTup K [rInt 1, rInt 2]) (rNum K half) := sub_pair (by decide) half_num (by rw [half_den]; rfl)
theorem sz_half : Sz 2 half := ⟨by rw [half_num]; decide, by rw [half_den]; decide⟩
/-! the least common multiple of the bottoms -/
def lcmD (qs : List Rat) : Nat := qs.foldl (fun c q => Nat.lcm c q.den) 1
theorem take_snoc {α : Type} {xs : List α} {d : α} {i : Nat} (hi : i < xs.length) : xs.take (i + 1) = xs.take i ++ [xs.getD i d] := by
  rw [List.take_add_one, List.getElem?_eq_getElem hi, List.getD_eq_getElem?_getD, List.getElem?_eq_getElem hi]
  rfl
theorem lcmD_step {qs : List Rat} {i : Nat} (hi : i < qs.length) : lcmD (qs.take (i + 1)) = Nat.lcm (lcmD (qs.take i)) (qs.getD i 0).den := by
  unfold lcmD
  rw [take_snoc (d := 0) hi, List.foldl_append]
  rfl
theorem getD_mem {α : Type} {xs : List α} {d : α} {i : Nat} (hi : i < xs.length) : xs.getD i d ∈ xs := by
  rw [List.getD_eq_getElem?_getD, List.getElem?_eq_getElem hi]
  exact List.getElem_mem hi
theorem lg_lcm (a b : Nat) : Lg ((Nat.lcm a b : Nat) : Int) ≤ Lg (a : Int) + Lg (b : Int) + 1 := by
  have h : Nat.lcm a b ≤ a * b := Nat.div_le_self _ _
  have h2 := lg_mul (a : Int) (b : Int)
  have h3 : Lg ((Nat.lcm a b : Nat) : Int) ≤ Lg ((a : Int) * (b : Int)) := lg_le (by show Nat.lcm a b ≤ ((a : Int) * (b : Int)).natAbs; rw [Int.natAbs_mul]; exact h)
  omega
theorem lg_lcmD {n : Nat} : ∀ (qs : List Rat), (∀ q ∈ qs, Sz n q) → Lg (lcmD qs : Int) ≤ qs.length * (n + 1) := by
  have key : ∀ (qs : List Rat) (c : Nat), (∀ q ∈ qs, Sz n q) → Lg ((qs.foldl (fun c q => Nat.lcm c q.den) c : Nat) : Int) ≤ Lg (c : Int) + qs.length * (n + 1) := by
    intro qs
    induction qs with
    | nil => intro c _; simp
    | cons q qs ih =>
      intro c h
      rw [List.foldl_cons]
      have h1 := ih (Nat.lcm c q.den) fun x hx => h x (List.mem_cons_of_mem _ hx)
      have h2 := lg_lcm c q.den
      have h3 := (h q List.mem_cons_self).2
      rw [List.length_cons, Nat.add_mul]
      omega
  intro qs h
  have := key qs 1 h
  have h1 : Lg ((1 : Nat) : Int) = 0 := by decide
  unfold lcmD
  omega
/-! the least and the greatest -/
def stepMin (o : Option Rat) (q : Rat) : Option Rat := if (o.isNone || decide (q < o.getD 0)) = true then some q else o
def stepMax (o : Option Rat) (q : Rat) : Option Rat := if (o.isNone || decide (o.getD 0 < q)) = true then some q else o
def minO (qs : List Rat) : Option Rat := qs.foldl stepMin none
def maxO (qs : List Rat) : Option Rat := qs.foldl stepMax none
theorem minO_step {qs : List Rat} {i : Nat} (hi : i < qs.length) : minO (qs.take (i + 1)) = stepMin (minO (qs.take i)) (qs.getD i 0) := by
  unfold minO
  rw [take_snoc (d := 0) hi, List.foldl_append]
  rfl
theorem maxO_step {qs : List Rat} {i : Nat} (hi : i < qs.length) : maxO (qs.take (i + 1)) = stepMax (maxO (qs.take i)) (qs.getD i 0) := by
  unfold maxO
  rw [take_snoc (d := 0) hi, List.foldl_append]
  rfl
theorem minO_mem : ∀ (qs : List Rat) (m : Rat), minO qs = some m → m ∈ qs ∧ ∀ q ∈ qs, ¬ q < m := by
  have key : ∀ (qs : List Rat) (o : Option Rat) (m : Rat), qs.foldl stepMin o = some m → (m ∈ qs ∨ o = some m) ∧ (∀ q ∈ qs, ¬ q < m) ∧ (∀ x, o = some x → ¬ x < m) := by
    intro qs
    induction qs with
    | nil => intro o m h; exact ⟨.inr h, fun _ z => by simp at z, fun x hx => by rw [show o = some m from h] at hx; cases hx; grind⟩
    | cons q qs ih =>
      intro o m h
      rw [List.foldl_cons] at h
      obtain ⟨h1, h2, h3⟩ := ih _ _ h
      unfold stepMin at h1 h3
      by_cases hc : (o.isNone || decide (q < o.getD 0)) = true
      · rw [if_pos hc] at h1 h3
        have hq := h3 q rfl
        refine ⟨.inl ?_, ?_, ?_⟩
        · rcases h1 with z | z
          · exact List.mem_cons_of_mem _ z
          · cases z; exact List.mem_cons_self
        · intro y hy
          rcases List.mem_cons.mp hy with rfl | z
          · exact hq
          · exact h2 y z
        · intro x hx
          subst hx
          simp at hc
          grind
      · rw [if_neg hc] at h1 h3
        refine ⟨?_, ?_, h3⟩
        · rcases h1 with z | z
          · exact .inl (List.mem_cons_of_mem _ z)
          · exact .inr z
        · intro y hy
          rcases List.mem_cons.mp hy with rfl | z
          · cases o with
            | none => simp at hc
            | some x =>
              have := h3 x rfl
              simp at hc
              grind
          · exact h2 y z
  intro qs m h
  obtain ⟨h1, h2, _⟩ := key qs none m h
  rcases h1 with z | z
  · exact ⟨z, h2⟩
  · cases z
theorem maxO_mem : ∀ (qs : List Rat) (m : Rat), maxO qs = some m → m ∈ qs ∧ ∀ q ∈ qs, ¬ m < q := by
  have key : ∀ (qs : List Rat) (o : Option Rat) (m : Rat), qs.foldl stepMax o = some m → (m ∈ qs ∨ o = some m) ∧ (∀ q ∈ qs, ¬ m < q) ∧ (∀ x, o = some x → ¬ m < x) := by
    intro qs
    induction qs with
    | nil => intro o m h; exact ⟨.inr h, fun _ z => by simp at z, fun x hx => by rw [show o = some m from h] at hx; cases hx; grind⟩
    | cons q qs ih =>
      intro o m h
      rw [List.foldl_cons] at h
      obtain ⟨h1, h2, h3⟩ := ih _ _ h
      unfold stepMax at h1 h3
      by_cases hc : (o.isNone || decide (o.getD 0 < q)) = true
      · rw [if_pos hc] at h1 h3
        have hq := h3 q rfl
        refine ⟨.inl ?_, ?_, ?_⟩
        · rcases h1 with z | z
          · exact List.mem_cons_of_mem _ z
          · cases z; exact List.mem_cons_self
        · intro y hy
          rcases List.mem_cons.mp hy with rfl | z
          · exact hq
          · exact h2 y z
        · intro x hx
          subst hx
          simp at hc
          grind
      · rw [if_neg hc] at h1 h3
        refine ⟨?_, ?_, h3⟩
        · rcases h1 with z | z
          · exact .inl (List.mem_cons_of_mem _ z)
          · exact .inr z
        · intro y hy
          rcases List.mem_cons.mp hy with rfl | z
          · cases o with
            | none => simp at hc
            | some x =>
              have := h3 x rfl
              simp at hc
              grind
          · exact h2 y z
  intro qs m h
  obtain ⟨h1, h2, _⟩ := key qs none m h
  rcases h1 with z | z
  · exact ⟨z, h2⟩
  · cases z
theorem lcmD_small {qs : List Rat} {n i : Nat} (h : ∀ q ∈ qs, Sz n q) (h2 : qs.length * (n + 1) < 9000) (hi : i ≤ qs.length) : (((lcmD (qs.take i) : Nat) : Int)).natAbs.log2 < 10000 := by
  have h3 := lg_lcmD (n := n) (qs.take i) fun q hq => h q (List.mem_of_mem_take hq)
  have h4 : (qs.take i).length * (n + 1) ≤ qs.length * (n + 1) := Nat.mul_le_mul_right _ (by rw [List.length_take]; omega)
  have h5 : (((lcmD (qs.take i) : Nat) : Int)).natAbs.log2 = Lg ((lcmD (qs.take i) : Nat) : Int) := rfl
  omega
theorem den_small {qs : List Rat} {n i : Nat} (h : ∀ q ∈ qs, Sz n q) (h2 : n < 9000) (hi : i < qs.length) : (((qs.getD i 0).den : Int)).natAbs.log2 < 10000 := by
  have h3 := (h _ (getD_mem (d := 0) hi)).2
  have h5 : (((qs.getD i 0).den : Int)).natAbs.log2 = Lg ((qs.getD i 0).den : Int) := rfl
  omega
theorem sz_zero (n : Nat) : Sz n 0 := ⟨Nat.le_trans (show Lg 0 ≤ 0 by decide) (Nat.zero_le _), Nat.le_trans (show Lg ((1 : Nat) : Int) ≤ 0 by decide) (Nat.zero_le _)⟩
theorem minO_sz {qs : List Rat} {n i : Nat} (h : ∀ q ∈ qs, Sz n q) (hi : i < qs.length) : Sz n (qs.getD i 0) ∧ Sz n ((minO (qs.take i)).getD 0) := by
  refine ⟨h _ (getD_mem hi), ?_⟩
  cases e : minO (qs.take i) with
  | none => exact sz_zero n
  | some m => exact h m (List.mem_of_mem_take (minO_mem _ _ e).1)
theorem maxO_sz {qs : List Rat} {n i : Nat} (h : ∀ q ∈ qs, Sz n q) (hi : i < qs.length) : Sz n ((maxO (qs.take i)).getD 0) ∧ Sz n (qs.getD i 0) := by
  refine ⟨?_, h _ (getD_mem hi)⟩
  cases e : maxO (qs.take i) with
  | none => exact sz_zero n
  | some m => exact h m (List.mem_of_mem_take (maxO_mem _ _ e).1)
/-! the law's Euclid -/
def eu (i : Nat) (p : Int × Int) : Int × Int := match i with
  | 0 => p
  | i + 1 => let q := eu i p; (q.2, q.1.fmod q.2)
structure EuJ (a b : Int) (i : Nat) : Prop where
  g : Int.gcd (eu i (a, b)).1 (eu i (a, b)).2 = Int.gcd a b
  p1 : 0 ≤ (eu i (a, b)).1
  p2 : 0 ≤ (eu i (a, b)).2
  lt : 1 ≤ i → (eu i (a, b)).2 < (eu i (a, b)).1
  bd : 1 ≤ i → (eu i (a, b)).1 * (eu i (a, b)).2 * 2 ^ (i - 1) ≤ a * b
theorem euJ0 {a b : Int} (ha : 0 ≤ a) (hb : 0 ≤ b) : EuJ a b 0 := ⟨rfl, ha, hb, fun z => by omega, fun z => by omega⟩
theorem euJ_step {a b : Int} {i : Nat} (h : EuJ a b i) (hy : (eu i (a, b)).2 ≠ 0) : EuJ a b (i + 1) := by
  obtain ⟨g, p1, p2, lt, bd⟩ := h
  have e1 : (eu (i + 1) (a, b)).1 = (eu i (a, b)).2 := rfl
  have e2 : (eu (i + 1) (a, b)).2 = (eu i (a, b)).1.fmod (eu i (a, b)).2 := rfl
  generalize hx : (eu i (a, b)).1 = x at *
  generalize hyy : (eu i (a, b)).2 = y at *
  have hm : x.fmod y = x % y := Int.fmod_eq_emod_of_nonneg _ p2
  have m0 : 0 ≤ x % y := Int.emod_nonneg _ hy
  have m1 : x % y < y := Int.emod_lt_of_pos _ (by omega)
  refine ⟨?_, ?_, ?_, ?_, ?_⟩
  · rw [e1, e2, hm, ← g, Int.emod_def, Int.gcd_sub_mul_left_right, Int.gcd_comm]
  · rw [e1]; exact p2
  · rw [e2, hm]; exact m0
  · intro _; rw [e1, e2, hm]; exact m1
  · intro _
    rw [e1, e2, hm]
    by_cases h0 : i = 0
    · subst h0
      have hxa : x = a := hx.symm
      have hyb : y = b := hyy.symm
      subst hxa hyb
      have : x % y ≤ x := by
        have := Int.mul_ediv_add_emod x y
        have : 0 ≤ y * (x / y) := Int.mul_nonneg p2 (Int.ediv_nonneg p1 p2)
        omega
      simp only [Nat.zero_add, Nat.sub_self, Int.pow_zero, Int.mul_one]
      rw [Int.mul_comm x y]
      exact Int.mul_le_mul_of_nonneg_left this p2
    · have hlt := lt (by omega)
      have hbd := bd (by omega)
      have h2 : 2 * (x % y) ≤ x := by
        have e := Int.mul_ediv_add_emod x y
        have hq : 1 ≤ x / y := (Int.le_ediv_iff_mul_le (by omega)).mpr (by omega)
        have : y * 1 ≤ y * (x / y) := Int.mul_le_mul_of_nonneg_left hq p2
        omega
      obtain ⟨j, rfl⟩ : ∃ j, i = j + 1 := ⟨i - 1, by omega⟩
      simp only [Nat.add_sub_cancel] at hbd ⊢
      rw [Int.pow_succ]
      have hp : (0 : Int) ≤ 2 ^ j := Int.pow_nonneg (by decide)
      have : y * (x % y) * 2 ≤ x * y := by
        rw [Int.mul_assoc, Int.mul_comm x y]
        exact Int.mul_le_mul_of_nonneg_left (by omega) p2
      calc y * (x % y) * (2 ^ j * 2) = y * (x % y) * 2 * 2 ^ j := by grind
        _ ≤ x * y * 2 ^ j := Int.mul_le_mul_of_nonneg_right this hp
        _ ≤ a * b := hbd
theorem eu_end {a b : Int} (h : EuJ a b 2000) (ha : 0 ≤ a) (hb : 0 ≤ b) (la : a < 2 ^ 990) (lb : b < 2 ^ 990) : (eu 2000 (a, b)).2 = 0 := by
  have hlt := h.lt (by decide)
  have hbd := h.bd (by decide)
  have p2 := h.p2
  rcases Int.lt_or_le 0 (eu 2000 (a, b)).2 with hy | hy
  · exfalso
    have h1 : (1 : Int) * 1 ≤ (eu 2000 (a, b)).1 * (eu 2000 (a, b)).2 := Int.mul_le_mul (by omega) (by omega) (by decide) (by omega)
    have hp : (0 : Int) ≤ 2 ^ (2000 - 1) := Int.pow_nonneg (by decide)
    have h2 := Int.mul_le_mul_of_nonneg_right h1 hp
    have h3 : a * b ≤ 2 ^ 990 * 2 ^ 990 := Int.mul_le_mul (by omega) (by omega) hb (Int.pow_nonneg (by decide))
    have h4 : (2 : Int) ^ 990 * 2 ^ 990 < 1 * 1 * 2 ^ (2000 - 1) := by decide +kernel
    omega
  · omega
theorem eu_gcd {a b : Int} {i : Nat} (h : EuJ a b i) (hz : (eu i (a, b)).2 = 0) : (eu i (a, b)).1 = (Int.gcd a b : Nat) := by
  have g := h.g
  have p1 := h.p1
  rw [hz, Int.gcd_zero_right] at g
  omega
theorem getD_out {ns : List Int} {k : Nat} (h : ¬ k < ns.length) : ns.getD k 0 = 0 := by
  rw [List.getD_eq_getElem?_getD, List.getElem?_eq_none (by omega)]
  rfl
theorem gcd_abs {s t : Int} : Int.gcd (s.natAbs : Int) (t.natAbs : Int) = Int.gcd s t := by simp [Int.gcd]
theorem lg_abs {s : Int} (h : Lg s < 990) : (s.natAbs : Int) < 2 ^ 990 := by
  have h1 := lg_lt h
  have : ((s.natAbs : Nat) : Int) < ((2 ^ 990 : Nat) : Int) := by omega
  simpa using this
theorem rat_den1b {t b : Int} (hb : b ≠ 0) (h : b.fdiv (lowC t b) = 1) : ((t : Rat) / (b : Rat)).den = 1 := by
  have := rat_den (t := t) hb
  omega
theorem low_terms {q : Rat} (hd : q.den ≠ 1) : (decide ((2 : Int) ≤ (q.den : Int)) && decide (((Int.gcd q.num (q.den : Int) : Nat) : Int) = 1)) = true := by
  have h1 := q.den_nz
  have h2 : Int.gcd q.num (q.den : Int) = 1 := q.reduced
  rw [h2]
  simp
  omega
/-! the law's numbers -/
def divs (c : Int) : Nat → Int
  | 0 => c
  | i + 1 => (divs c i).fdiv 10007
def bigN (c : Int) (j : Nat) : Int := (divs c j).fmod 10007
def smallN (c : Int) (j : Nat) : Int := (((c * 48271 + 69621 * (j : Int) + 11).fmod 2147483647).fdiv 16 * 7919 + (j : Int)).fmod 10007
def lawNums (ns : List Int) (k many : Nat) : List Int := if (10 : Int) ^ 18 ≤ ((ns.getD k 0).natAbs : Int) then (List.range many).map (bigN (ns.getD k 0).natAbs) else (List.range many).map (smallN (ns.getD k 0).natAbs)
theorem lawNums_len (ns : List Int) (k many : Nat) : (lawNums ns k many).length = many := by
  unfold lawNums
  split <;> simp
theorem lawNums_mem {ns : List Int} {k many : Nat} {x : Int} (h : x ∈ lawNums ns k many) : 0 ≤ x ∧ x < 10007 := by
  have key : ∀ y : Int, 0 ≤ y.fmod 10007 ∧ y.fmod 10007 < 10007 := fun y => ⟨Int.fmod_nonneg_of_pos _ (by decide), Int.fmod_lt_of_pos _ (by decide)⟩
  unfold lawNums at h
  split at h
  · obtain ⟨j, _, rfl⟩ := List.mem_map.mp h
    exact key _
  · obtain ⟨j, _, rfl⟩ := List.mem_map.mp h
    exact key _
theorem mul_s {i j : Int} (h1 : i.natAbs < 18446744073709551616) (h2 : j.natAbs < 18446744073709551616) : Lg i + Lg j < 1000000 := by
  have a := lg_of (n := 64) (by decide) (show i.natAbs < 2 ^ 64 from h1)
  have b := lg_of (n := 64) (by decide) (show j.natAbs < 2 ^ 64 from h2)
  omega
theorem sm16 (x : Int) : ((x.fmod 2147483647).fdiv 16).natAbs < 18446744073709551616 := by
  have h1 := Int.fmod_nonneg_of_pos x (show (0 : Int) < 2147483647 by decide)
  have h2 := Int.fmod_lt_of_pos x (show (0 : Int) < 2147483647 by decide)
  rw [Int.fdiv_eq_ediv_of_nonneg _ (by decide)]
  omega
def drawn0 (ns : List Int) (k : Nat) (large : Bool) : Rat := (((if large = true then (ns.getD k 0 - 5003) * (10 ^ 9 + 7) else ns.getD k 0 - 5003 : Int)) : Rat) / ((1 + (ns.getD (k + 1) 0).fmod 60 : Int) : Rat)
theorem getD_bd {ns : List Int} {a b : Int} (h : ∀ x ∈ ns, a ≤ x ∧ x < b) (h0 : a ≤ 0 ∧ 0 < b) (k : Nat) : a ≤ ns.getD k 0 ∧ ns.getD k 0 < b := by
  by_cases hk : k < ns.length
  · exact h _ (getD_mem hk)
  · rw [getD_out hk]; exact h0
theorem dr_top {ns : List Int} {k : Nat} (h : ∀ x ∈ ns, 0 ≤ x ∧ x < 10007) : (ns.getD k 0 - 5003).natAbs < 18446744073709551616 := by
  have := getD_bd h (by decide) k
  omega
theorem dr_ne {x : Int} : 1 + x.fmod 60 ≠ 0 := by
  have := Int.fmod_nonneg_of_pos x (show (0 : Int) < 60 by decide)
  omega
theorem dr_lg2 {x : Int} : Lg (1 + x.fmod 60) < 990 := Nat.lt_trans (lg_of (n := 6) (by decide) (by
  have := Int.fmod_nonneg_of_pos x (show (0 : Int) < 60 by decide)
  have := Int.fmod_lt_of_pos x (show (0 : Int) < 60 by decide)
  omega)) (by decide)
theorem dr_lg0 {ns : List Int} {k : Nat} (h : ∀ x ∈ ns, 0 ≤ x ∧ x < 10007) : Lg (ns.getD k 0 - 5003) < 990 := Nat.lt_trans (lg_of (n := 14) (by decide) (by
  have := getD_bd h (by decide) k
  omega)) (by decide)
theorem dr_lg1 {ns : List Int} {k : Nat} (h : ∀ x ∈ ns, 0 ≤ x ∧ x < 10007) : Lg ((ns.getD k 0 - 5003) * (10 ^ 9 + 7)) < 990 := Nat.lt_trans (lg_of (n := 50) (by decide) (by
  have := getD_bd h (by decide) k
  omega)) (by decide)
theorem drawn_sz {ns : List Int} {k : Nat} {large : Bool} (h : ∀ x ∈ ns, 0 ≤ x ∧ x < 10007) : Sz 50 (drawn0 ns k large) := by
  have b := getD_bd h (by decide) k
  have d1 := Int.fmod_nonneg_of_pos (ns.getD (k + 1) 0) (show (0 : Int) < 60 by decide)
  have d2 := Int.fmod_lt_of_pos (ns.getD (k + 1) 0) (show (0 : Int) < 60 by decide)
  refine sz_ratio (by omega) ?_ ?_
  · refine Nat.le_of_lt (lg_of (by decide) ?_)
    split <;> omega
  · refine Nat.le_of_lt (lg_of (by decide) ?_)
    omega
/-! the law's values -/
theorem num_nz {r : Rat} (h : (!decide (r.num = 0)) = true) : r ≠ 0 := fun z => by
  subst z
  simp at h
theorem st_of {x : Rat} {t b : Int} (hb : b ≠ 0) (h : x = (t : Rat) / (b : Rat)) : x.num * b = t * (x.den : Int) := by
  have e := q_eq x
  have d := den_ne x
  have hb' : (b : Rat) ≠ 0 := by simpa using hb
  generalize hn : (x.num : Rat) = n at e
  generalize hd : ((x.den : Int) : Rat) = dd at e d
  have : n * (b : Rat) = (t : Rat) * dd := by grind
  rw [← hn, ← hd, ← Rat.intCast_mul, ← Rat.intCast_mul] at this
  exact Rat.intCast_inj.mp this
theorem st_plus {q r : Rat} : (q + r).num * ((q.den : Int) * (r.den : Int)) = (q.num * (r.den : Int) + r.num * (q.den : Int)) * ((q + r).den : Int) := st_of (dd_ne q r) (r_plus q r).symm
theorem st_minus {q r : Rat} : (q - r).num * ((q.den : Int) * (r.den : Int)) = (q.num * (r.den : Int) - r.num * (q.den : Int)) * ((q - r).den : Int) := st_of (dd_ne q r) (r_minus q r).symm
theorem st_times {q r : Rat} : (q * r).num * ((q.den : Int) * (r.den : Int)) = q.num * r.num * ((q * r).den : Int) := st_of (dd_ne q r) (r_times q r).symm
theorem st_over {q r : Rat} (h : r ≠ 0) : (q / r).num * ((q.den : Int) * r.num) = q.num * (r.den : Int) * ((q / r).den : Int) := st_of (dn_ne h) (r_over q r h).symm
theorem st_over_and {q r : Rat} : (!decide (r.num = 0) && !decide ((q / r).num * ((q.den : Int) * r.num) = q.num * (r.den : Int) * ((q / r).den : Int))) = false := by
  by_cases h : r = 0
  · subst h; rfl
  · rw [decide_eq_true (st_over h)]; simp
theorem ls1 {q r : Rat} : ((decide (q < r) == true) != decide (q.num * (r.den : Int) < r.num * (q.den : Int)) || (decide (q < r) == false) != decide (r.num * (q.den : Int) ≤ q.num * (r.den : Int))) = false := by
  have h := r_less q r
  have h2 : decide (r.num * (q.den : Int) ≤ q.num * (r.den : Int)) = !decide (q.num * (r.den : Int) < r.num * (q.den : Int)) := by
    by_cases k : q.num * (r.den : Int) < r.num * (q.den : Int)
    · rw [decide_eq_true k, decide_eq_false (by omega)]; rfl
    · rw [decide_eq_false k, decide_eq_true (by omega)]; rfl
  rw [h2, h]
  cases decide (q < r) <;> rfl
theorem fl_b {q : Rat} : q.floor * (q.den : Int) ≤ q.num ∧ q.num < (q.floor + 1) * (q.den : Int) := by
  have hd : (0 : Int) < (q.den : Int) := by have := q.den_nz; omega
  rw [Rat.floor_def]
  have e := Int.mul_ediv_add_emod q.num (q.den : Int)
  have m0 := Int.emod_nonneg q.num (show (q.den : Int) ≠ 0 by omega)
  have m1 := Int.emod_lt_of_pos q.num hd
  constructor
  · rw [Int.mul_comm]; omega
  · rw [Int.add_mul, Int.mul_comm (q.num / (q.den : Int))]; omega
theorem ce_b {q : Rat} : q.num ≤ q.ceil * (q.den : Int) ∧ (q.ceil - 1) * (q.den : Int) < q.num := by
  have h := fl_b (q := -q)
  rw [Rat.neg_num, Rat.neg_den] at h
  have e : q.ceil = -(-q).floor := Rat.ceil_eq_neg_floor_neg q
  rw [e]
  generalize (-q).floor = f at *
  generalize (q.den : Int) = d at *
  constructor
  · have := h.1; rw [Int.neg_mul]; omega
  · have := h.2
    have e2 : (-f - 1) * d = -((f + 1) * d) := by grind
    omega
theorem fl_ok {q : Rat} : (decide (q.num < q.floor * (q.den : Int)) || (decide ((q.floor + 1) * (q.den : Int) ≤ q.num) || (decide (q.ceil * (q.den : Int) < q.num) || decide (q.num ≤ (q.ceil - 1) * (q.den : Int))))) = false := by
  have h1 := fl_b (q := q)
  have h2 := ce_b (q := q)
  rw [decide_eq_false (by omega), decide_eq_false (by omega), decide_eq_false (by omega), decide_eq_false (by omega)]
  rfl
theorem half_eq : half = 1 / 2 := by decide +kernel
theorem near_b {q : Rat} : (2 * (q + half).floor - 1) * (q.den : Int) ≤ 2 * q.num ∧ 2 * q.num < (2 * (q + half).floor + 1) * (q.den : Int) := by
  have h1 : ((q + half).floor : Rat) ≤ q + half := Rat.le_floor_iff.mp (Int.le_refl _)
  have h2 : q + half < (((q + half).floor + 1 : Int) : Rat) := Rat.floor_lt_iff.mp (by omega)
  have e := q_eq q
  have d := den_ne q
  have dp : (0 : Rat) < ((q.den : Int) : Rat) := by
    have := q.den_nz
    have : (0 : Int) < (q.den : Int) := by omega
    exact Rat.intCast_pos.mpr this
  rw [half_eq] at h1 h2 ⊢
  generalize (q + 1 / 2).floor = f at *
  rw [Rat.intCast_add] at h2
  have hq : (q.num : Rat) = q * ((q.den : Int) : Rat) := by
    generalize (q.num : Rat) = n at *
    generalize ((q.den : Int) : Rat) = dd at *
    grind
  constructor
  · have : (((2 * f - 1) * (q.den : Int) : Int) : Rat) ≤ ((2 * q.num : Int) : Rat) := by
      rw [Rat.intCast_mul, Rat.intCast_mul, Rat.intCast_sub, Rat.intCast_mul, hq]
      have h3 : (2 : Rat) * (f : Rat) - 1 ≤ 2 * q := by grind
      have := Rat.mul_le_mul_of_nonneg_right h3 (Rat.le_of_lt dp)
      grind
    exact Rat.intCast_le_intCast.mp this
  · have : ((2 * q.num : Int) : Rat) < (((2 * f + 1) * (q.den : Int) : Int) : Rat) := by
      rw [Rat.intCast_mul, Rat.intCast_mul, Rat.intCast_add, Rat.intCast_mul, hq]
      have h3 : 2 * q < (2 : Rat) * (f : Rat) + 1 := by grind
      have := (Rat.mul_lt_mul_right dp).mpr h3
      grind
    exact Rat.intCast_lt_intCast.mp this
theorem near_ok {q : Rat} : (decide ((2 * (q + half).floor - 1) * (q.den : Int) ≤ 2 * q.num) && decide (2 * q.num < (2 * (q + half).floor + 1) * (q.den : Int))) = true := by
  have h := near_b (q := q)
  rw [decide_eq_true h.1, decide_eq_true h.2]
  rfl
theorem wh1 {q : Rat} : ((decide (q.den = 1) == true) != decide ((q.den : Int) = 1) || (decide (q.den = 1) == false) != !decide ((q.den : Int) = 1)) = false := by
  by_cases h : q.den = 1
  · rw [h]; rfl
  · have h2 : ¬ (q.den : Int) = 1 := by omega
    rw [decide_eq_false h, decide_eq_false h2]; rfl
theorem fl_lg0 {q : Rat} {n : Nat} (h : Sz n q) : Lg q.floor ≤ n := by
  rw [Rat.floor_def]
  refine Nat.le_trans (lg_le ?_) h.1
  exact Int.natAbs_ediv_le_natAbs q.num (q.den : Int)
theorem ce_lg0 {q : Rat} {n : Nat} (h : Sz n q) : Lg q.ceil ≤ n := by
  rw [Rat.ceil_eq_neg_floor_neg, lg_neg]
  refine fl_lg0 ⟨?_, ?_⟩
  · rw [Rat.neg_num, lg_neg]; exact h.1
  · rw [Rat.neg_den]; exact h.2
/-! the law's lists -/
theorem lcm_fdiv {a b : Nat} : (((a : Int) * (b : Int))).fdiv ((Int.gcd (a : Int) (b : Int) : Nat) : Int) = ((Nat.lcm a b : Nat) : Int) := by
  rw [Int.fdiv_eq_ediv_of_nonneg _ (by omega)]
  show ((a : Int) * (b : Int)) / ((Nat.gcd a b : Nat) : Int) = ((a * b / Nat.gcd a b : Nat) : Int)
  rw [Int.natCast_ediv, Int.natCast_mul]
theorem gcd_nz {a : Int} {q : Rat} : ((Int.gcd a (q.den : Int) : Nat) : Int) ≠ 0 := by
  have := gcd_pos (t := a) (b := (q.den : Int)) (den_neI q)
  omega
abbrev LsP (qs : List Rat) : Prop := qs.length ≤ 8 ∧ ∀ q ∈ qs, Sz 50 q
theorem lcmD_lg {qs : List Rat} {i : Nat} (hp : LsP qs) (hi : i < qs.length) : Lg ((lcmD (qs.take i) : Nat) : Int) < 990 := by
  have h3 := lg_lcmD (n := 50) (qs.take i) fun q hq => hp.2 q (List.mem_of_mem_take hq)
  have : (qs.take i).length * 51 ≤ 8 * 51 := Nat.mul_le_mul_right _ (by rw [List.length_take]; have := hp.1; omega)
  omega
theorem den_lg {qs : List Rat} {i : Nat} (hp : LsP qs) (hi : i < qs.length) : Lg ((qs.getD i 0).den : Int) < 990 := by
  have h3 := (hp.2 _ (getD_mem (d := 0) hi)).2
  omega
theorem num_lg {qs : List Rat} {i : Nat} (hp : LsP qs) (hi : i < qs.length) : Lg (qs.getD i 0).num < 990 := by
  have h3 := (hp.2 _ (getD_mem (d := 0) hi)).1
  omega
theorem lcm_mul {qs : List Rat} {i : Nat} (hp : LsP qs) (hi : i < qs.length) : Lg ((lcmD (qs.take i) : Nat) : Int) + Lg ((qs.getD i 0).den : Int) < 1000000 := by
  have := lcmD_lg hp hi
  have := den_lg hp hi
  omega
theorem gcd_lg {qs : List Rat} {i : Nat} {a : Int} (hp : LsP qs) (hi : i < qs.length) : Lg ((Int.gcd a ((qs.getD i 0).den : Int) : Nat) : Int) < 9000 := by
  have h1 := lg_dvd (den_neI (qs.getD i 0)) (Int.gcd_dvd_right a ((qs.getD i 0).den : Int))
  have := den_lg hp hi
  omega
theorem stepMin_some (o : Option Rat) (q : Rat) : (stepMin o q).isNone = false := by
  unfold stepMin
  split
  · rfl
  · rename_i h
    cases o with
    | none => simp at h
    | some x => rfl
theorem stepMax_some (o : Option Rat) (q : Rat) : (stepMax o q).isNone = false := by
  unfold stepMax
  split
  · rfl
  · rename_i h
    cases o with
    | none => simp at h
    | some x => rfl
theorem minO_none {qs : List Rat} (h : qs ≠ []) : (minO qs).isNone = false := by
  unfold minO
  rw [← List.dropLast_concat_getLast h, List.foldl_append]
  exact stepMin_some _ _
theorem maxO_none {qs : List Rat} (h : qs ≠ []) : (maxO qs).isNone = false := by
  unfold maxO
  rw [← List.dropLast_concat_getLast h, List.foldl_append]
  exact stepMax_some _ _
theorem minO_in {qs : List Rat} (h : (minO qs).isNone = false) : (minO qs).getD 0 ∈ qs ∧ ∀ q ∈ qs, ¬ q.num * (((minO qs).getD 0).den : Int) < ((minO qs).getD 0).num * (q.den : Int) := by
  cases e : minO qs with
  | none => rw [e] at h; cases h
  | some m =>
    obtain ⟨h1, h2⟩ := minO_mem qs m e
    exact ⟨h1, fun q hq z => h2 q hq (Rat.lt_iff _ _ |>.mpr z)⟩
theorem maxO_in {qs : List Rat} (h : (maxO qs).isNone = false) : (maxO qs).getD 0 ∈ qs ∧ ∀ q ∈ qs, ¬ ((maxO qs).getD 0).num * (q.den : Int) < q.num * (((maxO qs).getD 0).den : Int) := by
  cases e : maxO qs with
  | none => rw [e] at h; cases h
  | some m =>
    obtain ⟨h1, h2⟩ := maxO_mem qs m e
    exact ⟨h1, fun q hq z => h2 q hq (Rat.lt_iff _ _ |>.mpr z)⟩
theorem two_mul {qs : List Rat} {i : Nat} {m : Rat} (hp : LsP qs) (hi : i < qs.length) (hm : m ∈ qs) : (Lg (qs.getD i 0).num + Lg (m.den : Int) < 1000000 ∧ Lg m.num + Lg ((qs.getD i 0).den : Int) < 1000000) ∧ (Lg m.num + Lg ((qs.getD i 0).den : Int) < 1000000 ∧ Lg (qs.getD i 0).num + Lg (m.den : Int) < 1000000) := by
  have := den_lg hp hi
  have := num_lg hp hi
  have h1 := (hp.2 m hm).1
  have h2 := (hp.2 m hm).2
  omega
end DL

set_option Elab.async false
set_option linter.all false
set_option maxRecDepth 100000
set_option maxHeartbeats 4000000
namespace DL
open PySem PySem.Spec PyProof.Rows L2
section
variable {X : Cx} {N : List Str} {sc : Scope} {k j : Nat} {Γ Γ' Γ1 : List Sl} {tg it a b c e o : Expr} {ifs es rest : List Expr} {r ra rb rc r' : Rep} {rs l l2 : List Rep} {pos p p2 apos : Pos} {x : Str} {i : Nat} {F0 H0 F1 F H : Hp} {σ : L2.St} {st body : List Stmt} {D : Ends}
/-! ### texts -/
variable {s t : Str}
/-- a constant of the module -/
theorem de_glob {v : V} (B : BX X N sc k) (hm : ∃ u, X.mg x = some u ∧ RelV v u) (hg : sc.names.lookup x = some .globalImplicit) (hd : (x == ("__debug__" : Str)) = false := by decide) : DE X Γ (.Name x pos) (rC v) := fun F0 H0 F H σ en Q q => by
  have hgl : Gl X x := by
    show X.env.scope.names.lookup x = _
    rw [B.hsc]
    exact hg
  obtain ⟨u, h1, h2⟩ := hm
  exact .of (pe_glob hgl h1 h2 hd) (q v F H (.refl en.gr.s) rfl)
theorem de_m0 {id : String} {name : Str} {f : V → List V → Hp → VK → Prop} {v : V} (slot : Slot "str" name id) (ty : typeOf (.builtin id) = pure (.type "method_descriptor")) (rule : MtR X id f) (ho : DE X Γ o (rStr s)) (h : ∀ H (Q : VK), Q v H → f (.str s) [] H Q)
    (hbase : attributeBase o name X.env (eval o X.env) = eval o X.env := by rfl) (hline : (apos.endLine == pos.line) = true := by rfl) : DE X Γ (.Call (.Attribute o name apos) [] [] pos) (rC v) := fun F0 H0 F H σ en Q q =>
  .of (pe_m0 slot ty rule pe_ev hbase hline) (ho F0 H0 F H σ en _ fun x F1 H1 g hx => by cases hx; exact ⟨⟨s, rfl⟩, h _ _ (q v F1 H1 g rfl)⟩)
theorem de_m1 {id : String} {name : Str} {f : V → List V → Hp → VK → Prop} {v : V} (slot : Slot "str" name id) (ty : typeOf (.builtin id) = pure (.type "method_descriptor")) (rule : MtR X id f) (ho : DE X Γ o (rStr s)) (he : DE X Γ e (rStr t)) (h : ∀ H (Q : VK), Q v H → f (.str s) [.str t] H Q)
    (hs : starEach [e] X.env = [(false, eval e X.env)] := by rfl) (hbase : attributeBase o name X.env (eval o X.env) = eval o X.env := by rfl) (hline : (apos.endLine == pos.line) = true := by rfl) : DE X Γ (.Call (.Attribute o name apos) [e] [] pos) (rC v) := fun F0 H0 F H σ en Q q =>
  .of (pe_m1 slot ty rule pe_ev pe_ev hs hbase hline) (ho F0 H0 F H σ en _ fun x F1 H1 g hx => by
    cases hx
    exact ⟨⟨s, rfl⟩, he F0 H0 F1 H1 σ (en.grow g) _ fun y F2 H2 g2 hy => by cases hy; exact h _ _ (q v F2 H2 (g.trans g2) rfl)⟩)
theorem de_isdigit (ho : DE X Γ o (rStr s)) (hbase : attributeBase o "isdigit" X.env (eval o X.env) = eval o X.env := by rfl) (hline : (apos.endLine == pos.line) = true := by rfl) : DE X Γ (.Call (.Attribute o "isdigit" apos) [] [] pos) (rBl (Txt.isdigit s)) :=
  de_m0 F.slot_str_isdigit F.type_str_isdigit mt_isdigit ho (fun H Q q => ⟨s, rfl, rfl, trivial, q⟩) hbase hline
theorem de_startswith (ho : DE X Γ o (rStr s)) (he : DE X Γ e (rStr t)) (hs : starEach [e] X.env = [(false, eval e X.env)] := by rfl) (hbase : attributeBase o "startswith" X.env (eval o X.env) = eval o X.env := by rfl) (hline : (apos.endLine == pos.line) = true := by rfl) :
    DE X Γ (.Call (.Attribute o "startswith" apos) [e] [] pos) (rBl (Txt.startswith s t)) :=
  de_m1 F.slot_str_startswith F.type_str_startswith mt_startswith ho he (fun H Q q => ⟨s, t, rfl, rfl, q⟩) hs hbase hline
theorem de_partition (hl : s.length ≤ sizeLine) (ht : (t.length == 0) = false) (ho : DE X Γ o (rStr s)) (he : DE X Γ e (rStr t)) (hs : starEach [e] X.env = [(false, eval e X.env)] := by rfl) (hbase : attributeBase o "partition" X.env (eval o X.env) = eval o X.env := by rfl) (hline : (apos.endLine == pos.line) = true := by rfl) :
    DE X Γ (.Call (.Attribute o "partition" apos) [e] [] pos) (rTup X.K [rStr (Txt.partition s t).1, rStr (Txt.partition s t).2.1, rStr (Txt.partition s t).2.2]) := fun F0 H0 F H σ en Q q =>
  .of (pe_m1 PySem.F.slot_str_partition PySem.F.type_str_partition mt_partition pe_ev pe_ev hs hbase hline) (ho F0 H0 F H σ en _ fun x F1 H1 g hx => by
    cases hx
    refine ⟨⟨s, rfl⟩, he F0 H0 F1 H1 σ (en.grow g) _ fun y F2 H2 g2 hy => ?_⟩
    cases hy
    exact ⟨s, t, rfl, rfl, ht, hl, fun p hp => q (.ref p) _ _ ((g.trans g2).trans (.new g2.s hp)) ⟨p, _, rfl, SqT.of upd_same, .cons rfl (.cons rfl (.cons rfl .nil))⟩⟩)
theorem de_sliceS {lo hi : Option Expr} {ol oh : Option Int} (hl : s.length ≤ sizeLine) (h : DE X Γ e (rStr s)) (h1 : DO X Γ lo ol) (h2 : DO X Γ hi oh) : DE X Γ (.Subscript e (.Slice lo hi none p2) pos) (rStr (cutS s ol oh)) := fun F0 H0 F H σ en Q q => by
  have part : ∀ {o : Option Expr} {w : Option Int}, DO X Γ o w → ∃ t, PO X o t ∧ ∀ F H, En F0 H0 F H σ Γ → ∀ R : Option Int → Hp → Prop, (∀ F' H', Gr F H F' H' → R w H') → t σ H R := fun {o w} hd => by
    match o, w, hd with
    | none, none, _ => exact ⟨_, po_none, fun F H en R q => q F H (.refl en.gr.s)⟩
    | some e, some n, hd => exact ⟨_, po_some pe_ev, fun F H en R q => hd F0 H0 F H σ en _ fun v F' H' g hv => ⟨n, hv, q F' H' g⟩⟩
    | none, some _, hd => exact hd.elim
    | some _, none, hd => exact hd.elim
  obtain ⟨t1, q1, w1⟩ := part h1
  obtain ⟨t2, q2, w2⟩ := part h2
  refine .of (pe_slice sl_str pe_ev q1 q2) (h F0 H0 F H σ en _ fun v F1 H1 g hv => w1 F1 H1 (en.grow g) _ fun F2 H2 g2 => w2 F2 H2 ((en.grow g).grow g2) _ fun F3 H3 g3 => ?_)
  cases hv
  exact ⟨s, rfl, hl, q _ F3 H3 ((g.trans g2).trans g3) rfl⟩
theorem de_catS (hl : s.length + t.length ≤ sizeLine) (ha : DE X Γ a (rStr s)) (hb : DE X Γ b (rStr t)) : DE X Γ (.BinOp a .Add b pos) (rStr (s ++ t)) := de_op op_add_str (fun F H x y sm h1 h2 Q q => by
  cases h1
  cases h2
  exact ⟨s, t, rfl, rfl, hl, q _ F H (.refl sm) rfl⟩) ha hb
theorem de_strI {n : Int} (B : BX X N sc k) (hm : X.mg "str" = none) (hn : Lg n < 1920) (ha : DE X Γ a (rInt n)) (hg : sc.names.lookup ("str" : Str) = some NameKind.globalImplicit)
    (he : starEach (a :: []) X.env = (false, eval a X.env) :: starEach [] X.env := by rfl) : DE X Γ (.Call (.Name "str" p) [a] [] pos) (rStr (toString n)) :=
  de_bty B call_str_int (fun F H vs sm hv Q q => by
    obtain ⟨v, rfl, k1⟩ := rl1 hv
    cases k1
    exact ⟨n, rfl, hn, q _ F H (.refl sm) rfl⟩) hm (by decide +kernel) (da_cons ha da_nil he) hg (he := he)
theorem de_intS {n : Int} (B : BX X N sc k) (hm : X.mg "int" = none) (hn : PySem.intText? s = some n) (hl : s.length ≤ 640) (ha : DE X Γ a (rStr s)) (hg : sc.names.lookup ("int" : Str) = some NameKind.globalImplicit)
    (he : starEach (a :: []) X.env = (false, eval a X.env) :: starEach [] X.env := by rfl) : DE X Γ (.Call (.Name "int" p) [a] [] pos) (rInt n) :=
  de_bty B call_int_str (fun F H vs sm hv Q q => by
    obtain ⟨v, rfl, k1⟩ := rl1 hv
    cases k1
    exact ⟨s, n, rfl, hn, hl, q _ F H (.refl sm) rfl⟩) hm (by decide +kernel) (da_cons ha da_nil he) hg (he := he)
theorem de_lenS (B : BX X N sc k) (hm : X.mg "len" = none) (hl : s.length ≤ sizeLine) (ha : DE X Γ a (rStr s)) (hg : sc.names.lookup ("len" : Str) = some NameKind.globalImplicit)
    (he : starEach (a :: []) X.env = (false, eval a X.env) :: starEach [] X.env := by rfl) : DE X Γ (.Call (.Name "len" p) [a] [] pos) (rInt s.length) :=
  de_blt B call_len_str (fun F H vs sm hv Q q => by
    obtain ⟨v, rfl, k1⟩ := rl1 hv
    cases k1
    exact ⟨s, rfl, hl, q _ F H (.refl sm) rfl⟩) hm PySem.boot_len (da_cons ha da_nil he) hg (he := he)
theorem vstr_dec : decide (V.str s = V.str t) = decide (s = t) := by
  by_cases h : s = t
  · rw [decide_eq_true h, h, decide_eq_true rfl]
  · rw [decide_eq_false h, decide_eq_false fun z => h (V.str.inj z)]
theorem b2_eqS : B2 rEq (rStr s) (rStr t) (rBl (decide (s = t))) := by
  have h := b2_eq (x := .str s) (y := .str t) rfl
  rw [vstr_dec] at h
  exact h
theorem b2_neS : B2 rNe (rStr s) (rStr t) (rBl (!decide (s = t))) := by
  have h := b2_ne (x := .str s) (y := .str t) rfl
  rw [vstr_dec] at h
  exact h
theorem dt_eqS (ha : DE X Γ a (rStr s)) (hb : DE X Γ b (rStr t)) : DT X Γ (.Compare a [.Eq] [b] pos) (decide (s = t)) := dt_cmp op_eq b2_eqS ha hb (nomark _)
theorem dt_neS (ha : DE X Γ a (rStr s)) (hb : DE X Γ b (rStr t)) : DT X Γ (.Compare a [.NotEq] [b] pos) (!decide (s = t)) := dt_cmp op_ne b2_neS ha hb (nomark _)
theorem de_eqS (ha : DE X Γ a (rStr s)) (hb : DE X Γ b (rStr t)) : DE X Γ (.Compare a [.Eq] [b] pos) (rBl (decide (s = t))) := de_cmp op_eq b2_eqS ha hb (nomark _)
theorem de_neS (ha : DE X Γ a (rStr s)) (hb : DE X Γ b (rStr t)) : DE X Γ (.Compare a [.NotEq] [b] pos) (rBl (!decide (s = t))) := de_cmp op_ne b2_neS ha hb (nomark _)
/-- a text by its truth -/
theorem dt_truS (hl : s.length ≤ sizeLine) (h : DE X Γ e (rStr s)) (he : ∀ whole, isTrue e X.env whole = (do let v ← whole; standAt e.pos; holding [v] (truthy v)) := by intro _; rfl) : DT X Γ e ((s.length : Int) != 0) := fun F0 H0 F H σ en Q q =>
  .of (pt_truth pe_ev he) (h F0 H0 F H σ en _ fun v F' H' g hv => by cases hv; exact ⟨_, ⟨hl, rfl⟩, q F' H' g⟩)
/-- f'{i}/{j}' and its like: texts and ints, joined -/
def DJ (X : Cx) (Γ : List Sl) (es : List Expr) (out : Str → Str) : Prop := ∃ ts, PJ X es ts ∧ ∀ (acc : Str) F0 H0 F H σ, En F0 H0 F H σ Γ → ∀ Q : Str → Hp → Prop, (∀ F' H', Gr F H F' H' → Q (out acc) H') → acc.length + 1000000 ≤ sizeLine → tJs ts acc σ H Q
theorem de_fstr2 {n m : Int} {w : Str} {j2 : Nat} {pa pb pc : Pos} (hn : Lg n < 1920) (hm : Lg m < 1920) (hw : (((Str.empty ++ (toString n : Str)) ++ w) ++ (toString m : Str)).length ≤ sizeLine) (h1 : DE X Γ a (rInt n)) (h2 : DE X Γ b (rInt m)) :
    DE X Γ (.JoinedStr [.FormattedValue a (-1) none pa, .Constant (.str w) j2 pb, .FormattedValue b (-1) none pc] pos) (rStr (((Str.empty ++ (toString n : Str)) ++ w) ++ (toString m : Str))) := fun F0 H0 F H σ en Q q => by
  have al : ∀ x y : Str, (x ++ y).length = x.length + y.length := fun x y => by simp [TL.len_tl, TL.tl_append]
  refine .of (pe_joined (.cons (pe_fmt pe_ev) (.cons pe_str (.cons (pe_fmt pe_ev) .nil)))) ?_
  refine h1 F0 H0 F H σ en _ fun v F1 H1 g1 hv => .inr ⟨n, hv, hn, _, rfl, ?_, ?_⟩
  · rw [al, al] at hw
    omega
  refine ⟨_, rfl, ?_, ?_⟩
  · rw [al] at hw
    omega
  refine h2 F0 H0 F1 H1 σ (en.grow g1) _ fun v2 F2 H2 g2 hv2 => .inr ⟨m, hv2, hm, _, rfl, hw, ?_⟩
  exact q _ F2 H2 (g1.trans g2) rfl
def rMulS : R2 := fun x y H Q => ∃ (s : Str) (n : Int), x = .str s ∧ y = .int n ∧ MulOk s n ∧ Q (.str (Txt.mul s n)) H
theorem op_mulS : OpR X (binaryOp .Mult) rMulS := by
  intro pins s σ H x y v u Q I r1 r2 h
  obtain ⟨z, n, rfl, rfl, hc, q⟩ := h
  obtain ⟨t, rfl⟩ := r1
  obtain ⟨t2, rfl⟩ := r2
  exact SB.mul hc fun t' k => ⟨.str _, H, I.tok _, ⟨_, rfl⟩, q⟩
theorem de_mulS {n : Int} (hc : MulOk s n) (ha : DE X Γ a (rStr s)) (hb : DE X Γ b (rInt n)) : DE X Γ (.BinOp a .Mult b pos) (rStr (Txt.mul s n)) := de_op op_mulS (fun F H x y sm h1 h2 Q q => by
  cases h1
  cases h2
  exact ⟨s, n, rfl, rfl, hc, q _ F H (.refl sm) rfl⟩) ha hb
end
end DL

set_option linter.all false
set_option maxRecDepth 100000
set_option maxHeartbeats 4000000
namespace DL
open PySem L2 TL
/-! ### numbers as texts -/
def mns : Str := "-"
def sls : Str := "/"
def numText (q : Rat) : Str := if q.den = 1 then ((toString q.num : String) : Str) else ((Str.empty ++ ((toString q.num : String) : Str)) ++ ("/" : Str)) ++ ((toString (q.den : Int) : String) : Str)
def sgnL (i : Int) : List Nat := if i < 0 then [45] else []
theorem tl_int (i : Int) : tl (((toString i : String)) : Str) = sgnL i ++ numL i.natAbs := by
  cases i with
  | ofNat n => exact tl_num n
  | negSucc m =>
    show tl (Str.ofString ("-" ++ toString (m + 1))) = _
    rw [tl_ofString, String.toList_append, List.map_append]
    have := tl_num (m + 1)
    rw [tl_ofString] at this
    have e : (toString ((m + 1 : Nat) : Int) : String) = toString (m + 1) := rfl
    rw [e] at this
    rw [this, show sgnL (Int.negSucc m) = [45] from if_pos (Int.negSucc_lt_zero m)]
    rfl
theorem tl_empty : tl Str.empty = [] := rfl
theorem tl_numText (q : Rat) : tl (numText q) = sgnL q.num ++ (numL q.num.natAbs ++ if q.den = 1 then [] else 47 :: numL q.den) := by
  unfold numText
  by_cases h : q.den = 1
  · rw [if_pos h, if_pos h, List.append_nil]
    exact tl_int _
  · rw [if_neg h, if_neg h, tl_append, tl_append, tl_append, tl_int, tl_int, tl_empty]
    have e1 : tl (("/" : Str)) = [47] := rfl
    have e2 : sgnL (q.den : Int) = [] := if_neg (by omega)
    rw [e1, e2]
    simp
theorem numL_small {n k : Nat} (hk : 0 < k) (h : n < 2 ^ k) : (numL n).length ≤ k := numL_len hk (Nat.lt_of_lt_of_le h (Nat.pow_le_pow_left (by decide) k))
theorem digit_of {c : Nat} (h : 48 ≤ c ∧ c ≤ 57) : Unicode.isDigit c = true := by
  have : ∀ c : Nat, c < 58 → 48 ≤ c → Unicode.isDigit c = true := by decide +kernel
  exact this c (by omega) h.1
theorem isdigit_of {x : Str} (h : NumText.AllDigits (tl x)) (h1 : tl x ≠ []) : Txt.isdigit x = true := by
  unfold Txt.isdigit
  have h2 : 0 < x.length := by
    rw [len_tl]
    exact List.length_pos_iff.mpr h1
  rw [Bool.and_eq_true]
  refine ⟨decide_eq_true h2, ?_⟩
  rw [← Array.all_toList, List.all_eq_true]
  exact fun c hc => digit_of (h c hc)
theorem isdigit_no {x : Str} {c : Nat} (h : c ∈ tl x) (hc : Unicode.isDigit c = false) : Txt.isdigit x = false := by
  unfold Txt.isdigit
  rw [Bool.and_eq_false_iff]
  refine .inr ?_
  rw [← Array.all_toList, List.all_eq_false]
  exact ⟨c, h, by rw [hc]; exact Bool.false_ne_true⟩
/-! ### the reading of a number -/
def isBdn (x : Str) : Bool := (!Txt.isdigit x) || decide ((400 : Int) < (x.length : Int))
def isNumr (x : Str) : Bool := (!isBdn x) && (decide (x = ("0" : Str)) || !Txt.startswith x ("0" : Str))
theorem numr_t {x : Str} (h : isBdn x = true) : isNumr x = false := by unfold isNumr; rw [h]; rfl
theorem numr_f {x : Str} (h : isBdn x = false) : isNumr x = (decide (x = ("0" : Str)) || !Txt.startswith x ("0" : Str)) := by unfold isNumr; rw [h]; rfl
def pNeg (x : Str) : Bool := Txt.startswith x ("-" : Str)
def pUns (x : Str) : Str := if pNeg x = true then cutS x (some 1) none else x
def pTop (x : Str) : Str := (Txt.partition (pUns x) ("/" : Str)).1
def pSls (x : Str) : Str := (Txt.partition (pUns x) ("/" : Str)).2.1
def pBot (x : Str) : Str := if ((pSls x).length : Int) = 0 then ("1" : Str) else (Txt.partition (pUns x) ("/" : Str)).2.2
def pBad (x : Str) : Bool := (!isNumr (pTop x)) || ((!isNumr (pBot x)) || decide (pBot x = ("0" : Str)))
def pInt (x : Str) : Int := (intText? x).getD 0
def pAbs (x : Str) : Rat := ((pInt (pTop x) : Int) : Rat) / ((pInt (pBot x) : Int) : Rat)
def pNum (x : Str) : Rat := if pNeg x = true then ((0 : Int) : Rat) - pAbs x else pAbs x
def parse (x : Str) : Option Rat := if pBad x = true then none else if numText (pNum x) = x then some (pNum x) else none
/-- what is asked of a text that is read -/
structure RdOk (x : Str) : Prop where
  len : x.length ≤ 100000
  num : pBad x = false → intText? (pTop x) = some (pInt (pTop x)) ∧ intText? (pBot x) = some (pInt (pBot x)) ∧ pInt (pBot x) ≠ 0 ∧ Lg (pInt (pTop x)) ≤ 1400 ∧ Lg (pInt (pBot x)) ≤ 1400
theorem isNumr_len {x : Str} (h : isNumr x = true) : x.length ≤ 640 := by
  cases e : isBdn x with
  | true => rw [numr_t e] at h; cases h
  | false =>
    unfold isBdn at e
    rw [Bool.or_eq_false_iff] at e
    have := of_decide_eq_false e.2
    omega
theorem pNum_sz {x : Str} (h : RdOk x) (hb : pBad x = false) : Sz 1402 (pAbs x) ∧ Sz 1404 (pNum x) := by
  obtain ⟨_, _, h3, h4, h5⟩ := h.num hb
  have h1 : Sz 1400 (pAbs x) := sz_ratio h3 h4 h5
  refine ⟨h1.mono (by decide), ?_⟩
  unfold pNum
  split
  · exact (sz_sub (sz_zero 0) h1).mono (by decide)
  · exact h1.mono (by decide)
/-! ### a number's own text is read back -/
theorem sw_head {x y : Str} {c d : Nat} {r : List Nat} (h : tl x = c :: r) (ty : tl y = [d]) : Txt.startswith x y = decide (c = d) := by
  unfold Txt.startswith
  have hl : x.length = r.length + 1 := by rw [len_tl, h]; rfl
  have ly : y.length = 1 := by rw [len_tl, ty]; rfl
  have hy : tl y ≠ [] := by rw [ty]; simp
  rw [ly, hl, decide_eq_true (by omega : 0 + 1 ≤ r.length + 1), Bool.true_and]
  have k := at_iff (x := x) hy 0
  rw [List.drop_zero, ty, h] at k
  have p : pre [d] (c :: r) = decide (c = d) := by
    unfold pre
    by_cases hc : c = d
    · subst hc; simp
    · rw [decide_eq_false hc]
      simp [hc]
  rw [p] at k
  cases e : Builtin.Str.subAt x y 0 with
  | true => rw [k.mp ⟨by rw [hl, ly]; omega, e⟩]
  | false =>
    by_cases hc : c = d
    · rw [(k.mpr (decide_eq_true hc)).2] at e; cases e
    · rw [decide_eq_false hc]
theorem neg_head {x : Str} {c : Nat} {r : List Nat} (h : tl x = c :: r) : pNeg x = decide (c = 45) := sw_head h rfl
theorem head_nz (n : Nat) (hn : n ≠ 0) : ∃ c r, numL n = c :: r ∧ c ≠ 48 := by
  induction n using Nat.strongRecOn with
  | ind n ih =>
    by_cases h : n < 10
    · exact ⟨48 + n, [], numL_lt h, by omega⟩
    · obtain ⟨c, r, e, hc⟩ := ih (n / 10) (by omega) (by omega)
      exact ⟨c, r ++ [48 + n % 10], by rw [numL_step (by omega), e]; rfl, hc⟩
theorem head_ok {x : Str} {n : Nat} (h : tl x = numL n) : (decide (x = ("0" : Str)) || !Txt.startswith x ("0" : Str)) = true := by
  by_cases hn : n = 0
  · have : x = ("0" : Str) := ext_tl (by rw [h, hn, numL_lt (by decide)]; rfl)
    rw [decide_eq_true this]; rfl
  · obtain ⟨c, r, e, hc⟩ := head_nz n hn
    rw [sw_head (d := 48) (h.trans e) rfl, decide_eq_false hc]
    simp
theorem cut_one (x : Str) : tl (cutS x (some 1) none) = (tl x).drop 1 := by
  show (tl x |>.drop (HT.sIx x.length 0 (some ((1 : Nat) : Int))) |>.take (HT.sIx x.length x.length none - HT.sIx x.length 0 (some ((1 : Nat) : Int)))) = _
  rw [HT.sIx_nat, HT.sIx_none]
  by_cases h : 1 ≤ x.length
  · rw [Nat.min_eq_left h, List.take_of_length_le (by rw [List.length_drop, ← len_tl]; omega)]
  · have h0 : tl x = [] := List.eq_nil_of_length_eq_zero (by rw [← len_tl]; omega)
    rw [h0]; simp
theorem head_num (n : Nat) : ∃ c r, numL n = c :: r ∧ c ≠ 45 := by
  cases e : numL n with
  | nil => exact absurd e (numL_ne n)
  | cons c r => exact ⟨c, r, rfl, by have := numL_digits n c (by rw [e]; exact List.mem_cons_self); omega⟩
/-- a text: a sign, digits, and what is behind -/
theorem neg_uns {x : Str} {i : Int} {n : Nat} {r : List Nat} (h : tl x = sgnL i ++ (numL n ++ r)) : pNeg x = decide (i < 0) ∧ tl (pUns x) = numL n ++ r := by
  obtain ⟨c, r0, e, hc⟩ := head_num n
  by_cases hi : i < 0
  · have h1 : tl x = 45 :: (numL n ++ r) := by rw [h, sgnL, if_pos hi]; rfl
    have h2 := neg_head h1
    refine ⟨by rw [h2, decide_eq_true rfl, decide_eq_true hi], ?_⟩
    unfold pUns
    rw [h2, if_pos (by simp), cut_one, h1]
    rfl
  · have h1 : tl x = c :: (r0 ++ r) := by rw [h, sgnL, if_neg hi, e]; rfl
    have h2 := neg_head h1
    rw [decide_eq_false hc] at h2
    refine ⟨by rw [h2, decide_eq_false hi], ?_⟩
    unfold pUns
    rw [h2, if_neg Bool.false_ne_true, h, sgnL, if_neg hi]
    rfl
theorem sls_tl : tl (("/" : Str)) = 47 :: [] := rfl
theorem not_sls {l : List Nat} (h : NumText.AllDigits l) : 47 ∉ l := fun z => by have := h 47 z; omega
theorem parts_whole {x : Str} {i : Int} {n : Nat} (h : tl x = sgnL i ++ (numL n ++ [])) : pTop x = pUns x ∧ tl (pTop x) = numL n ∧ pBot x = ("1" : Str) := by
  obtain ⟨_, hu⟩ := neg_uns h
  rw [List.append_nil] at hu
  have hp := partition_none (y := ("/" : Str)) sls_tl (a := pUns x) (by rw [hu]; exact not_sls (numL_digits n))
  have ht : pTop x = pUns x := by unfold pTop; rw [hp]
  refine ⟨ht, by rw [ht, hu], ?_⟩
  unfold pBot pSls
  rw [hp]
  exact if_pos rfl
theorem parts_pair {x : Str} {i : Int} {n : Nat} {r : List Nat} (h : tl x = sgnL i ++ (numL n ++ 47 :: r)) : tl (pTop x) = numL n ∧ tl (pBot x) = r := by
  obtain ⟨_, hu⟩ := neg_uns h
  have hp : Txt.partition (pUns x) ("/" : Str) = (⟨(numL n).toArray⟩, ("/" : Str), ⟨r.toArray⟩) := by
    rw [partition_par _ _ (by rw [sls_tl]; simp), sls_tl, hu]
    have := par_part1 (s := 47) (S := []) (p := numL n) (rest := r) (acc := []) (not_sls (numL_digits n))
    simp only [List.singleton_append, List.nil_append] at this
    rw [this]
  refine ⟨by unfold pTop; rw [hp], ?_⟩
  unfold pBot pSls
  rw [hp]
  have hl : ¬ (((("/" : Str)).length : Int) = 0) := by decide
  rw [if_neg hl]
theorem lg_nat {n k : Nat} (h : Lg (n : Int) < k) : n < 2 ^ k := by
  have := lg_lt h
  simpa using this
theorem numr_numG {x : Str} {n : Nat} (h : tl x = numL n) (hn : n < 10 ^ 400) : isNumr x = true ∧ intText? x = some (n : Int) ∧ pInt x = n := by
  have hl : x.length ≤ 400 := by rw [len_tl, h]; exact numL_len (by decide) hn
  have hd : NumText.AllDigits (tl x) := by rw [h]; exact numL_digits n
  have hne : tl x ≠ [] := by rw [h]; exact numL_ne n
  have hi : intText? x = some (n : Int) := by
    have := intText_digits (x := x) hd hne (by omega)
    rw [this]
    show some ((NumText.digitsVal (tl x) : Nat) : Int) = _
    rw [h, numL_val]
  refine ⟨?_, hi, by unfold pInt; rw [hi]; rfl⟩
  have hb : isBdn x = false := by
    unfold isBdn
    rw [isdigit_of hd hne, decide_eq_false (by omega)]
    rfl
  rw [numr_f hb]
  exact head_ok h
theorem p400 : (2 : Nat) ^ 400 ≤ 10 ^ 400 := Nat.pow_le_pow_left (by decide) 400
theorem p1400 : (10 : Nat) ^ 400 ≤ 2 ^ 1400 := by decide +kernel
theorem lg1400 {i : Int} (h : i.natAbs < 10 ^ 400) : Lg i ≤ 1400 := Nat.le_of_lt (lg_of (n := 1400) (by decide) (Nat.lt_of_lt_of_le h p1400))
theorem numr_num {x : Str} {n : Nat} (h : tl x = numL n) (hn : Lg (n : Int) < 400) : isNumr x = true ∧ intText? x = some (n : Int) ∧ pInt x = n := numr_numG h (Nat.lt_of_lt_of_le (lg_nat hn) p400)
theorem one_num : isNumr ("1" : Str) = true ∧ intText? ("1" : Str) = some 1 ∧ pInt ("1" : Str) = 1 := by
  have := numr_num (x := ("1" : Str)) (n := 1) (by rw [numL_lt (by decide)]; rfl) (by decide)
  exact this
theorem abs_div {q : Rat} : (((q.num.natAbs : Int) : Rat) / (((q.den : Int)) : Rat)) = if q.num < 0 then -q else q := by
  have e := q_eq q
  have d := den_ne q
  generalize ((q.den : Int) : Rat) = dd at *
  by_cases h : q.num < 0
  · rw [if_pos h]
    have h2 : ((q.num.natAbs : Int)) = -q.num := by omega
    rw [h2, Rat.intCast_neg]
    generalize (q.num : Rat) = n at *
    grind
  · rw [if_neg h]
    have h2 : ((q.num.natAbs : Int)) = q.num := by omega
    rw [h2]
    exact e.symm
/-- the number's own text is read as this number -/
theorem parse_numG {q : Rat} (hn : q.num.natAbs < 10 ^ 400) (hd : q.den < 10 ^ 400) : RdOk (numText q) ∧ parse (numText q) = some q := by
  have ht := tl_numText q
  have hlen : (numText q).length ≤ 1000 := by
    rw [len_tl, ht]
    have h1 := numL_len (by decide) hn
    have h2 := numL_len (by decide) hd
    have h3 : (sgnL q.num).length ≤ 1 := by unfold sgnL; split <;> simp
    rw [List.length_append, List.length_append]
    split <;> simp <;> omega
  have key : pNeg (numText q) = decide (q.num < 0) ∧ pBad (numText q) = false ∧ intText? (pTop (numText q)) = some (pInt (pTop (numText q))) ∧ intText? (pBot (numText q)) = some (pInt (pBot (numText q))) ∧ pInt (pTop (numText q)) = q.num.natAbs ∧ pInt (pBot (numText q)) = q.den := by
    by_cases h : q.den = 1
    · rw [if_pos h] at ht
      obtain ⟨_, h2, h3⟩ := parts_whole ht
      obtain ⟨a1, a2, a3⟩ := numr_numG h2 hn
      obtain ⟨b1, b2, b3⟩ := one_num
      refine ⟨(neg_uns ht).1, ?_, by rw [a3]; exact a2, by rw [h3, b3]; exact b2, a3, by rw [h3, b3, h]; rfl⟩
      unfold pBad
      rw [a1, h3, b1]
      decide
    · rw [if_neg h] at ht
      obtain ⟨h2, h3⟩ := parts_pair ht
      obtain ⟨a1, a2, a3⟩ := numr_numG h2 hn
      obtain ⟨b1, b2, b3⟩ := numr_numG h3 hd
      refine ⟨(neg_uns ht).1, ?_, by rw [a3]; exact a2, by rw [b3]; exact b2, a3, b3⟩
      unfold pBad
      rw [a1, b1]
      have : pBot (numText q) ≠ ("0" : Str) := fun z => by
        rw [z] at b2
        have e0 : intText? ("0" : Str) = some 0 := (numr_num (x := ("0" : Str)) (n := 0) (by rw [numL_lt (by decide)]; rfl) (by decide)).2.1
        rw [e0] at b2
        have := Option.some.inj b2
        have := q.den_nz
        omega
      rw [decide_eq_false this]
      rfl
  obtain ⟨k1, k2, k3, k4, k5, k6⟩ := key
  refine ⟨⟨by omega, fun _ => ⟨k3, k4, by rw [k6]; exact den_neI q, by rw [k5]; exact lg1400 hn, by rw [k6]; exact lg1400 hd⟩⟩, ?_⟩
  have hp : pNum (numText q) = q := by
    unfold pNum pAbs
    rw [k1, k5, k6, abs_div]
    by_cases h : q.num < 0
    · rw [decide_eq_true h, if_pos rfl, if_pos h]
      have e0 : ((0 : Int) : Rat) = 0 := rfl
      rw [e0]
      grind
    · rw [decide_eq_false h, if_neg Bool.false_ne_true, if_neg h]
  unfold parse
  rw [k2, if_neg Bool.false_ne_true, hp, if_pos rfl]
theorem parse_numText {q : Rat} (hq : Sz 390 q) : RdOk (numText q) ∧ parse (numText q) = some q := by
  have hn : Lg ((q.num.natAbs : Nat) : Int) < 400 := by
    have : Lg ((q.num.natAbs : Nat) : Int) ≤ Lg q.num := lg_le (by simp)
    have := hq.1
    omega
  have hd : Lg (q.den : Int) < 400 := by have := hq.2; omega
  exact parse_numG (Nat.lt_of_lt_of_le (lg_nat hn) p400) (Nat.lt_of_lt_of_le (lg_nat hd) p400)
/-- with more behind it no number is read -/
theorem parse_more {q : Rat} (hq : Sz 390 q) : RdOk (numText q ++ ("/7/9" : Str)) ∧ parse (numText q ++ ("/7/9" : Str)) = none := by
  have hn : Lg ((q.num.natAbs : Nat) : Int) < 400 := by
    have : Lg ((q.num.natAbs : Nat) : Int) ≤ Lg q.num := lg_le (by simp)
    have := hq.1
    omega
  have hd : Lg (q.den : Int) < 400 := by have := hq.2; omega
  have ht := tl_numText q
  have hs : tl (("/7/9" : Str)) = [47, 55, 47, 57] := rfl
  obtain ⟨r, hr, h47⟩ : ∃ r, tl (numText q ++ ("/7/9" : Str)) = sgnL q.num ++ (numL q.num.natAbs ++ 47 :: r) ∧ 47 ∈ r := by
    rw [tl_append, ht, hs]
    by_cases h : q.den = 1
    · exact ⟨[55, 47, 57], by rw [if_pos h]; simp, by simp⟩
    · exact ⟨numL q.den ++ [47, 55, 47, 57], by rw [if_neg h]; simp, by simp⟩
  have hlen : (numText q ++ ("/7/9" : Str)).length ≤ 1004 := by
    rw [len_tl, tl_append, List.length_append, hs, ht]
    have h1 := numL_small (by decide) (lg_nat hn)
    have h2 := numL_small (by decide) (lg_nat hd)
    have h3 : (sgnL q.num).length ≤ 1 := by unfold sgnL; split <;> simp
    rw [List.length_append, List.length_append]
    split <;> simp <;> omega
  obtain ⟨h2, h3⟩ := parts_pair hr
  have hb : pBad (numText q ++ ("/7/9" : Str)) = true := by
    have : isNumr (pBot (numText q ++ ("/7/9" : Str))) = false := by
      refine numr_t ?_
      unfold isBdn
      rw [isdigit_no (c := 47) (by rw [h3]; exact h47) (by decide +kernel)]
      rfl
    unfold pBad
    rw [this]
    simp
  refine ⟨⟨by omega, fun z => by rw [hb] at z; cases z⟩, ?_⟩
  unfold parse
  rw [if_pos hb]
end DL

set_option Elab.async false
set_option linter.all false
set_option maxRecDepth 100000
set_option maxHeartbeats 4000000
namespace DL
open PySem PySem.Spec PyProof.Rows L2 TL
section
variable {X : Cx} {N : List Str} {sc : Scope} {k j : Nat} {Γ Γ' Γ1 : List Sl} {a b c e o : Expr} {r ra rb rc r' : Rep} {pos p p2 apos : Pos} {x : Str} {i : Nat} {s t : Str}
theorem de_ifD {u : Bool} (h : DT X Γ c u) (h1 : u = true → DE X Γ a ra) (h2 : u = false → DE X Γ b rb) (e1 : u = true → ra = r) (e2 : u = false → rb = r) : DE X Γ (.IfExp c a b pos) r :=
  de_if h (fun z => (h1 z).to (e1 z)) (fun z => (h2 z).to (e2 z))
end
theorem str_len {i : Int} {k : Nat} (h : Lg i < k) : ((toString i : String) : Str).length ≤ k + 1 := by
  rw [len_tl, tl_int, List.length_append]
  have h1 : i.natAbs < 2 ^ k := lg_lt h
  have h2 := numL_small (k := k) (by omega) h1
  have h3 : (sgnL i).length ≤ 1 := by unfold sgnL; split <;> simp
  omega
theorem app_len (x y : Str) : (x ++ y).length = x.length + y.length := by simp [TL.len_tl, TL.tl_append]
theorem fstr_len {q : Rat} (hp : Sz 1900 q) : (((Str.empty ++ ((toString q.num : String) : Str)) ++ ("/" : Str)) ++ ((toString (q.den : Int) : String) : Str)).length ≤ sizeLine := by
  rw [app_len, app_len, app_len]
  have h1 := str_len (k := 1901) (i := q.num) (by have := hp.1; omega)
  have h2 := str_len (k := 1901) (i := (q.den : Int)) (by have := hp.2; omega)
  have h3 : (("/" : Str)).length = 1 := rfl
  have h4 : Str.empty.length = 0 := rfl
  have h5 : 1000000 ≤ sizeLine := by decide
  omega
theorem rdok_nil {x : Str} (h : x.length ≤ 100000) (hb : pBad x = true) : RdOk x ∧ parse x = none := by
  refine ⟨⟨h, fun z => by rw [hb] at z; cases z⟩, ?_⟩
  unfold parse
  rw [if_pos hb]
theorem isNumr_le {x : Str} (h : isNumr x = true) : x.length ≤ 640 := isNumr_len h
theorem pBad_f {x : Str} (h : pBad x = false) : isNumr (pTop x) = true ∧ isNumr (pBot x) = true ∧ pBot x ≠ ("0" : Str) := by
  unfold pBad at h
  rw [Bool.or_eq_false_iff, Bool.or_eq_false_iff] at h
  exact ⟨by simpa using h.1, by simpa using h.2.1, of_decide_eq_false h.2.2⟩
theorem cut_len {x : Str} : (pUns x).length ≤ x.length := by
  unfold pUns
  split
  · rw [len_tl, cut_one, List.length_drop, ← len_tl]; omega
  · exact Nat.le_refl _
theorem par_len : ∀ (S l acc a b : List Nat), par S acc l = some (a, b) → a.length + b.length ≤ acc.length + l.length
  | _, [], _, _, _, h => by cases h
  | S, c :: r, acc, a, b, h => by
    unfold par at h
    split at h
    · cases h; simp [List.length_drop]
    · have := par_len S r (acc ++ [c]) a b h
      simp at this ⊢
      omega
theorem part_len (x : Str) : (Txt.partition x ("/" : Str)).1.length ≤ x.length ∧ (Txt.partition x ("/" : Str)).2.1.length ≤ 1 ∧ (Txt.partition x ("/" : Str)).2.2.length ≤ x.length := by
  rw [partition_par x ("/" : Str) (by rw [sls_tl]; simp)]
  cases h : par (tl ("/" : Str)) [] (tl x) with
  | none => exact ⟨Nat.le_refl _, Nat.zero_le _, Nat.zero_le _⟩
  | some ab =>
    obtain ⟨a, b⟩ := ab
    have h1 := par_len _ _ _ _ _ h
    rw [List.length_nil, Nat.zero_add, ← len_tl] at h1
    refine ⟨?_, Nat.le_refl 1, ?_⟩
    · exact Nat.le_trans (Nat.le_add_right a.length b.length) h1
    · exact Nat.le_trans (Nat.le_add_left b.length a.length) h1
section
variable {x : Str}
theorem pTop_le (h : RdOk x) : (pTop x).length ≤ 100000 := Nat.le_trans (part_len _).1 (Nat.le_trans cut_len h.len)
theorem pRest_le (h : RdOk x) : (Txt.partition (pUns x) ("/" : Str)).2.2.length ≤ 100000 := Nat.le_trans (part_len _).2.2 (Nat.le_trans cut_len h.len)
theorem pBot_t (h : ((Txt.partition (pUns x) ("/" : Str)).2.1.length : Int) = 0) : pBot x = ("1" : Str) := if_pos h
theorem pBot_f (h : ¬ ((Txt.partition (pUns x) ("/" : Str)).2.1.length : Int) = 0) : pBot x = (Txt.partition (pUns x) ("/" : Str)).2.2 := if_neg h
theorem pBad_is {b : Str} (hb : pBot x = b) : pBad x = ((!isNumr (Txt.partition (pUns x) ("/" : Str)).1) || ((!isNumr b) || decide (b = ("0" : Str)))) := by unfold pBad; rw [hb]; rfl
structure PF (x b : Str) : Prop where
  it : intText? (Txt.partition (pUns x) ("/" : Str)).1 = some (pInt (pTop x))
  ib : intText? b = some (pInt (pBot x))
  nz : pInt (pBot x) ≠ 0
  lt : Lg (pInt (pTop x)) ≤ 1400
  lb : Lg (pInt (pBot x)) ≤ 1400
  wt : (Txt.partition (pUns x) ("/" : Str)).1.length ≤ 640
  wb : b.length ≤ 640
  sz : Sz 1402 (pAbs x)
  sn : Sz 1404 (pNum x)
theorem pf_of {b : Str} (h : RdOk x) (hb : pBot x = b) (hc : pBad x = false) : PF x b := by
  obtain ⟨h1, h2, h3, h4, h5⟩ := h.num hc
  obtain ⟨a1, a2, a3⟩ := pBad_f hc
  subst hb
  exact ⟨h1, h2, h3, h4, h5, isNumr_len a1, isNumr_len a2, (pNum_sz h hc).1, (pNum_sz h hc).2⟩
theorem parse_bad (h : pBad x = true) : parse x = none := if_pos h
theorem parse_no (h : pBad x = false) (h2 : ¬ numText (pNum x) = x) : parse x = none := by
  unfold parse
  rw [h, if_neg Bool.false_ne_true, if_neg h2]
theorem parse_yes (h : pBad x = false) (h2 : numText (pNum x) = x) : parse x = some (pNum x) := by
  unfold parse
  rw [h, if_neg Bool.false_ne_true, if_pos h2]
theorem pNum_t (h : pNeg x = true) : pNum x = ((0 : Int) : Rat) - pAbs x := if_pos h
theorem pNum_f (h : pNeg x = false) : pNum x = pAbs x := if_neg (by rw [h]; exact Bool.false_ne_true)
end
def outRd (K : PySem.W.Frag) (C : Addr) : Option Rat → Out
  | some q => .ok (.val (rNum K q))
  | none => .err C
theorem outRd_ok {K : PySem.W.Frag} {C : Addr} {x : Str} {p : Rat} (h : parse x = some p) : outRd K C (parse x) = .ok (.val (rNum K ((parse x).getD 0))) := by rw [h]; rfl
theorem nd_t {p : Prop} [Decidable p] (h : (!decide p) = true) : ¬ p := by simpa using h
theorem nd_f {p : Prop} [Decidable p] (h : (!decide p) = false) : p := by simpa using h
theorem len_z {n : Nat} (h : (!((n : Int) != 0)) = true) : (n : Int) = 0 := by simpa using h
theorem len_nz {n : Nat} (h : (!((n : Int) != 0)) = false) : ¬ (n : Int) = 0 := by simpa using h
end DL

set_option Elab.async false
set_option linter.all false
set_option maxRecDepth 100000
set_option maxHeartbeats 4000000
namespace DL
open PySem PySem.Spec PyProof.Rows L2
/-! ### try: f(..) except C as e: return .. -/
structure FX (X : Cx) (W : WX) : Prop where
  st : X.stack = X.env :: X.outer
  fr : X.env.frame = some X.env.locals
  tk : Takes X W
section
variable {P : Program} {w : World} {K : PySem.W.Frag} {mg : Str → Option Value} {base : Heap} {k : Nat} {x : Str} {st : Stmt} {N ps : List Str} {ι : Type} {pre : ι → Prop} {args : ι → List Rep} {res : ι → Ret}
theorem cal_okT (T : TD K mg x st) (S : FnScope N ps (defScope st)) (hn : ∀ g, (args g).length = ps.length)
    (hb : ∀ (kV doc pm : Value) (an : Option Addr) (cdv ct : Value) (us : List Value), us.length = ps.length → bindArgs (PySem.W.fnOf x x (defArgs st) (defBody st) (defScope st) .none kV doc pm an cdv ct) ⟨us, []⟩ = pure (ps.zip us))
    (body : ∀ (X : Cx), X.prog = P → X.w = w → X.K = K → X.mg = mg → X.base = base → FX X (fun _ _ _ _ => False) → BX X N (defScope st) k → (∀ x : Str, X.fn x = true) → ∀ (g : ι) (F0 H0 : Hp) (D : Ends), pre g → RT F0 H0 (res g) D → (∀ σ H', D.nx σ H' = D.rt .non H') →
      GO X F0 H0 (defBody st) D ((args g).map Sl.im ++ List.replicate (N.length - ps.length) .any)) : Cal P w K mg base (k + 1) x (Pm pre args res) := by
  obtain ⟨f, fd, F, hm⟩ := T.ex
  refine ⟨f, fd, ps, ?_, hm, F.kp, F.binds hb⟩
  refine FnOk.wide (F.ok S (fun vs H Q E h => ?_) (fun cdv A outer s H vs Q E hr h => ?_))
  · obtain ⟨g, F1, _, _, h1, _⟩ := h
    rw [← h1.len, hn]
  · obtain ⟨g, F1, hp, hs, h1, q⟩ := h
    refine ⟨_, pss_ev, ?_⟩
    have hpl : ps.length ≤ N.length := by have := congrArg List.length S.pre; rw [List.length_take] at this; omega
    have en := en_start (N := N) hs h1 (by rw [hn]; exact hpl)
    rw [hn] at en
    exact body _ rfl rfl rfl rfl rfl ⟨rfl, rfl, fun u s' ⟨_, _, _, _, _, _, _, _, _, _, _, _, _, _, _, _, z⟩ => z.elim⟩ ⟨rfl, rfl, S.nd, hr, rfl, PassesOwn.never⟩ (fun _ => rfl) g F1 H { nx := fun _ H' => Q .non H', rt := Q } hp q (fun _ _ => rfl) F1 H _ en
end
section
variable {X Y : Cx} {N : List Str} {sc : Scope} {k i : Nat} {Γ : List Sl} {a b c e : Expr} {rest : List Expr} {body suite st : List Stmt} {b₀ : Stmt} {x n : Str} {cv : Value} {np p p2 pos pos' : Pos} {W : WX} {D : Ends} {F0 H0 : Hp} {u v : Bool} {σ : L2.St} {H : Hp}
def tsu (X : Cx) (suite : List Stmt) (a : Addr) (cls : Value) (d : Option Addr) : TS := fun D σ H => ∀ (oe : Obj) (pn : List (Addr × Obj)), Zc cls d oe → (∃ vs, oe.data = .fields vs) → XS (X.suite a ((a, oe) :: pn)) suite D σ H
def tbo (X : Cx) (body : List Stmt) (W : WX) : TS := fun D σ H => ∀ (pn : List (Addr × Obj)) (xe : Value → Shared → Prop), Takes (X.tr pn xe) W → PassesOwn (model X.prog X.w) X.A X.env xe → XS (X.tr pn xe) body D σ H
theorem go_tryR (B : BX X N sc k) (Z : FX X W) (hN : N[i]? = some n) (hln : sc.names.lookup n = some .local) (hx : sc.names.lookup x = some .globalImplicit) (hm : X.mg x = some cv) (hd : (x == ("__debug__" : Str)) = false)
    (hb : ∀ pn xe, BX (X.tr pn xe) N sc k → Takes (X.tr pn xe) (wAs X.K cv i (tsu X (b₀ :: suite)) W { D with nx := XS X st D }) → GO (X.tr pn xe) F0 H0 body { D with nx := XS X st D } Γ) :
    GO X F0 H0 (.Try body [.ExceptHandler (some (.Name x np)) (some n) (b₀ :: suite) pos'] [] [] pos :: st) D Γ := fun F H σ en => by
  have hgl : Gl X x := by
    show X.env.scope.names.lookup x = _
    rw [B.hsc]
    exact hx
  have hk : X.env.kindOf n = some .local := by
    show X.env.scope.names.lookup n = _
    rw [B.hsc]
    exact hln
  refine .of (pss_cons (ps_try_as Z.st Z.fr (by rw [B.hN]; exact B.nd) (by rw [B.hN]; exact hN) hk ⟨hgl, hd, .inl hm⟩ Z.tk (tb := tbo X body) (ts := tsu X (b₀ :: suite)) (fun W pn xe tk po => ⟨fun pins s σ H D I h => h pn xe tk po pins s I⟩) (fun a oe cls d pn hz hv => ⟨fun pins s σ H D I h => h oe pn hz hv pins s I⟩)) pss_ev) ?_
  exact fun pn xe tk po => hb pn xe ⟨B.hN, B.hsc, B.nd, B.room, B.calm, po⟩ tk F H σ en
/-! an expression that tells and makes nothing -/
def IX (Y : Cx) (e : Expr) (σ : L2.St) (H : Hp) (b : Bool) : Prop := ∀ Q : VK, Q (.bl b) H → EV Y e σ H Q
theorem ix_one {op} (h : IX Y a σ H u) : IX Y (.BoolOp op [a] pos) σ H u := fun Q q => .of (pe_one pe_ev) (h Q q)
theorem ix_and (h : IX Y a σ H u) (h2 : IX Y (.BoolOp .And (b :: rest) pos) σ H v) : IX Y (.BoolOp .And (a :: b :: rest) pos) σ H (u && v) := fun Q q =>
  .of (pe_and pe_ev pe_ev) (h _ ⟨u, rfl, by
    cases u with
    | true => rw [if_pos rfl]; exact h2 Q q
    | false => rw [if_neg Bool.false_ne_true]; exact q⟩)
theorem ix_not (h : IX Y a σ H u) : IX Y (.UnaryOp .Not a pos) σ H (!u) := fun Q q => .of (pe_not pe_ev) (h _ ⟨u, rfl, q⟩)
/-- e is a class of the program or a built-in one -/
def ClsE (Y : Cx) (e : Expr) (cv : Value) : Prop := ∃ c : V, (∀ u, RelV c u → u = cv) ∧ PE Y e (tC c)
theorem clsE_own {C : Addr} (hg : Gl Y x) (hm : Y.mg x = some (.ref C)) (hd : (x == ("__debug__" : Str)) = false := by decide) : ClsE Y (.Name x pos) (.ref C) := ⟨.ref C, fun u h => h, pe_glob hg hm rfl hd⟩
theorem clsE_blt {T : String} (hg : Gl Y x) (hm : Y.mg x = none) (hv : bootBuiltins x = some (.type T)) (hn : x ≠ "__name__" := by decide) (hd : (x == ("__debug__" : Str)) = false := by decide) : ClsE Y (.Name x pos) (.type T) := ⟨.ty T, fun u h => h, pe_bltn (v := .ty T) hg hm hv rfl hn hd⟩
theorem ix_is {al Dx : Addr} {oe : Obj} {pn : List (Addr × Obj)} (E : ExcC X.K Dx) (hz : Zc (.ref Dx) none oe) (hf : ∃ vs, oe.data = .fields vs) (hsc : X.env.scope = sc) (hNX : X.N = N) (hmi : X.mg "isinstance" = none) (hgi : sc.names.lookup ("isinstance" : Str) = some NameKind.globalImplicit)
    (hN : N[i]? = some n) (hv : Vis sc n) (hσ : σ[i]? = some (some (.ref al))) (hc : ClsE (X.suite al ((al, oe) :: pn)) c cv) (hk : PySem.W.kitOne X.K (.ref Dx) cv = some u)
    (hd : (n == ("__debug__" : Str)) = false := by decide) (hcd : (n == ("__classdict__" : Str)) = false := by decide)
    (he : starEach (.Name n p2 :: [c]) X.env = (false, eval (.Name n p2) X.env) :: starEach [c] X.env := by rfl) (he2 : starEach (c :: []) X.env = (false, eval c X.env) :: starEach [] X.env := by rfl) (hpl : (backTo pos (starEach [c] X.env)).any (·.1) = false := by rfl) :
    IX (X.suite al ((al, oe) :: pn)) (.Call (.Name "isinstance" p) [.Name n p2, c] [] pos) σ H u := fun Q q => by
  subst hsc hNX
  obtain ⟨cV, hu, hp⟩ := hc
  have hgl : Gl (X.suite al ((al, oe) :: pn)) "isinstance" := hgi
  refine .of (pe_callB (call_isE E hz hf) hgl hmi (by decide +kernel) (pa_cons (pe_var (i := i) hN hv hd hcd) (pa_cons hp pa_nil he2) he) (by decide) (by decide) he hpl) ?_
  exact ⟨_, hσ, cV, cv, u, rfl, hu, hk, q⟩
/-- the suite: return e -/
theorem suite_ret {al : Addr} {oe : Obj} {pn : List (Addr × Obj)} (h : IX (X.suite al ((al, oe) :: pn)) e σ H u) (R : D.rt (.bl u) H) : XS (X.suite al ((al, oe) :: pn)) [.Return (some e) pos] D σ H :=
  .of (pss_cons (ps_ret pe_ev) (pss_ev (st := []))) (h _ R)
end
end DL

set_option Elab.async false
set_option linter.all false
set_option maxRecDepth 100000
set_option maxHeartbeats 4000000
namespace DL
open PySem PySem.Spec PyProof.Rows L2
/-- a list of the heap that stands still -/
def rLh (l : List Rep) : Rep := ⟨fun F x => ∃ a vs, x = .ref a ∧ F a = some (.lst vs) ∧ RL F l vs, fun s ⟨a, vs, e, h, q⟩ => ⟨a, vs, e, s _ _ h, q.mono s⟩⟩
theorem sub_h2l {K : PySem.W.Frag} {l : List Rep} : Sub (rLh l) (rLst K l) := fun F v ⟨a, vs, e, h, q⟩ => ⟨a, vs, e, SqL.of h, q⟩
section
variable {X : Cx} {N : List Str} {sc : Scope} {k i : Nat} {Γ Γ' : List Sl} {a b c e : Expr} {l l2 : List Rep} {pos : Pos} {F0 H0 F H : Hp} {σ : L2.St} {st body orelse : List Stmt} {D : Ends}
theorem de_h2l (h : DE X Γ e (rLh l)) : DE X Γ e (rLst X.K l) := h.sub sub_h2l
theorem DL.hfz (h : DL X Γ e l) : DE X Γ e (rLh l) := fun F0 H0 F H σ en Q q => h F0 H0 F H σ en Q fun p vs F' H' g h1 h2 h3 h4 =>
  q (.ref p) (upd F' p (.lst vs)) H' ⟨g.f.trans (same_new h2), g.h, fun b o z => by
    by_cases hb : b = p
    · subst hb
      rw [upd_same] at z
      rw [h3, ← z]
    · rw [upd_ne hb] at z
      exact g.s b o z, fun a ha z => by
    have hp : a ≠ p := fun y => ha (y ▸ h1)
    rw [upd_ne hp]
    exact g.n a ha z⟩ ⟨p, vs, rfl, upd_same, h4.mono (same_new h2)⟩
theorem dl_catH (hz : l.length + l2.length ≤ sizeLine) (ha : DE X Γ a (rLh l)) (hb : DE X Γ b (rLh l2)) : DL X Γ (.BinOp a .Add b pos) (l ++ l2) := fun F0 H0 F H σ en Q q =>
  .of (pe_op op_cat pe_ev pe_ev) (ha F0 H0 F H σ en _ fun v F1 H1 g1 h1 => hb F0 H0 F1 H1 σ (en.grow g1) _ fun u F2 H2 g2 h2 => by
    obtain ⟨p1, v1, rfl, k1, r1⟩ := h1
    obtain ⟨p2, v2, rfl, k2, r2⟩ := h2
    refine ⟨p1, p2, v1, v2, rfl, rfl, g2.s _ _ (g2.f _ _ k1), g2.s _ _ k2, by rw [← (r1.mono g2.f).len, ← r2.len]; exact hz, fun p hp => ?_⟩
    exact q p _ F2 _ ((g1.trans g2).trans (.newOwn g2.s hp)) ((g1.trans g2).h.free hp) (g2.s.free hp) upd_same ((r1.mono g2.f).app r2))
theorem En.freezeH (e : En F0 H0 F H σ Γ) (h : Γ[i]? = some (.ow l)) : ∃ F', Same F F' ∧ Same F' H ∧ En F0 H0 F' H σ (Γ.set i (.im (rLh l))) := by
  obtain ⟨p, vs, h1, h2, h3, h4, h5⟩ := e.ow h
  have s1 : Same F (upd F p (.lst vs)) := same_new h2
  have s2 : Same (upd F p (.lst vs)) H := fun b o z => by
    by_cases hb : b = p
    · subst hb
      rw [upd_same] at z
      rw [h3, ← z]
    · rw [upd_ne hb] at z
      exact e.gr.s b o z
  have nn : ∀ {j : Nat} {q : Addr} {m : List Rep}, j ≠ i → Γ[j]? = some (.ow m) → σ[j]? = some (some (.ref q)) → q ≠ p := fun {j q m} hj k1 k2 z => hj (e.sep j i p m l k1 h (z ▸ k2) h1)
  refine ⟨upd F p (.lst vs), s1, s2, ?_⟩
  exact {
    gr := ⟨e.gr.f.trans s1, e.gr.h, s2, fun a ha z => by
      have hp : a ≠ p := fun y => ha (y ▸ h5)
      rw [upd_ne hp]
      exact e.gr.n a ha z⟩
    len := by simpa using e.len
    ok := fun j s x k1 k2 => by
      rcases get_set k1 with ⟨rfl, rfl⟩ | ⟨n, k1⟩
      · rw [h1] at k2
        cases k2
        exact ⟨.ref p, rfl, p, vs, rfl, upd_same, h4.mono s1⟩
      · have q := e.ok j s x k1 k2
        cases s with
        | any => trivial
        | im r =>
          obtain ⟨v, a, b⟩ := q
          exact ⟨v, a, r.mono s1 b⟩
        | ow m =>
          obtain ⟨p2, ws2, a, b, c, d⟩ := q
          subst a
          refine ⟨p2, ws2, rfl, ?_, c, d.mono s1⟩
          rw [upd_ne (nn (Ne.symm n) k1 k2)]
          exact b
    own := fun j q m k1 k2 => by
      rcases get_set k1 with ⟨_, z⟩ | ⟨n, k1⟩
      · cases z
      · exact e.own j q m k1 k2
    sep := fun j k q m m' k1 k1' k2 k2' => by
      rcases get_set k1 with ⟨_, z⟩ | ⟨n, k1⟩
      · cases z
      rcases get_set k1' with ⟨_, z⟩ | ⟨n', k1'⟩
      · cases z
      exact e.sep j k q m m' k1 k1' k2 k2' }
theorem go_frozH (i : Nat) (hΓ : Γ[i]? = some (.ow l)) (h : GO X F0 H0 st D (Γ.set i (.im (rLh l)))) : GO X F0 H0 st D Γ := fun F H σ en => by
  obtain ⟨F', s1, s2, en'⟩ := en.freezeH hΓ
  exact h F' H σ en'
/-- the frame, told anew -/
theorem go_nf {X : Cx} {F0 H0 : Hp} {st : List Stmt} {D : Ends} {Γ : List Sl} (Γ' : List Sl) (e : Γ = Γ') (h : GO X F0 H0 st D Γ') : GO X F0 H0 st D Γ := e ▸ h
theorem go_le' {X : Cx} {F0 H0 : Hp} {st : List Stmt} {D : Ends} {Γ : List Sl} (Γ' : List Sl) (e : SlLe Γ Γ') (h : GO X F0 H0 st D Γ') : GO X F0 H0 st D Γ := fun F H σ en => h F H σ (en.le e)
/-- an if, both ways to the same place -/
theorem go_ifK {t : Bool} (up : List (Nat × Sl)) (hc : DT X Γ c t) (hk : GO X F0 H0 st D (sets Γ up)) (h1 : GO X F0 H0 st D (sets Γ up) → t = true → GO X F0 H0 body { D with nx := XS X st D } Γ) (h2 : GO X F0 H0 st D (sets Γ up) → t = false → GO X F0 H0 orelse { D with nx := XS X st D } Γ) : GO X F0 H0 (.If c body orelse pos :: st) D Γ :=
  go_if hc (h1 hk) (h2 hk)
theorem go_join (hk : GO X F0 H0 st D Γ') (h : SlLe Γ Γ') : GO X F0 H0 [] { D with nx := XS X st D } Γ := go_nil fun F H σ en => hk F H σ (en.le h)
end
end DL

set_option Elab.async false
set_option linter.all false
set_option maxRecDepth 100000
set_option maxHeartbeats 4000000
namespace DL
open PySem PySem.Spec PyProof.Rows L2 TL
theorem empty_app (x : Str) : Str.empty ++ x = x := ext_tl (by rw [tl_append]; rfl)
theorem due_whole {q : Rat} (h : q.den = 1) : ((toString q.num : String) : Str) = numText q := (if_pos h).symm
theorem due_pair {q : Rat} (h : q.den ≠ 1) : (((toString q.num : String) : Str) ++ ("/" : Str)) ++ ((toString (q.den : Int) : String) : Str) = numText q := by
  unfold numText
  rw [if_neg h, empty_app]
/-- a text in which a number stands that is none, or another text's number -/
def badB (x : Str) : Bool := decide (x.length ≤ 100000) && (pBad x || ((intText? (pTop x)).isSome && (intText? (pBot x)).isSome && decide (pInt (pBot x) ≠ 0) && decide ((pInt (pTop x)).natAbs < 1000) && decide ((pInt (pBot x)).natAbs < 1000) && !decide (numText (pNum x) = x)))
theorem isSome_pInt {x : Str} (h : (intText? x).isSome = true) : intText? x = some (pInt x) := by
  unfold pInt
  cases e : intText? x with
  | none => rw [e] at h; cases h
  | some a => rfl
theorem bad_of {x : Str} (h : badB x = true) : RdOk x ∧ parse x = none := by
  unfold badB at h
  rw [Bool.and_eq_true] at h
  obtain ⟨h1, h2⟩ := h
  have h1 := of_decide_eq_true h1
  cases hb : pBad x with
  | true => exact rdok_nil h1 hb
  | false =>
    rw [hb, Bool.false_or] at h2
    simp only [Bool.and_eq_true, decide_eq_true_eq, Bool.not_eq_true', decide_eq_false_iff_not] at h2
    obtain ⟨⟨⟨⟨⟨a, b⟩, c⟩, d⟩, e⟩, f⟩ := h2
    have k : ∀ {i : Int}, i.natAbs < 1000 → Lg i ≤ 1400 := fun {i} z => Nat.le_trans (Nat.le_of_lt (lg_of (n := 10) (by decide) (Nat.lt_of_lt_of_le z (by decide)))) (by decide)
    exact ⟨⟨h1, fun _ => ⟨isSome_pInt a, isSome_pInt b, c, k d, k e⟩⟩, parse_no hb f⟩
def badTexts : List Str := (["", "+3", "03", "-0", "3/1", "2/4", "1/0", "0/5", "1/-2", " 3", "3 ", "a", "-", "/2", "3/", "1/2/3", "--3"] : List Str) ++ (["1/02", "1 /2", "-", "1//2", "00", "0x1", "1.0", "3\n", ("1" : Str) ++ Txt.mul ("0" : Str) 400, ("1/1" : Str) ++ Txt.mul ("0" : Str) 400] : List Str)
theorem bad_a1 : (["", "+3", "03", "-0", "3/1", "2/4", "1/0", "0/5", "1/-2", " 3", "3 ", "a", "-", "/2", "3/", "1/2/3", "--3"] : List Str).all badB = true := by decide +kernel
theorem bad_a2 : (["1/02", "1 /2", "-", "1//2", "00", "0x1", "1.0", "3\n"] : List Str).all badB = true := by decide +kernel
theorem bad_a3 : badB (("1" : Str) ++ Txt.mul ("0" : Str) 400) = true := by decide +kernel
theorem bad_a4 : badB (("1/1" : Str) ++ Txt.mul ("0" : Str) 400) = true := by decide +kernel
theorem bad_all : badTexts.all badB = true := by
  have e : badTexts = (["", "+3", "03", "-0", "3/1", "2/4", "1/0", "0/5", "1/-2", " 3", "3 ", "a", "-", "/2", "3/", "1/2/3", "--3"] : List Str) ++ ((["1/02", "1 /2", "-", "1//2", "00", "0x1", "1.0", "3\n"] : List Str) ++ ([("1" : Str) ++ Txt.mul ("0" : Str) 400] ++ [("1/1" : Str) ++ Txt.mul ("0" : Str) 400])) := rfl
  rw [e, List.all_append, List.all_append, List.all_append, bad_a1, bad_a2, List.all_cons, List.all_cons, bad_a3, bad_a4]
  rfl
theorem bad_mem {x : Str} (h : x ∈ badTexts) : RdOk x ∧ parse x = none := bad_of (List.all_eq_true.mp bad_all x h)
/-! ten to the 399 -/
theorem numL_ten : ∀ k : Nat, numL (10 ^ k) = 49 :: List.replicate k 48
  | 0 => numL_lt (by decide)
  | k + 1 => by
    have h : 10 ≤ 10 ^ (k + 1) := by rw [Nat.pow_succ]; have := Nat.pow_pos (n := k) (show 0 < 10 by decide); omega
    rw [numL_step h]
    have e1 : 10 ^ (k + 1) / 10 = 10 ^ k := by rw [Nat.pow_succ]; omega
    have e2 : 10 ^ (k + 1) % 10 = 0 := by rw [Nat.pow_succ]; omega
    rw [e1, e2, numL_ten k, List.replicate_succ']
    rfl
def tenText : Str := ("1" : Str) ++ Txt.mul ("0" : Str) 399
def ten399 : Rat := (((10 ^ 399 : Nat) : Int) : Rat)
theorem tenText_tl : tl tenText = 49 :: List.replicate 399 48 := by decide +kernel
theorem ten_text : numText ten399 = tenText := by
  apply ext_tl
  have h1 : ten399.den = 1 := Rat.den_intCast _
  have h2 : ten399.num = ((10 ^ 399 : Nat) : Int) := Rat.num_intCast _
  rw [tl_numText, if_pos h1, h2, List.append_nil, tenText_tl]
  have h3 : sgnL ((10 ^ 399 : Nat) : Int) = [] := if_neg (by omega)
  rw [h3, Int.natAbs_natCast, numL_ten]
  rfl
theorem parse_ten : RdOk tenText ∧ parse tenText = some ten399 := by
  rw [← ten_text]
  have h1 : ten399.den = 1 := Rat.den_intCast _
  have h2 : ten399.num = ((10 ^ 399 : Nat) : Int) := Rat.num_intCast _
  refine parse_numG ?_ ?_
  · rw [h2, Int.natAbs_natCast]
    exact Nat.pow_lt_pow_right (by decide) (by decide)
  · rw [h1]
    exact Nat.one_lt_pow (by decide) (by decide)
theorem st_ratio {t b : Int} (hb : b ≠ 0) : ((t : Rat) / (b : Rat)).num * b = t * ((((t : Rat) / (b : Rat)).den : Nat) : Int) := st_of hb rfl
end DL

set_option Elab.async false
set_option linter.all false
set_option maxRecDepth 100000
set_option maxHeartbeats 4000000
namespace DL
open PySem PySem.Spec PyProof.Rows L2 TL
def kH (ns : List Int) : List Int := lawNums ns 0 8
def kL (ns : List Int) : Bool := decide (((kH ns).getD 6 0).fmod 4 = 1)
def kX (ns : List Int) : Rat := drawn0 (kH ns) 0 (kL ns)
def kY (ns : List Int) : Rat := drawn0 (kH ns) 2 (kL ns && decide (((kH ns).getD 6 0).fmod 3 = 1))
def kRow (ns : List Int) : List Rat := (List.range (((kH ns).getD 5 0).fmod 7).toNat).map fun i => drawn0 (lawNums ns 1 14) (2 * i) (kL ns)
def kB (ns : List Int) : Int := if ((kH ns).getD 4 0).fmod 2 = 1 then -(1 + ((kH ns).getD 4 0).fmod 60) else 1 + ((kH ns).getD 4 0).fmod 60
theorem kB_ne (ns : List Int) : kB ns ≠ 0 := by
  have := dr_ne (x := (kH ns).getD 4 0)
  unfold kB
  split <;> omega
theorem kB_lg (ns : List Int) : Lg (kB ns) < 990 := by
  have := dr_lg2 (x := (kH ns).getD 4 0)
  unfold kB
  split
  · exact Nat.lt_of_le_of_lt (lg_le (by simp)) this
  · exact this
theorem kB_t {ns : List Int} (h : ((kH ns).getD 4 0).fmod 2 = 1) : rInt (-(1 + ((kH ns).getD 4 0).fmod 60)) = rInt (kB ns) := by rw [kB, if_pos h]
theorem kB_f {ns : List Int} (h : ¬ ((kH ns).getD 4 0).fmod 2 = 1) : rInt (1 + ((kH ns).getD 4 0).fmod 60) = rInt (kB ns) := by rw [kB, if_neg h]
theorem nums_in {ns : List Int} {k many : Nat} : ∀ x ∈ lawNums ns k many, 0 ≤ x ∧ x < 10007 := fun x h => lawNums_mem h
theorem kA_lg (ns : List Int) : Lg ((kH ns).getD 0 0 - 5003) < 990 := dr_lg0 nums_in
theorem kX_sz (ns : List Int) : Sz 50 (kX ns) := drawn_sz nums_in
theorem kY_sz (ns : List Int) : Sz 50 (kY ns) := drawn_sz nums_in
theorem fm7 (x : Int) : (x.fmod 7).toNat ≤ 6 := by
  have h1 : x.fmod 7 < 7 := Int.fmod_lt_of_pos _ (by decide)
  omega
theorem mk_ok {x : Int} {i : Nat} (h : i < (x.fmod 7).toNat) : Lg (2 : Int) + Lg ((i : Nat) : Int) < 1000000 := by
  have h1 := fm7 x
  have h2 : Lg ((i : Nat) : Int) < 3 := lg_of (by decide) (by show i < 2 ^ 3; omega)
  have h3 : Lg (2 : Int) = 1 := by decide
  omega
theorem mk_dr {x : Int} {i : Nat} {ns : List Int} (h : i < (x.fmod 7).toNat) : 2 * i + 1 < (lawNums ns 1 14).length := by
  have h1 := fm7 x
  rw [lawNums_len]
  omega
theorem kRow_len (ns : List Int) : (kRow ns).length ≤ 6 := by
  unfold kRow
  rw [List.length_map, List.length_range]
  exact fm7 _
theorem kRow_sz (ns : List Int) : ∀ q ∈ kRow ns, Sz 50 q := fun q h => by
  obtain ⟨i, _, rfl⟩ := List.mem_map.mp h
  exact drawn_sz nums_in
theorem kAll_sz (ns : List Int) : ∀ q ∈ kRow ns ++ [kX ns, kY ns], Sz 50 q := fun q h => by
  rcases List.mem_append.mp h with h | h
  · exact kRow_sz ns q h
  · rcases List.mem_cons.mp h with h | h
    · exact h ▸ kX_sz ns
    · rcases List.mem_cons.mp h with h | h
      · exact h ▸ kY_sz ns
      · cases h
theorem kRow_cl {K : PySem.W.Frag} {ns : List Int} {n : Nat} (h : n = (((kH ns).getD 5 0).fmod 7).toNat) : ((List.range n).filter fun _ => true).map (fun i => rNum K (drawn0 (lawNums ns 1 14) (2 * i) (kL ns))) = (kRow ns).map (rNum K) := by
  subst h
  rw [List.filter_eq_self.mpr (fun _ _ => rfl), kRow, List.map_map]
  rfl
theorem fm_z {x : Int} {n : Nat} (h : 0 < n) : 0 ≤ x.fmod (n : Int) := Int.fmod_nonneg_of_pos _ (by omega)
theorem fm_l {x : Int} {n : Nat} (h : 0 < n) : x.fmod (n : Int) < n := Int.fmod_lt_of_pos _ (by omega)
theorem bad_at {ns : List Int} : badTexts.getD (((kH ns).getD 7 0).fmod (badTexts.length : Int)).toNat (default : Str) ∈ badTexts := by
  have h0 : 0 < badTexts.length := by decide
  have h1 := fm_z (x := (kH ns).getD 7 0) h0
  have h2 := fm_l (x := (kH ns).getD 7 0) h0
  have h3 : (((kH ns).getD 7 0).fmod (badTexts.length : Int)).toNat < badTexts.length := by omega
  rw [List.getD_eq_getElem?_getD, List.getElem?_eq_getElem h3]
  exact List.getElem_mem h3
theorem ten_lg (i : Nat) (h : i < 399) : Lg ((10 : Int) ^ i) ≤ 1596 := by
  refine Nat.le_of_lt (lg_of (n := 1596) (by decide) ?_)
  rw [Int.natAbs_pow]
  have h1 : (Int.natAbs 10) ^ i ≤ 16 ^ i := Nat.pow_le_pow_left (by decide) i
  have h2 : (16 : Nat) ^ i = 2 ^ (4 * i) := by rw [Nat.pow_mul]
  have h3 : (2 : Nat) ^ (4 * i) < 2 ^ 1596 := Nat.pow_lt_pow_right (by decide) (by omega)
  omega
theorem ten_mul {i : Nat} (h : i < 399) : Lg ((10 : Int) ^ i) + Lg (10 : Int) < 9000 := by
  have := ten_lg i h
  have h2 : Lg (10 : Int) = 3 := by decide
  omega
theorem ct_more {q : Rat} (h : Sz 50 q) : (numText q).length + ("/7/9" : Str).length ≤ sizeLine := by
  have h1 := str_len (k := 51) (i := q.num) (by have := h.1; omega)
  have h2 := str_len (k := 51) (i := (q.den : Int)) (by have := h.2; omega)
  have h3 : (("/7/9" : Str)).length = 4 := rfl
  have h4 : (("/" : Str)).length = 1 := rfl
  have h5 : 1000000 ≤ sizeLine := by decide
  unfold numText
  rw [empty_app]
  split
  · omega
  · rw [app_len, app_len]; omega
theorem pow_step (i : Nat) : (10 : Int) ^ i * 10 = 10 ^ (i + 1) := (Int.pow_succ 10 i).symm
theorem ten_int : ten399 = (((10 : Int) ^ 399 : Int) : Rat) := by
  unfold ten399
  congr 1
end DL

set_option Elab.async false
set_option linter.all false
set_option maxRecDepth 100000
set_option maxHeartbeats 4000000
namespace DL
open PySem PySem.Spec PyProof.Rows L2
section
variable {X : Cx} {N : List Str} {sc : Scope} {k j : Nat} {Γ Γ' Γ1 : List Sl} {tg it a b c e o : Expr} {ifs es rest : List Expr} {r ra rb rc r' : Rep} {rs l l2 : List Rep} {pos p p2 apos : Pos} {x : Str} {i n : Nat} {rr : Nat → Rep} {ws : List Nat} {scope : Scope}
theorem go_setLc {F0 H0 : Hp} {st : List Stmt} {D : Ends} {iy : Nat} {y : Str} {py spos : Pos} {l' : List Rep} (B : BX X N sc k) (own : List (Str × Nat)) (hi : SR X Γ tg it n rr) (ok : BlkOk N sc scope own) (G1 : Nat → List Sl) (tb : Nat → Bool) (f : Nat → Rep) (hn : n < sizeLine) (hw : ∀ i ∈ ws, i ∈ own.map (·.2))
    (hg : ∀ (s : Shared) (H : Hp) (C : Addr) (cl : List (Str × Addr)) (fp : List Addr), BX (X.blk s H scope (compEnvC scope cl C X.env) fp) N (relS scope sc) k → ∀ i, i < n → DG (X.blk s H scope (compEnvC scope cl C X.env) fp) (wipeG Γ (own.map (·.2))) tg (rr i) (G1 i) ws)
    (ht : ∀ (s : Shared) (H : Hp) (C : Addr) (cl : List (Str × Addr)) (fp : List Addr), BX (X.blk s H scope (compEnvC scope cl C X.env) fp) N (relS scope sc) k → ∀ i, i < n → DTs (X.blk s H scope (compEnvC scope cl C X.env) fp) (G1 i) ifs (tb i))
    (he : ∀ (s : Shared) (H : Hp) (C : Addr) (cl : List (Str × Addr)) (fp : List Addr), BX (X.blk s H scope (compEnvC scope cl C X.env) fp) N (relS scope sc) k → ∀ i, i < n → tb i = true → DE (X.blk s H scope (compEnvC scope cl C X.env) fp) (G1 i) e (f i)) (hs : ∀ x, foldedSetIterable it X.env x = pure x := by intro _; rfl) (hl : ((List.range n).filter tb).map f = l')
    (hNy : N[iy]? = some y) (hyl : sc.names.lookup y = some .local) (h : GO X F0 H0 st D (Γ.set iy (.ow l'))) (hsw : ∀ env : Env, env.scope = sc → swapsWith (.ListComp e [⟨tg, it, ifs, 0⟩] scope pos) (some (.Name y py)) spos.line env = pure true) :
    GO X F0 H0 (.Assign [.Name y py] (.ListComp e [⟨tg, it, ifs, 0⟩] scope pos) spos :: st) D Γ := fun F H σ en => by
  subst hl
  have q : ∀ p vs F' H', Gr F H F' H' → H p = none → F' p = none → H' p = some (.lst vs) → RL F' (((List.range n).filter tb).map f) vs → XS X st D (σ.set iy (some (.ref p))) H' := fun p vs F' H' g h1 h2 h3 h4 => h F' H' _ ((en.grow g).setOw h2 h3 h4 (en.gr.h.free h1) fun j l' k1 k2 => by
    obtain ⟨p', vs', a1, a2, a3, a4, a5⟩ := en.ow k1
    rw [a1] at k2
    have e2 : p' = p := V.ref.inj (Option.some.inj (Option.some.inj k2))
    rw [e2, h1] at a3
    cases a3)
  clear h
  replace hg : ∀ X', IsBlk X scope X' → BX X' N (relS scope sc) k → ∀ i, i < n → DG X' (wipeG Γ (own.map (·.2))) tg (rr i) (G1 i) ws := fun X' h B => by obtain ⟨s, H, C, cl, fp, rfl⟩ := h; exact hg s H C cl fp B
  replace ht : ∀ X', IsBlk X scope X' → BX X' N (relS scope sc) k → ∀ i, i < n → DTs X' (G1 i) ifs (tb i) := fun X' h B => by obtain ⟨s, H, C, cl, fp, rfl⟩ := h; exact ht s H C cl fp B
  replace he : ∀ X', IsBlk X scope X' → BX X' N (relS scope sc) k → ∀ i, i < n → tb i = true → DE X' (G1 i) e (f i) := fun X' h B => by obtain ⟨s, H, C, cl, fp, rfl⟩ := h; exact he s H C cl fp B
  let g : TG := fun v σ H Q => ∀ X', IsBlk X scope X' → GV X' tg v σ H Q
  let tt : TT := fun σ H Q => ∀ X', IsBlk X scope X' → TVs X' ifs σ H Q
  let te : TE := fun σ H Q => ∀ X', IsBlk X scope X' → EV X' e σ H Q
  have pg : ∀ (s : Shared) (H : Hp) (C : Addr) (cl : List (Str × Addr)) (fp : List Addr), PG (X.blk s H scope (compEnvC scope cl C X.env) fp) tg g := fun s H C cl fp => ⟨fun pins s' σ H v u Q I r h => h _ ⟨s, _, C, cl, fp, rfl⟩ pins s' u I r⟩
  have pt : ∀ (s : Shared) (H : Hp) (C : Addr) (cl : List (Str × Addr)) (fp : List Addr), PTs (X.blk s H scope (compEnvC scope cl C X.env) fp) ifs tt := fun s H C cl fp => ⟨fun pins s' σ H Q I h => h _ ⟨s, _, C, cl, fp, rfl⟩ pins s' I⟩
  have pe : ∀ (s : Shared) (H : Hp) (C : Addr) (cl : List (Str × Addr)) (fp : List Addr), PE (X.blk s H scope (compEnvC scope cl C X.env) fp) e te := fun s H C cl fp => ⟨fun pins s' σ H Q I h => h _ ⟨s, _, C, cl, fp, rfl⟩ pins s' I⟩
  refine .of (pss_cons (ps_setLc (i := iy) B.calm (by rw [B.hN]; exact B.nd) (by rw [B.hN]; exact hNy) (by rw [B.hsc]; exact hyl) (hsw _ B.hsc) pi_ev (by rw [B.hN, B.hsc]; exact ok) pg pt pe hs) pss_ev) ?_
  refine hi F0 H0 F H σ en _ fun J F1 H1 g1 wk => fun D hD => ?_
  have en1 := en.grow g1
  refine ⟨fun i m H => m = n - i ∧ i ≤ n ∧ ∃ F vs, Gr F1 H1 F H ∧ F D = none ∧ H D = some (.lst vs) ∧ RL F (((List.range i).filter tb).map f) vs, ⟨n, by simp, Nat.zero_le _, F1, [], .newOwn g1.s hD, g1.s.free hD, upd_same, .nil⟩, fun i m H2 hw2 => ?_⟩
  obtain ⟨rfl, hle, F2, vs, g2, d2, e2, l2⟩ := hw2
  have s2 : Same F1 H2 := g2.f.trans g2.s
  by_cases hlt : i < n
  · refine .inr ⟨wk.go i H2 s2 hlt, fun H => i + 1 ≤ n ∧ ∃ F vs, Gr F1 H1 F H ∧ F D = none ∧ H D = some (.lst vs) ∧ RL F (((List.range (i + 1)).filter tb).map f) vs, fun H' h => ⟨n - (i + 1), by omega, rfl, h.1, h.2⟩, fun x H3 hy => ?_⟩
    obtain ⟨F3, g3, hx⟩ := wk.yld i F2 H2 x H3 g2.f g2.s hlt hy
    have en3 := ((en1.grow (g2.trans g3)).wipe (own.map (·.2)))
    -- the target is stored
    have key : ∀ X', IsBlk X scope X' → ∀ Q : L2.St → Hp → Prop, (∀ F' H' σ', Gr F3 H3 F' H' → En F0 H0 F' H' σ' (G1 i) → Off ws (L2.wipe σ (own.map (·.2))) σ' → Q σ' H') → GV X' tg x (L2.wipe σ (own.map (·.2))) H3 Q := fun X' hX' Q hQ => hg X' hX' (B.blk hX') i hlt F0 H0 F3 H3 _ x en3 hx Q hQ
    intro X' hX'
    refine key X' hX' _ fun F4 H4 σ4 g4 en4 off => ⟨?_, fun X2 hX2 => ?_⟩
    · have := off (own.map (·.2)) hw
      rw [this]
      exact wipe_wipe _ _
    refine ht X2 hX2 (B.blk hX2) i hlt F0 H0 F4 H4 σ4 en4 _ fun F5 H5 g5 => ?_
    have gg5 := ((g2.trans g3).trans g4).trans g5
    have d5 : F5 D = none := (((g3.trans g4).trans g5).n D (by rw [e2]; exact fun z => nomatch z) d2)
    have h5 : H5 D = some (.lst vs) := ((g3.trans g4).trans g5).h _ _ e2
    have l5 := l2.mono ((g3.trans g4).trans g5).f
    cases hb : tb i with
    | false =>
      rw [if_neg Bool.false_ne_true]
      refine ⟨hlt, F5, vs, gg5, d5, h5, ?_⟩
      rw [filter_snoc, hb, if_neg Bool.false_ne_true, List.append_nil]
      exact l5
    | true =>
      rw [if_pos rfl]
      intro X3 hX3
      refine he X3 hX3 (B.blk hX3) i hlt hb F0 H0 F5 H5 σ4 (en4.grow g5) _ fun y F6 H6 g6 hy6 => ?_
      have h6 := g6.h _ _ h5
      have d6 := g6.n D (by rw [h5]; exact fun z => nomatch z) d5
      have hlen : vs.length < sizeLine := by
        rw [← l5.len, List.length_map]
        have := List.length_filter_le tb (List.range i)
        rw [List.length_range] at this
        omega
      refine ⟨vs, h6, hlen, hlt, F6, vs ++ [y], ?_, d6, upd_same, ?_⟩
      · have gg6 := gg5.trans g6
        exact ⟨gg6.f, fun b o z => by rw [upd_ne (ne_of_none z hD)]; exact gg6.h b o z, same_out gg6.s d6, gg6.n⟩
      · rw [filter_snoc, hb, if_pos rfl]
        exact (l5.mono g6.f).snoc hy6
  · have e : i = n := by omega
    subst e
    refine .inl ⟨wk.stop i H2 s2 (Nat.le_refl _), ?_⟩
    exact q D vs F2 H2 (g1.trans g2) (g1.h.free hD) d2 e2 l2
/-- texts that stand there -/
def strsOf : List Expr → Option (List Str)
  | [] => some []
  | .Constant (.str s) _ _ :: r => match strsOf r with
    | some l => some (s :: l)
    | none => none
  | _ => none
theorem da_strsN : ∀ (n : Nat) {es : List Expr} {ss : List Str} {rs : List Rep}, strsOf (es.take n) = some ss → DA X Γ (es.drop n) rs → DA X Γ es (ss.map rStr ++ rs)
  | 0, es, ss, rs, h, hd => by
    cases h
    exact hd
  | n + 1, [], ss, rs, h, hd => by
    cases h
    exact hd
  | n + 1, .Constant (.str s) _ _ :: es, ss, rs, h, hd => by
    rw [List.take_succ_cons, strsOf] at h
    cases e : strsOf (es.take n) with
    | none => rw [e] at h; cases h
    | some l =>
      rw [e] at h
      cases h
      exact da_cons de_str (da_strsN n e hd) rfl
theorem da_strs {es : List Expr} {ss : List Str} (h : strsOf es = some ss) : DA X Γ es (ss.map rStr) := by
  have := da_strsN (X := X) (Γ := Γ) es.length (es := es) (ss := ss) (rs := []) (by rw [List.take_length]; exact h) (by rw [List.drop_length]; exact da_nil)
  rwa [List.append_nil] at this
end
theorem at_mem {bt : List Str} {x : Int} (h0 : 0 < bt.length) : bt.getD (x.fmod (bt.length : Int)).toNat (default : Str) ∈ bt := by
  have h1 := fm_z (x := x) h0
  have h2 := fm_l (x := x) h0
  have h3 : (x.fmod (bt.length : Int)).toNat < bt.length := by omega
  rw [List.getD_eq_getElem?_getD, List.getElem?_eq_getElem h3]
  exact List.getElem_mem h3
section
variable {X : Cx} {Γ : List Sl} {es : List Expr} {rs : List Rep}
theorem de_strMul {s t : Str} {n : Int} {j1 j2 j3 : Nat} {p1 p2 p3 p4 p5 : Pos} (h : s.length + (Txt.mul t n).length ≤ sizeLine) (hm : MulOk t n) : DE X Γ (.BinOp (.Constant (.str s) j1 p1) .Add (.BinOp (.Constant (.str t) j2 p2) .Mult (.Constant (.int n) j3 p3) p4) p5) (rStr (s ++ Txt.mul t n)) := de_catS h de_str (de_mulS hm de_str de_int)
theorem da_strMul {s t : Str} {n : Int} {j1 j2 j3 : Nat} {p1 p2 p3 p4 p5 : Pos} (h : s.length + (Txt.mul t n).length ≤ sizeLine) (hm : MulOk t n) (hr : DA X Γ es rs) : DA X Γ (.BinOp (.Constant (.str s) j1 p1) .Add (.BinOp (.Constant (.str t) j2 p2) .Mult (.Constant (.int n) j3 p3) p4) p5 :: es) (rStr (s ++ Txt.mul t n) :: rs) := da_cons (de_strMul h hm) hr rfl
end
end DL

set_option Elab.async false
set_option linter.all false
set_option maxRecDepth 100000
set_option maxHeartbeats 4000000
namespace DL
open PySem PySem.Spec PyProof.Rows L2
/-! ### the law itself -/
section
variable {P : Program} {w : World} {K : PySem.W.Frag} {mg : Str → Option Value} {base : Heap} {k : Nat} {x : Str} {st : Stmt} {N ps : List Str} {ι : Type} {pre : ι → Prop} {args : ι → List Rep} {res : ι → Ret} {f : Addr} {fd : FuncData}
theorem cal_okF (F : Fun K x x st f fd) (S : FnScope N ps (defScope st)) (hn : ∀ g, (args g).length = ps.length)
    (body : ∀ (X : Cx), X.prog = P → X.w = w → X.K = K → X.mg = mg → X.base = base → BX X N (defScope st) k → (∀ x : Str, X.fn x = true) → ∀ (g : ι) (F0 H0 : Hp) (D : Ends), pre g → RT F0 H0 (res g) D → (∀ σ H', D.nx σ H' = D.rt .non H') →
      GO X F0 H0 (defBody st) D ((args g).map Sl.im ++ List.replicate (N.length - ps.length) .any)) : FnOk P w K mg base (L2.CX P w) (k + 1) f fd ps (Pm pre args res) := by
  refine FnOk.wide (F.ok S (fun vs H Q E h => ?_) (fun cdv A outer s H vs Q E hr h => ?_))
  · obtain ⟨g, F1, _, _, h1, _⟩ := h
    rw [← h1.len, hn]
  · obtain ⟨g, F1, hp, hs, h1, q⟩ := h
    refine ⟨_, pss_ev, ?_⟩
    have hpl : ps.length ≤ N.length := by have := congrArg List.length S.pre; rw [List.length_take] at this; omega
    have en := en_start (N := N) hs h1 (by rw [hn]; exact hpl)
    rw [hn] at en
    exact body _ rfl rfl rfl rfl rfl ⟨rfl, rfl, S.nd, hr, rfl, PassesOwn.never⟩ (fun _ => rfl) g F1 H { nx := fun _ H' => Q .non H', rt := Q } hp q (fun _ _ => rfl) F1 H _ en
end
theorem rl_ints (H : Hp) : ∀ ns : List Int, RL H (ns.map rInt) (ns.map V.int)
  | [] => .nil
  | _ :: r => .cons rfl (rl_ints H r)
end DL

set_option Elab.async false
set_option linter.all false
set_option maxRecDepth 100000
set_option maxHeartbeats 4000000
namespace K00
open PySem PySem.Spec PyProof.Rows L2 DL
def topS (i : Nat) : Stmt := PySem.Challenge.pw_fineststep_k00_exact_numbers.main.body.getD i (.Pass ⟨0, 0, 0, 0⟩)
abbrev s_ratio : Stmt := topS 7
abbrev s_is_whole : Stmt := topS 8
abbrev s_top_of : Stmt := topS 9
abbrev s_bottom_of : Stmt := topS 10
abbrev s_plus : Stmt := topS 11
abbrev s_minus : Stmt := topS 12
abbrev s_times : Stmt := topS 13
abbrev s_over : Stmt := topS 14
abbrev s_less : Stmt := topS 15
abbrev s_floor_of : Stmt := topS 16
abbrev s_ceiling_of : Stmt := topS 17
abbrev s_nearest : Stmt := topS 18
abbrev s_common_bottom : Stmt := topS 19
abbrev s_least_of : Stmt := topS 20
abbrev s_greatest_of : Stmt := topS 21
abbrev s_number_text : Stmt := topS 22
abbrev s_read_number : Stmt := topS 23
abbrev s_is_numeral : Stmt := topS 24
abbrev s__law_cell : Stmt := topS 26
abbrev s__law_numbers : Stmt := topS 27
abbrev s__law_gcd : Stmt := topS 28
abbrev s__law_make : Stmt := topS 29
abbrev s__law_top : Stmt := topS 30
abbrev s__law_bottom : Stmt := topS 31
abbrev s__law_is_int : Stmt := topS 32
abbrev s__law_is_number : Stmt := topS 33
abbrev s__law_stands : Stmt := topS 34
abbrev s__law_drawn : Stmt := topS 35
abbrev s__law_no_text : Stmt := topS 36
abbrev s__law_no_ratio : Stmt := topS 37
abbrev s__law_no_quotient : Stmt := topS 38
abbrev s__law_texts : Stmt := topS 39
abbrev s__law_values : Stmt := topS 40
abbrev s__law_lists : Stmt := topS 41
abbrev s_law : Stmt := topS 42
structure Cs where
  BookError : Addr
  ZeroBottom : Addr
  BadText : Addr
structure Txt (K : PySem.W.Frag) (mg : Str → Option Value) (cs : Cs) : Prop where
  b_ValueError : mg "ValueError" = none
  b_abs : mg "abs" = none
  b_bool : mg "bool" = none
  b_int : mg "int" = none
  b_isinstance : mg "isinstance" = none
  b_len : mg "len" = none
  b_list : mg "list" = none
  b_range : mg "range" = none
  b_str : mg "str" = none
  b_tuple : mg "tuple" = none
  m_gcd : mg "gcd" = some (.builtin "math.gcd")
  m_lcm : mg "lcm" = some (.builtin "math.lcm")
  x_BookError : XCls K mg "BookError" cs.BookError
  x_ZeroBottom : XCls K mg "ZeroBottom" cs.ZeroBottom
  x_BadText : XCls K mg "BadText" cs.BadText
  c_MOST_DIGITS : ∃ u, mg "MOST_DIGITS" = some u ∧ RelV (.int 400) u
  d_ratio : TD K mg "ratio" s_ratio
  d_is_whole : TD K mg "is_whole" s_is_whole
  d_top_of : TD K mg "top_of" s_top_of
  d_bottom_of : TD K mg "bottom_of" s_bottom_of
  d_plus : TD K mg "plus" s_plus
  d_minus : TD K mg "minus" s_minus
  d_times : TD K mg "times" s_times
  d_over : TD K mg "over" s_over
  d_less : TD K mg "less" s_less
  d_floor_of : TD K mg "floor_of" s_floor_of
  d_ceiling_of : TD K mg "ceiling_of" s_ceiling_of
  d_nearest : TD K mg "nearest" s_nearest
  d_common_bottom : TD K mg "common_bottom" s_common_bottom
  d_least_of : TD K mg "least_of" s_least_of
  d_greatest_of : TD K mg "greatest_of" s_greatest_of
  d_number_text : TD K mg "number_text" s_number_text
  d_read_number : TD K mg "read_number" s_read_number
  d_is_numeral : TD K mg "is_numeral" s_is_numeral
  d__law_cell : TD K mg "_law_cell" s__law_cell
  d__law_numbers : TD K mg "_law_numbers" s__law_numbers
  d__law_gcd : TD K mg "_law_gcd" s__law_gcd
  d__law_make : TD K mg "_law_make" s__law_make
  d__law_top : TD K mg "_law_top" s__law_top
  d__law_bottom : TD K mg "_law_bottom" s__law_bottom
  d__law_is_int : TD K mg "_law_is_int" s__law_is_int
  d__law_is_number : TD K mg "_law_is_number" s__law_is_number
  d__law_stands : TD K mg "_law_stands" s__law_stands
  d__law_drawn : TD K mg "_law_drawn" s__law_drawn
  d__law_no_text : TD K mg "_law_no_text" s__law_no_text
  d__law_no_ratio : TD K mg "_law_no_ratio" s__law_no_ratio
  d__law_no_quotient : TD K mg "_law_no_quotient" s__law_no_quotient
  d__law_texts : TD K mg "_law_texts" s__law_texts
  d__law_values : TD K mg "_law_values" s__law_values
  d__law_lists : TD K mg "_law_lists" s__law_lists
  d_law : TD K mg "law" s_law
  e_BadText : ExcC K cs.BadText
  s_BadText_BookError : PySem.W.subIn K (.ref cs.BadText) (.ref cs.BookError) = some true
  k_BadText_BookError : PySem.W.kitOne K (.ref cs.BadText) (.ref cs.BookError) = some true
  s_BadText_ZeroBottom : PySem.W.subIn K (.ref cs.BadText) (.ref cs.ZeroBottom) = some false
  k_BadText_ZeroBottom : PySem.W.kitOne K (.ref cs.BadText) (.ref cs.ZeroBottom) = some false
  s_BadText_BadText : PySem.W.subIn K (.ref cs.BadText) (.ref cs.BadText) = some true
  k_BadText_BadText : PySem.W.kitOne K (.ref cs.BadText) (.ref cs.BadText) = some true
  k_BadText_ValueError : PySem.W.kitOne K (.ref cs.BadText) (.type "ValueError") = some true
  e_ZeroBottom : ExcC K cs.ZeroBottom
  s_ZeroBottom_BookError : PySem.W.subIn K (.ref cs.ZeroBottom) (.ref cs.BookError) = some true
  k_ZeroBottom_BookError : PySem.W.kitOne K (.ref cs.ZeroBottom) (.ref cs.BookError) = some true
  s_ZeroBottom_ZeroBottom : PySem.W.subIn K (.ref cs.ZeroBottom) (.ref cs.ZeroBottom) = some true
  k_ZeroBottom_ZeroBottom : PySem.W.kitOne K (.ref cs.ZeroBottom) (.ref cs.ZeroBottom) = some true
  s_ZeroBottom_BadText : PySem.W.subIn K (.ref cs.ZeroBottom) (.ref cs.BadText) = some false
  k_ZeroBottom_BadText : PySem.W.kitOne K (.ref cs.ZeroBottom) (.ref cs.BadText) = some false
  k_ZeroBottom_ValueError : PySem.W.kitOne K (.ref cs.ZeroBottom) (.type "ValueError") = some true
variable {P : Program} {w : World} {K : PySem.W.Frag} {mg : Str → Option Value} {base : Heap} {cs : Cs}
theorem sc_ratio : FnScope ["top", "bottom", "common"] ["top", "bottom"] (defScope s_ratio) := ⟨rfl, rfl, rfl, by decide +kernel, rfl, by decide +kernel, by decide +kernel⟩
def sp_ratio (K : PySem.W.Frag) (cs : Cs) : Sp := PmX (ι := Int × Int) (fun ⟨t, b⟩ => Lg b < 9000) (fun ⟨t, b⟩ => [rInt t, rInt b]) (fun ⟨t, b⟩ => if b = 0 then .err cs.ZeroBottom else .ok (.val (rNum K ((t : Rat) / (b : Rat)))))
abbrev okr_ratio (K : PySem.W.Frag) : Int × Int → Ret := fun ⟨t, b⟩ => .val (rNum K ((t : Rat) / (b : Rat)))
theorem ok_ratio (T : Txt K mg cs) : Cal P w K mg base 1 "ratio" (sp_ratio K cs) := by
  refine cal_okX T.d_ratio sc_ratio (fun g => rfl) (fun _ _ _ _ _ _ us hl => match us, hl with | [_, _], _ => rfl) ?_
  rintro X rfl rfl rfl rfl rfl B Bf ⟨t, b⟩ F0 H0 D E tk hp R hnx
  refine go_if (dt_eqI (de_var B (i := 1) rfl rfl (.inl rfl)) de_int) (fun hc => ?gt_1) (fun hc => ?gf_2)
  case gt_1 =>
    replace hc : b = 0 := of_decide_eq_true hc
    refine go_raise B tk T.x_ZeroBottom rfl (fun F H σ en => R.er (C := cs.ZeroBottom) ?re1 H en.gr.h)
    (case re1 => exact if_pos hc)
  case gf_2 =>
    replace hc : b ≠ 0 := of_decide_eq_false hc; have hb := hc
    refine go_then ?go_3
    refine go_set B (i := 2) (de_gcd B T.m_gcd (de_var B (i := 0) rfl rfl (.inl rfl)) (de_var B (i := 1) rfl rfl (.inl rfl)) rfl) rfl (.inl rfl) ?go_4
    refine go_if (dt_lt (de_var B (i := 1) rfl rfl (.inl rfl)) de_int) (fun hc => ?gt_5) (fun hc => ?gf_6)
    case gt_5 =>
      replace hc : b < 0 := of_decide_eq_true hc; have hl : lowC t b = -(Int.gcd t b : Int) := if_pos hc
      refine go_set B (i := 2) (de_neg (de_var B (i := 2) rfl rfl (.inl rfl))) rfl (.inl rfl) ?go_7
      refine go_then ?go_8
      refine go_if (dt_eqI (de_var B (i := 2) rfl rfl (.inl rfl)) (de_var B (i := 1) rfl rfl (.inl rfl))) (fun hc => ?gt_9) (fun hc => ?gf_10)
      case gt_9 =>
        replace hc := of_decide_eq_true hc
        refine go_ret (R.rt (ret := .val (rNum X.K ((t : Rat) / (b : Rat)))) ?ro2) (de_divG ?z3 ?d4 (de_var B (i := 0) rfl rfl (.inl rfl)) (de_var B (i := 2) rfl rfl (.inl rfl))) ?rs_11
        (case ro2 => exact if_neg hb)
        (case z3 => rw [← hl]; exact lowC_ne hb)
        (case d4 => rw [← hl]; exact Nat.lt_of_le_of_lt (lg_lowC hb) hp)
        (case rs_11 => rw [← hl]; exact sub_whole (rat_den1 hb (hl.trans hc)) (rat_num hb))
      case gf_10 =>
        replace hc := of_decide_eq_false hc
        refine go_then ?go_12
        refine go_ret (R.rt (ret := .val (rNum X.K ((t : Rat) / (b : Rat)))) ?ro5) (de_tup (da_cons (de_divG ?z6 ?d7 (de_var B (i := 0) rfl rfl (.inl rfl)) (de_var B (i := 2) rfl rfl (.inl rfl))) (da_cons (de_divG ?z8 ?d9 (de_var B (i := 1) rfl rfl (.inl rfl)) (de_var B (i := 2) rfl rfl (.inl rfl))) da_nil)) (show (2 : Nat) ≤ sizeLine by decide)) ?rs_13
        (case ro5 => exact if_neg hb)
        (case z6 => rw [← hl]; exact lowC_ne hb)
        (case d7 => rw [← hl]; exact Nat.lt_of_le_of_lt (lg_lowC hb) hp)
        (case z8 => rw [← hl]; exact lowC_ne hb)
        (case d9 => rw [← hl]; exact Nat.lt_of_le_of_lt (lg_lowC hb) hp)
        (case rs_13 => rw [← hl]; exact sub_pair (rat_denN hb (fun z => hc (hl.symm.trans z))) (rat_num hb) (rat_den hb))
    case gf_6 =>
      replace hc : ¬ b < 0 := of_decide_eq_false hc; have hl : lowC t b = (Int.gcd t b : Int) := if_neg hc
      refine go_then ?go_14
      refine go_if (dt_eqI (de_var B (i := 2) rfl rfl (.inl rfl)) (de_var B (i := 1) rfl rfl (.inl rfl))) (fun hc => ?gt_15) (fun hc => ?gf_16)
      case gt_15 =>
        replace hc := of_decide_eq_true hc
        refine go_ret (R.rt (ret := .val (rNum X.K ((t : Rat) / (b : Rat)))) ?ro10) (de_divG ?z11 ?d12 (de_var B (i := 0) rfl rfl (.inl rfl)) (de_var B (i := 2) rfl rfl (.inl rfl))) ?rs_17
        (case ro10 => exact if_neg hb)
        (case z11 => rw [← hl]; exact lowC_ne hb)
        (case d12 => rw [← hl]; exact Nat.lt_of_le_of_lt (lg_lowC hb) hp)
        (case rs_17 => rw [← hl]; exact sub_whole (rat_den1 hb (hl.trans hc)) (rat_num hb))
      case gf_16 =>
        replace hc := of_decide_eq_false hc
        refine go_then ?go_18
        refine go_ret (R.rt (ret := .val (rNum X.K ((t : Rat) / (b : Rat)))) ?ro13) (de_tup (da_cons (de_divG ?z14 ?d15 (de_var B (i := 0) rfl rfl (.inl rfl)) (de_var B (i := 2) rfl rfl (.inl rfl))) (da_cons (de_divG ?z16 ?d17 (de_var B (i := 1) rfl rfl (.inl rfl)) (de_var B (i := 2) rfl rfl (.inl rfl))) da_nil)) (show (2 : Nat) ≤ sizeLine by decide)) ?rs_19
        (case ro13 => exact if_neg hb)
        (case z14 => rw [← hl]; exact lowC_ne hb)
        (case d15 => rw [← hl]; exact Nat.lt_of_le_of_lt (lg_lowC hb) hp)
        (case z16 => rw [← hl]; exact lowC_ne hb)
        (case d17 => rw [← hl]; exact Nat.lt_of_le_of_lt (lg_lowC hb) hp)
        (case rs_19 => rw [← hl]; exact sub_pair (rat_denN hb (fun z => hc (hl.symm.trans z))) (rat_num hb) (rat_den hb))
theorem sc_is_whole : FnScope ["number"] ["number"] (defScope s_is_whole) := ⟨rfl, rfl, rfl, by decide +kernel, rfl, by decide +kernel, by decide +kernel⟩
def sp_is_whole (K : PySem.W.Frag) (cs : Cs) : Sp := Pm (ι := Rat) (fun q => True) (fun q => [rNum K q]) (fun q => .val (rBl (decide (q.den = 1))))
theorem ok_is_whole (T : Txt K mg cs) : Cal P w K mg base 1 "is_whole" (sp_is_whole K cs) := by
  refine cal_ok T.d_is_whole sc_is_whole (fun g => rfl) (fun _ _ _ _ _ _ us hl => match us, hl with | [_], _ => rfl) ?_
  rintro X rfl rfl rfl rfl rfl B Bf q F0 H0 D hp R hnx
  refine go_ret R (de_not (de_isi (T := "tuple") B T.b_isinstance rty_num kit_numT (de_var B (i := 0) rfl rfl (.inl rfl)) (de_ty B T.b_tuple (by decide +kernel) rfl) rfl)) ?rs_1
  (case rs_1 => exact Sub.of (by simp))
theorem sc_is_numeral : FnScope ["text"] ["text"] (defScope s_is_numeral) := ⟨rfl, rfl, rfl, by decide +kernel, rfl, by decide +kernel, by decide +kernel⟩
def sp_is_numeral (K : PySem.W.Frag) (cs : Cs) : Sp := Pm (ι := Str) (fun x => x.length ≤ 100000) (fun x => [rStr x]) (fun x => .val (rBl (isNumr x)))
theorem ok_is_numeral (T : Txt K mg cs) : Cal P w K mg base 1 "is_numeral" (sp_is_numeral K cs) := by
  refine cal_ok T.d_is_numeral sc_is_numeral (fun g => rfl) (fun _ _ _ _ _ _ us hl => match us, hl with | [_], _ => rfl) ?_
  rintro X rfl rfl rfl rfl rfl B Bf x F0 H0 D hp R hnx
  refine go_if (DW.t (dw_or (dt_not (dt_val (de_isdigit (de_var B (i := 0) rfl rfl (.inl rfl))))) (fun hb1 => (dw_or1 (dt_gt (de_lenS B T.b_len ?g1 (de_var B (i := 0) rfl rfl (.inl rfl)) rfl) (de_glob B (v := .int 400) T.c_MOST_DIGITS rfl)))))) (fun hc => ?gt_1) (fun hc => ?gf_2)
  (case g1 => exact Nat.le_trans hp (by decide))
  case gt_1 =>
    have hc : isBdn x = true := hc
    refine go_ret R de_bl ?rs_3
    (case rs_3 => exact Sub.of (by rw [numr_t hc]))
  case gf_2 =>
    have hc : isBdn x = false := hc
    refine go_then ?go_4
    refine go_ret R (de_or (de_eqS (de_var B (i := 0) rfl rfl (.inl rfl)) de_str) (fun hb1 => (de_one (de_not (de_startswith (de_var B (i := 0) rfl rfl (.inl rfl)) de_str))))) ?rs_5
    (case rs_5 => exact Sub.of (by rw [numr_f hc]))
theorem sc__law_cell : FnScope ["_law_script", "_law_k"] ["_law_script", "_law_k"] (defScope s__law_cell) := ⟨rfl, rfl, rfl, by decide +kernel, rfl, by decide +kernel, by decide +kernel⟩
def sp__law_cell (K : PySem.W.Frag) (cs : Cs) : Sp := Pm (ι := List Int × Nat) (fun ⟨ns, k⟩ => True) (fun ⟨ns, k⟩ => [rLst K (ns.map rInt), rInt (k : Int)]) (fun ⟨ns, k⟩ => .val (rInt (ns.getD k 0)))
theorem ok__law_cell (T : Txt K mg cs) : Cal P w K mg base 1 "_law_cell" (sp__law_cell K cs) := by
  refine cal_ok T.d__law_cell sc__law_cell (fun g => rfl) (fun _ _ _ _ _ _ us hl => match us, hl with | [_, _], _ => rfl) ?_
  rintro X rfl rfl rfl rfl rfl B Bf ⟨ns, k⟩ F0 H0 D hp R hnx
  refine go_if (dt_lt (de_var B (i := 1) rfl rfl (.inl rfl)) (de_lenM B T.b_len (de_var B (i := 0) rfl rfl (.inl rfl)) rfl)) (fun hc => ?gt_1) (fun hc => ?gf_2)
  case gt_1 =>
    try (simp only [decide_eq_true_eq, decide_eq_false_iff_not, Bool.not_eq_true', Bool.not_eq_false', Bool.not_eq_true, Bool.not_eq_false] at hc)
    refine go_ret R (de_ixM (R := rInt) (0 : Int) ?xl1 ?xh2 (de_var B (i := 0) rfl rfl (.inl rfl)) (de_var B (i := 1) rfl rfl (.inl rfl))) ?rs_3
    (case xl1 => omega)
    (case xh2 => simpa using hc)
    (case rs_3 => exact Sub.rfl)
  case gf_2 =>
    try (simp only [decide_eq_true_eq, decide_eq_false_iff_not, Bool.not_eq_true', Bool.not_eq_false', Bool.not_eq_true, Bool.not_eq_false] at hc)
    refine go_then ?go_4
    refine go_ret R de_int ?rs_5
    (case rs_5 => exact Sub.of (by rw [getD_out (by simpa using hc)]))
theorem sc__law_gcd : FnScope ["_law_one", "_law_other", "_law_k"] ["_law_one", "_law_other"] (defScope s__law_gcd) := ⟨rfl, rfl, rfl, by decide +kernel, rfl, by decide +kernel, by decide +kernel⟩
def sp__law_gcd (K : PySem.W.Frag) (cs : Cs) : Sp := Pm (ι := Int × Int) (fun ⟨s, t⟩ => Lg s < 990 ∧ Lg t < 990) (fun ⟨s, t⟩ => [rInt s, rInt t]) (fun ⟨s, t⟩ => .val (rInt (Int.gcd s t : Nat)))
theorem ok__law_gcd (T : Txt K mg cs) : Cal P w K mg base 1 "_law_gcd" (sp__law_gcd K cs) := by
  refine cal_ok T.d__law_gcd sc__law_gcd (fun g => rfl) (fun _ _ _ _ _ _ us hl => match us, hl with | [_, _], _ => rfl) ?_
  rintro X rfl rfl rfl rfl rfl B Bf ⟨s, t⟩ F0 H0 D hp R hnx
  refine go_set B (i := 0) (de_abs B T.b_abs (de_var B (i := 0) rfl rfl (.inl rfl)) rfl) rfl (.inl rfl) ?go_1
  refine go_set B (i := 1) (de_abs B T.b_abs (de_var B (i := 1) rfl rfl (.inl rfl)) rfl) rfl (.inl rfl) ?go_2
  refine go_forS B (fun i => [(0, .im (rInt (eu i ((s.natAbs : Int), (t.natAbs : Int))).1)), (1, .im (rInt (eu i ((s.natAbs : Int), (t.natAbs : Int))).2)), (2, .any)]) (fun i => EuJ (s.natAbs : Int) (t.natAbs : Int) i) (sr_range1 B T.b_range de_int rfl ?r1 ?r2) _ (fun i hi => (dg_name B (i := 2) rfl (.inl rfl))) ?h0_3 ?j0_4 (fun F1 u i hi hj => ?gb_5) (fun hj => ?ge_6)
  (case r1 => decide)
  (case r2 => decide)
  (case h0_3 => refine .im ?h ?_; (case h => exact Sub.rfl); refine .im ?h ?_; (case h => exact Sub.rfl); refine .any ?_; exact .nil)
  (case j0_4 => exact euJ0 (by omega) (by omega))
  case gb_5 =>
    refine go_if (dt_eqI (de_var B (i := 1) rfl rfl (.inl rfl)) de_int) (fun hc => ?gt_7) (fun hc => ?gf_8)
    case gt_7 =>
      replace hc := of_decide_eq_true hc
      refine go_brk u ?gk_9
      case gk_9 =>
        refine go_ret R (de_var B (i := 0) rfl rfl (.inl rfl)) ?rs_10
        (case rs_10 => first | exact Sub.of (by rw [eu_gcd hj hc, gcd_abs]) | exact Sub.of (by rw [eu_gcd hj (eu_end hj (by omega) (by omega) (lg_abs hp.1) (lg_abs hp.2)), gcd_abs]))
    case gf_8 =>
      replace hc := of_decide_eq_false hc
      refine go_then ?go_11
      refine go_par B (i := 0) (j := 1) (de_var B (i := 1) rfl rfl (.inl rfl)) (de_mod ?z3 (de_toInt B T.b_int (de_var B (i := 0) rfl rfl (.inl rfl)) rfl) (de_var B (i := 1) rfl rfl (.inl rfl))) rfl rfl (by decide) rfl rfl ?go_12 (fun env h => by cases env; subst h; with_unfolding_all rfl)
      (case z3 => exact hc)
      refine go_turnS ?jn_13 ?ln_14
      (case jn_13 => exact euJ_step hj hc)
      (case ln_14 => refine .im ?h ?_; (case h => exact Sub.rfl); refine .im ?h ?_; (case h => exact Sub.rfl); refine .any ?_; exact .nil)
  case ge_6 =>
    refine go_ret R (de_var B (i := 0) rfl rfl (.inl rfl)) ?rs_15
    (case rs_15 => first | exact Sub.of (by rw [eu_gcd hj hc, gcd_abs]) | exact Sub.of (by rw [eu_gcd hj (eu_end hj (by omega) (by omega) (lg_abs hp.1) (lg_abs hp.2)), gcd_abs]))
theorem sc__law_top : FnScope ["_law_x"] ["_law_x"] (defScope s__law_top) := ⟨rfl, rfl, rfl, by decide +kernel, rfl, by decide +kernel, by decide +kernel⟩
def sp__law_top (K : PySem.W.Frag) (cs : Cs) : Sp := Pm (ι := Rat) (fun q => True) (fun q => [rNum K q]) (fun q => .val (rInt q.num))
theorem ok__law_top (T : Txt K mg cs) : Cal P w K mg base 1 "_law_top" (sp__law_top K cs) := by
  refine cal_ok T.d__law_top sc__law_top (fun g => rfl) (fun _ _ _ _ _ _ us hl => match us, hl with | [_], _ => rfl) ?_
  rintro X rfl rfl rfl rfl rfl B Bf q F0 H0 D hp R hnx
  refine go_if (dt_val (de_isi (T := "tuple") B T.b_isinstance rty_num kit_numT (de_var B (i := 0) rfl rfl (.inl rfl)) (de_ty B T.b_tuple (by decide +kernel) rfl) rfl)) (fun hc => ?gt_1) (fun hc => ?gf_2)
  case gt_1 =>
    try (simp only [decide_eq_true_eq, decide_eq_false_iff_not, Bool.not_eq_true', Bool.not_eq_false', Bool.not_eq_true, Bool.not_eq_false] at hc)
    refine go_ret R (de_num0 ?n1 (de_var B (i := 0) rfl rfl (.inl rfl))) ?rs_3
    (case n1 => simpa using hc)
    (case rs_3 => exact Sub.rfl)
  case gf_2 =>
    try (simp only [decide_eq_true_eq, decide_eq_false_iff_not, Bool.not_eq_true', Bool.not_eq_false', Bool.not_eq_true, Bool.not_eq_false] at hc)
    refine go_then ?go_4
    refine go_ret R (de_n2i ?n2 (de_var B (i := 0) rfl rfl (.inl rfl))) ?rs_5
    (case n2 => simpa using hc)
    (case rs_5 => exact Sub.rfl)
theorem sc__law_bottom : FnScope ["_law_x"] ["_law_x"] (defScope s__law_bottom) := ⟨rfl, rfl, rfl, by decide +kernel, rfl, by decide +kernel, by decide +kernel⟩
def sp__law_bottom (K : PySem.W.Frag) (cs : Cs) : Sp := Pm (ι := Rat) (fun q => True) (fun q => [rNum K q]) (fun q => .val (rInt (q.den : Int)))
theorem ok__law_bottom (T : Txt K mg cs) : Cal P w K mg base 1 "_law_bottom" (sp__law_bottom K cs) := by
  refine cal_ok T.d__law_bottom sc__law_bottom (fun g => rfl) (fun _ _ _ _ _ _ us hl => match us, hl with | [_], _ => rfl) ?_
  rintro X rfl rfl rfl rfl rfl B Bf q F0 H0 D hp R hnx
  refine go_if (dt_val (de_isi (T := "tuple") B T.b_isinstance rty_num kit_numT (de_var B (i := 0) rfl rfl (.inl rfl)) (de_ty B T.b_tuple (by decide +kernel) rfl) rfl)) (fun hc => ?gt_1) (fun hc => ?gf_2)
  case gt_1 =>
    try (simp only [decide_eq_true_eq, decide_eq_false_iff_not, Bool.not_eq_true', Bool.not_eq_false', Bool.not_eq_true, Bool.not_eq_false] at hc)
    refine go_ret R (de_num1 ?n1 (de_var B (i := 0) rfl rfl (.inl rfl))) ?rs_3
    (case n1 => simpa using hc)
    (case rs_3 => exact Sub.rfl)
  case gf_2 =>
    try (simp only [decide_eq_true_eq, decide_eq_false_iff_not, Bool.not_eq_true', Bool.not_eq_false', Bool.not_eq_true, Bool.not_eq_false] at hc)
    refine go_then ?go_4
    refine go_ret R de_int ?rs_5
    (case rs_5 => exact Sub.of (congrArg rInt (by simp at hc; omega)))
theorem sc__law_is_int : FnScope ["_law_x"] ["_law_x"] (defScope s__law_is_int) := ⟨rfl, rfl, rfl, by decide +kernel, rfl, by decide +kernel, by decide +kernel⟩
def sp__law_is_int (K : PySem.W.Frag) (cs : Cs) : Sp := Pm (ι := Rat) (fun q => True) (fun q => [rNum K q]) (fun q => .val (rBl (decide (q.den = 1))))
theorem ok__law_is_int (T : Txt K mg cs) : Cal P w K mg base 1 "_law_is_int" (sp__law_is_int K cs) := by
  refine cal_ok T.d__law_is_int sc__law_is_int (fun g => rfl) (fun _ _ _ _ _ _ us hl => match us, hl with | [_], _ => rfl) ?_
  rintro X rfl rfl rfl rfl rfl B Bf q F0 H0 D hp R hnx
  refine go_ret R (de_and (de_isi (T := "int") B T.b_isinstance rty_num kit_numI (de_var B (i := 0) rfl rfl (.inl rfl)) (de_ty B T.b_int (by decide +kernel) rfl) rfl) (fun hb1 => (de_one (de_not (de_isi (T := "bool") B T.b_isinstance rty_num kit_numB (de_var B (i := 0) rfl rfl (.inl rfl)) (de_ty B T.b_bool (by decide +kernel) rfl) rfl))))) ?rs_1
  (case rs_1 => exact Sub.of (by simp))
theorem sc_top_of : FnScope ["number"] ["number"] (defScope s_top_of) := ⟨rfl, rfl, rfl, by decide +kernel, rfl, by decide +kernel, by decide +kernel⟩
def sp_top_of (K : PySem.W.Frag) (cs : Cs) : Sp := Pm (ι := Rat) (fun q => True) (fun q => [rNum K q]) (fun q => .val (rInt q.num))
theorem ok_top_of (T : Txt K mg cs) : Cal P w K mg base 2 "top_of" (sp_top_of K cs) := by
  refine cal_ok T.d_top_of sc_top_of (fun g => rfl) (fun _ _ _ _ _ _ us hl => match us, hl with | [_], _ => rfl) ?_
  rintro X rfl rfl rfl rfl rfl B Bf q F0 H0 D hp R hnx
  refine go_ret R (de_if (dt_val (CA.val (ca_call B (ok_is_whole T) (by decide) _ trivial (da_cons (de_var B (i := 0) rfl rfl (.inl rfl)) da_nil) rfl))) (fun hc => de_n2i ?n1 (de_var B (i := 0) rfl rfl (.inl rfl))) (fun hc => de_num0 ?n2 (de_var B (i := 0) rfl rfl (.inl rfl)))) ?rs_1
  (case n1 => simpa using hc)
  (case n2 => simpa using hc)
  (case rs_1 => exact Sub.rfl)
theorem sc_bottom_of : FnScope ["number"] ["number"] (defScope s_bottom_of) := ⟨rfl, rfl, rfl, by decide +kernel, rfl, by decide +kernel, by decide +kernel⟩
def sp_bottom_of (K : PySem.W.Frag) (cs : Cs) : Sp := Pm (ι := Rat) (fun q => True) (fun q => [rNum K q]) (fun q => .val (rInt (q.den : Int)))
theorem ok_bottom_of (T : Txt K mg cs) : Cal P w K mg base 2 "bottom_of" (sp_bottom_of K cs) := by
  refine cal_ok T.d_bottom_of sc_bottom_of (fun g => rfl) (fun _ _ _ _ _ _ us hl => match us, hl with | [_], _ => rfl) ?_
  rintro X rfl rfl rfl rfl rfl B Bf q F0 H0 D hp R hnx
  refine go_ret R (de_if (dt_val (CA.val (ca_call B (ok_is_whole T) (by decide) _ trivial (da_cons (de_var B (i := 0) rfl rfl (.inl rfl)) da_nil) rfl))) (fun hc => DE.to (r' := rInt (q.den : Int)) de_int ?e1) (fun hc => de_num1 ?n2 (de_var B (i := 0) rfl rfl (.inl rfl)))) ?rs_1
  (case e1 => have h : q.den = 1 := (by simpa using hc); exact congrArg rInt (by omega))
  (case n2 => simpa using hc)
  (case rs_1 => exact Sub.rfl)
theorem sc_number_text : FnScope ["number", "top", "bottom"] ["number"] (defScope s_number_text) := ⟨rfl, rfl, rfl, by decide +kernel, rfl, by decide +kernel, by decide +kernel⟩
def sp_number_text (K : PySem.W.Frag) (cs : Cs) : Sp := Pm (ι := Rat) (fun q => Sz 1900 q) (fun q => [rNum K q]) (fun q => .val (rStr (numText q)))
theorem ok_number_text (T : Txt K mg cs) : Cal P w K mg base 2 "number_text" (sp_number_text K cs) := by
  refine cal_ok T.d_number_text sc_number_text (fun g => rfl) (fun _ _ _ _ _ _ us hl => match us, hl with | [_], _ => rfl) ?_
  rintro X rfl rfl rfl rfl rfl B Bf q F0 H0 D hp R hnx
  refine go_if (dt_val (CA.val (ca_call B (ok_is_whole T) (by decide) _ trivial (da_cons (de_var B (i := 0) rfl rfl (.inl rfl)) da_nil) rfl))) (fun hc => ?gt_1) (fun hc => ?gf_2)
  case gt_1 =>
    replace hc : q.den = 1 := of_decide_eq_true hc
    refine go_ret R (de_strI B T.b_str ?g2 (de_n2i ?n1 (de_var B (i := 0) rfl rfl (.inl rfl))) rfl) ?rs_3
    (case n1 => exact hc)
    (case g2 => first | exact Nat.lt_of_le_of_lt hp.1 (by decide) | exact Nat.lt_of_le_of_lt hp.2 (by decide))
    (case rs_3 => exact Sub.of (by rw [numText, if_pos hc]))
  case gf_2 =>
    replace hc : q.den ≠ 1 := of_decide_eq_false hc
    refine go_then ?go_4
    refine go_asg (de_n2t ?n3 (de_var B (i := 0) rfl rfl (.inl rfl))) (dg_tup B (dgs_cons (dg_name B (i := 1) rfl (.inl rfl)) (dgs_cons (dg_name B (i := 2) rfl (.inl rfl)) dgs_nil))) ?go_5
    (case n3 => exact hc)
    refine go_ret R (de_fstr2 ?g4 ?g5 ?f6 (de_var B (i := 1) rfl rfl (.inl rfl)) (de_var B (i := 2) rfl rfl (.inl rfl))) ?rs_6
    (case g4 => first | exact Nat.lt_of_le_of_lt hp.1 (by decide) | exact Nat.lt_of_le_of_lt hp.2 (by decide))
    (case g5 => first | exact Nat.lt_of_le_of_lt hp.1 (by decide) | exact Nat.lt_of_le_of_lt hp.2 (by decide))
    (case f6 => exact fstr_len hp)
    (case rs_6 => exact Sub.of (by rw [numText, if_neg hc]))
theorem sc__law_numbers : FnScope ["_law_script", "_law_k", "_law_many", "_law_cell_here", "_law_row", "_law_j", "_law_mixed"] ["_law_script", "_law_k", "_law_many"] (defScope s__law_numbers) := ⟨rfl, rfl, rfl, by decide +kernel, rfl, by decide +kernel, by decide +kernel⟩
def sp__law_numbers (K : PySem.W.Frag) (cs : Cs) : Sp := Pm (ι := List Int × Nat × Nat) (fun ⟨ns, k, many⟩ => many ≤ 100) (fun ⟨ns, k, many⟩ => [rLst K (ns.map rInt), rInt (k : Int), rInt (many : Int)]) (fun ⟨ns, k, many⟩ => .lst ((lawNums ns k many).map rInt))
theorem ok__law_numbers (T : Txt K mg cs) : Cal P w K mg base 2 "_law_numbers" (sp__law_numbers K cs) := by
  refine cal_ok T.d__law_numbers sc__law_numbers (fun g => rfl) (fun _ _ _ _ _ _ us hl => match us, hl with | [_, _, _], _ => rfl) ?_
  rintro X rfl rfl rfl rfl rfl B Bf ⟨ns, k, many⟩ F0 H0 D hp R hnx
  refine go_set B (i := 3) (de_abs B T.b_abs (CA.val (ca_call B (ok__law_cell T) (by decide) (_, _) trivial (da_cons (de_var B (i := 0) rfl rfl (.inl rfl)) (da_cons (de_var B (i := 1) rfl rfl (.inl rfl)) da_nil)) rfl)) rfl) rfl (.inl rfl) ?go_1
  refine go_setL B (i := 4) (dl_lst da_nil (show (0 : Nat) ≤ sizeLine by decide)) rfl (.inl rfl) ?go_2
  refine go_if (dt_ge (de_var B (i := 3) rfl rfl (.inl rfl)) (de_pow ⟨by decide, by decide, by decide⟩ de_int de_int)) (fun hc => ?gt_3) (fun hc => ?gf_4)
  case gt_3 =>
    replace hc : (10 : Int) ^ 18 ≤ ((ns.getD k 0).natAbs : Int) := of_decide_eq_true hc
    refine go_forS B (fun i => [(3, .im (rInt (divs (ns.getD k 0).natAbs i))), (4, .ow (((List.range i).map (bigN (ns.getD k 0).natAbs)).map rInt)), (5, .any)]) (fun i => True) (sr_range1 B T.b_range (de_var B (i := 2) rfl rfl (.inl rfl)) rfl ?r1 ?r2) _ (fun i hi => (dg_name B (i := 5) rfl (.inl rfl))) ?h0_5 ?j0_6 (fun F1 u i hi hj => ?gb_7) (fun hj => ?ge_8)
    (case r1 => first | omega | (have := hp; omega))
    (case r2 => first | omega | (have := hp; omega))
    (case h0_5 => refine .same ?_; refine .same ?_; refine .same ?_; refine .im ?h ?_; (case h => exact Sub.rfl); refine .ow ?h ?_; (case h => rfl); refine .any ?_; refine .same ?_; exact .nil)
    (case j0_6 => trivial)
    case gb_7 =>
      refine go_append B (i := 4) rfl (de_mod ?z3 (de_toInt B T.b_int (de_var B (i := 3) rfl rfl (.inl rfl)) rfl) de_int) ?s4 rfl (.inl rfl) ?go_9
      (case z3 => decide)
      (case s4 => simp; exact Nat.lt_of_le_of_lt (by omega : i ≤ 100) (by decide))
      refine go_set B (i := 3) (de_divG ?z5 ?d6 (de_var B (i := 3) rfl rfl (.inl rfl)) de_int) rfl (.inl rfl) ?go_10
      (case z5 => decide)
      (case d6 => decide)
      refine go_turnS ?jn_11 ?ln_12
      (case jn_11 => trivial)
      (case ln_12 => refine .same ?_; refine .same ?_; refine .same ?_; refine .im ?h ?_; (case h => exact Sub.rfl); refine .ow ?h ?_; (case h => rw [List.range_succ]; simp [bigN]); refine .any ?_; refine .same ?_; exact .nil)
    case ge_8 =>
      refine go_retV B (i := 4) R rfl ?rs_13 rfl (.inl rfl)
      (case rs_13 => first | rw [lawNums, if_pos hc, Int.toNat_natCast] | rw [lawNums, if_neg hc, Int.toNat_natCast])
  case gf_4 =>
    replace hc : ¬ (10 : Int) ^ 18 ≤ ((ns.getD k 0).natAbs : Int) := of_decide_eq_false hc; have hc2 : (((ns.getD k 0).natAbs : Int)).natAbs < 18446744073709551616 := by omega
    refine go_then ?go_14
    refine go_forS B (fun i => [(4, .ow (((List.range i).map (smallN (ns.getD k 0).natAbs)).map rInt)), (5, .any), (6, .any)]) (fun i => True) (sr_range1 B T.b_range (de_var B (i := 2) rfl rfl (.inl rfl)) rfl ?r7 ?r8) _ (fun i hi => (dg_name B (i := 5) rfl (.inl rfl))) ?h0_15 ?j0_16 (fun F1 u i hi hj => ?gb_17) (fun hj => ?ge_18)
    (case r7 => first | omega | (have := hp; omega))
    (case r8 => first | omega | (have := hp; omega))
    (case h0_15 => refine .same ?_; refine .same ?_; refine .same ?_; refine .same ?_; refine .ow ?h ?_; (case h => rfl); refine .any ?_; refine .any ?_; exact .nil)
    (case j0_16 => trivial)
    case gb_17 =>
      refine go_set B (i := 6) (de_mod ?z11 (de_toInt B T.b_int (de_add (de_add (de_mulG ?m9 (de_var B (i := 3) rfl rfl (.inl rfl)) de_int) (de_mulG ?m10 de_int (de_var B (i := 5) rfl rfl (.inl rfl)))) de_int) rfl) de_int) rfl (.inl rfl) ?go_19
      (case m9 => first | exact mul_s hc2 (by decide) | exact mul_s (by decide) (by omega) | exact mul_s (sm16 _) (by decide))
      (case m10 => first | exact mul_s hc2 (by decide) | exact mul_s (by decide) (by omega) | exact mul_s (sm16 _) (by decide))
      (case z11 => decide)
      refine go_append B (i := 4) rfl (de_mod ?z15 (de_toInt B T.b_int (de_add (de_mulG ?m14 (de_divG ?z12 ?d13 (de_var B (i := 6) rfl rfl (.inl rfl)) de_int) de_int) (de_var B (i := 5) rfl rfl (.inl rfl))) rfl) de_int) ?s16 rfl (.inl rfl) ?go_20
      (case z12 => decide)
      (case d13 => decide)
      (case m14 => first | exact mul_s hc2 (by decide) | exact mul_s (by decide) (by omega) | exact mul_s (sm16 _) (by decide))
      (case z15 => decide)
      (case s16 => simp; exact Nat.lt_of_le_of_lt (by omega : i ≤ 100) (by decide))
      refine go_turnS ?jn_21 ?ln_22
      (case jn_21 => trivial)
      (case ln_22 => refine .same ?_; refine .same ?_; refine .same ?_; refine .same ?_; refine .ow ?h ?_; (case h => rw [List.range_succ]; simp [smallN]); refine .any ?_; refine .any ?_; exact .nil)
    case ge_18 =>
      refine go_retV B (i := 4) R rfl ?rs_23 rfl (.inl rfl)
      (case rs_23 => first | rw [lawNums, if_pos hc, Int.toNat_natCast] | rw [lawNums, if_neg hc, Int.toNat_natCast])
theorem sc__law_make : FnScope ["_law_top_here", "_law_bottom_here", "_law_common"] ["_law_top_here", "_law_bottom_here"] (defScope s__law_make) := ⟨rfl, rfl, rfl, by decide +kernel, rfl, by decide +kernel, by decide +kernel⟩
def sp__law_make (K : PySem.W.Frag) (cs : Cs) : Sp := Pm (ι := Int × Int) (fun ⟨t, b⟩ => b ≠ 0 ∧ Lg t < 990 ∧ Lg b < 990) (fun ⟨t, b⟩ => [rInt t, rInt b]) (fun ⟨t, b⟩ => .val (rNum K ((t : Rat) / (b : Rat))))
theorem ok__law_make (T : Txt K mg cs) : Cal P w K mg base 2 "_law_make" (sp__law_make K cs) := by
  refine cal_ok T.d__law_make sc__law_make (fun g => rfl) (fun _ _ _ _ _ _ us hl => match us, hl with | [_, _], _ => rfl) ?_
  rintro X rfl rfl rfl rfl rfl B Bf ⟨t, b⟩ F0 H0 D hp R hnx
  obtain ⟨hb, hp1, hp2⟩ := hp
  refine go_set B (i := 2) (CA.val (ca_call B (ok__law_gcd T) (by decide) (_, _) ?c_law_gcd_1 (da_cons (de_var B (i := 0) rfl rfl (.inl rfl)) (da_cons (de_var B (i := 1) rfl rfl (.inl rfl)) da_nil)) rfl)) rfl (.inl rfl) ?go_1
  (case c_law_gcd_1 => exact ⟨hp1, hp2⟩)
  refine go_if (dt_lt (de_var B (i := 1) rfl rfl (.inl rfl)) de_int) (fun hc => ?gt_2) (fun hc => ?gf_3)
  case gt_2 =>
    replace hc : b < 0 := of_decide_eq_true hc; have hl : lowC t b = -(Int.gcd t b : Int) := if_pos hc
    refine go_set B (i := 2) (de_neg (de_var B (i := 2) rfl rfl (.inl rfl))) rfl (.inl rfl) ?go_4
    refine go_then ?go_5
    refine go_if (dt_eqI (de_divG ?z2 ?d3 (de_var B (i := 1) rfl rfl (.inl rfl)) (de_var B (i := 2) rfl rfl (.inl rfl))) de_int) (fun hc => ?gt_6) (fun hc => ?gf_7)
    (case z2 => rw [← hl]; exact lowC_ne hb)
    (case d3 => rw [← hl]; exact Nat.lt_of_le_of_lt (lg_lowC hb) (Nat.lt_trans hp2 (by decide)))
    case gt_6 =>
      replace hc := of_decide_eq_true hc
      refine go_ret R (de_divG ?z4 ?d5 (de_var B (i := 0) rfl rfl (.inl rfl)) (de_var B (i := 2) rfl rfl (.inl rfl))) ?rs_8
      (case z4 => rw [← hl]; exact lowC_ne hb)
      (case d5 => rw [← hl]; exact Nat.lt_of_le_of_lt (lg_lowC hb) (Nat.lt_trans hp2 (by decide)))
      (case rs_8 => rw [← hl] at hc ⊢; exact sub_whole (rat_den1b hb hc) (rat_num hb))
    case gf_7 =>
      replace hc := of_decide_eq_false hc
      refine go_then ?go_9
      refine go_ret R (de_tup (da_cons (de_divG ?z6 ?d7 (de_var B (i := 0) rfl rfl (.inl rfl)) (de_var B (i := 2) rfl rfl (.inl rfl))) (da_cons (de_divG ?z8 ?d9 (de_var B (i := 1) rfl rfl (.inl rfl)) (de_var B (i := 2) rfl rfl (.inl rfl))) da_nil)) (show (2 : Nat) ≤ sizeLine by decide)) ?rs_10
      (case z6 => rw [← hl]; exact lowC_ne hb)
      (case d7 => rw [← hl]; exact Nat.lt_of_le_of_lt (lg_lowC hb) (Nat.lt_trans hp2 (by decide)))
      (case z8 => rw [← hl]; exact lowC_ne hb)
      (case d9 => rw [← hl]; exact Nat.lt_of_le_of_lt (lg_lowC hb) (Nat.lt_trans hp2 (by decide)))
      (case rs_10 => rw [← hl] at hc ⊢; exact sub_pair hc (rat_num hb) (rat_den hb))
  case gf_3 =>
    replace hc : ¬ b < 0 := of_decide_eq_false hc; have hl : lowC t b = (Int.gcd t b : Int) := if_neg hc
    refine go_then ?go_11
    refine go_if (dt_eqI (de_divG ?z10 ?d11 (de_var B (i := 1) rfl rfl (.inl rfl)) (de_var B (i := 2) rfl rfl (.inl rfl))) de_int) (fun hc => ?gt_12) (fun hc => ?gf_13)
    (case z10 => rw [← hl]; exact lowC_ne hb)
    (case d11 => rw [← hl]; exact Nat.lt_of_le_of_lt (lg_lowC hb) (Nat.lt_trans hp2 (by decide)))
    case gt_12 =>
      replace hc := of_decide_eq_true hc
      refine go_ret R (de_divG ?z12 ?d13 (de_var B (i := 0) rfl rfl (.inl rfl)) (de_var B (i := 2) rfl rfl (.inl rfl))) ?rs_14
      (case z12 => rw [← hl]; exact lowC_ne hb)
      (case d13 => rw [← hl]; exact Nat.lt_of_le_of_lt (lg_lowC hb) (Nat.lt_trans hp2 (by decide)))
      (case rs_14 => rw [← hl] at hc ⊢; exact sub_whole (rat_den1b hb hc) (rat_num hb))
    case gf_13 =>
      replace hc := of_decide_eq_false hc
      refine go_then ?go_15
      refine go_ret R (de_tup (da_cons (de_divG ?z14 ?d15 (de_var B (i := 0) rfl rfl (.inl rfl)) (de_var B (i := 2) rfl rfl (.inl rfl))) (da_cons (de_divG ?z16 ?d17 (de_var B (i := 1) rfl rfl (.inl rfl)) (de_var B (i := 2) rfl rfl (.inl rfl))) da_nil)) (show (2 : Nat) ≤ sizeLine by decide)) ?rs_16
      (case z14 => rw [← hl]; exact lowC_ne hb)
      (case d15 => rw [← hl]; exact Nat.lt_of_le_of_lt (lg_lowC hb) (Nat.lt_trans hp2 (by decide)))
      (case z16 => rw [← hl]; exact lowC_ne hb)
      (case d17 => rw [← hl]; exact Nat.lt_of_le_of_lt (lg_lowC hb) (Nat.lt_trans hp2 (by decide)))
      (case rs_16 => rw [← hl] at hc ⊢; exact sub_pair hc (rat_num hb) (rat_den hb))
theorem sc__law_is_number : FnScope ["_law_x"] ["_law_x"] (defScope s__law_is_number) := ⟨rfl, rfl, rfl, by decide +kernel, rfl, by decide +kernel, by decide +kernel⟩
def sp__law_is_number (K : PySem.W.Frag) (cs : Cs) : Sp := Pm (ι := Rat) (fun q => Sz 989 q) (fun q => [rNum K q]) (fun q => .val (rBl true))
theorem ok__law_is_number (T : Txt K mg cs) : Cal P w K mg base 2 "_law_is_number" (sp__law_is_number K cs) := by
  refine cal_ok T.d__law_is_number sc__law_is_number (fun g => rfl) (fun _ _ _ _ _ _ us hl => match us, hl with | [_], _ => rfl) ?_
  rintro X rfl rfl rfl rfl rfl B Bf q F0 H0 D hp R hnx
  refine go_if (dt_val (CA.val (ca_call B (ok__law_is_int T) (by decide) _ trivial (da_cons (de_var B (i := 0) rfl rfl (.inl rfl)) da_nil) rfl))) (fun hc => ?gt_1) (fun hc => ?gf_2)
  case gt_1 =>
    skip
    refine go_ret R de_bl ?rs_3
    (case rs_3 => exact Sub.rfl)
  case gf_2 =>
    have hd : q.den ≠ 1 := by simpa using hc
    refine go_then ?go_4
    refine go_if (DW.t (dw_or (dt_not (dt_val (de_isi (T := "tuple") B T.b_isinstance rty_num kit_numT (de_var B (i := 0) rfl rfl (.inl rfl)) (de_ty B T.b_tuple (by decide +kernel) rfl) rfl))) (fun hb1 => (dw_or (dt_neI (de_lenT B T.b_len (de_n2t ?n1 (de_var B (i := 0) rfl rfl (.inl rfl))) rfl) de_int) (fun hb2 => (dw_or (dt_not (dt_val (CA.val (ca_call B (ok__law_is_int T) (by decide) _ trivial (da_cons (de_i2n (de_num0 ?n2 (de_var B (i := 0) rfl rfl (.inl rfl)))) da_nil) rfl)))) (fun hb3 => (dw_or1 (dt_not (dt_val (CA.val (ca_call B (ok__law_is_int T) (by decide) _ trivial (da_cons (de_i2n (de_num1 ?n3 (de_var B (i := 0) rfl rfl (.inl rfl)))) da_nil) rfl)))))))))))) (fun hc => ?gt_5) (fun hc => ?gf_6)
    (case n1 => exact hd)
    (case n2 => exact hd)
    (case n3 => exact hd)
    case gt_5 =>
      try (simp only [decide_eq_true_eq, decide_eq_false_iff_not, Bool.not_eq_true', Bool.not_eq_false', Bool.not_eq_true, Bool.not_eq_false] at hc)
      refine go_ret R de_bl ?rs_7
      (case rs_7 => exfalso; simp [hd] at hc)
    case gf_6 =>
      try (simp only [decide_eq_true_eq, decide_eq_false_iff_not, Bool.not_eq_true', Bool.not_eq_false', Bool.not_eq_true, Bool.not_eq_false] at hc)
      refine go_then ?go_8
      refine go_ret R (de_and (de_geI (de_num1 ?n4 (de_var B (i := 0) rfl rfl (.inl rfl))) de_int) (fun hb1 => (de_one (de_eqI (CA.val (ca_call B (ok__law_gcd T) (by decide) (_, _) ?c_law_gcd_7 (da_cons (de_num0 ?n5 (de_var B (i := 0) rfl rfl (.inl rfl))) (da_cons (de_num1 ?n6 (de_var B (i := 0) rfl rfl (.inl rfl))) da_nil)) rfl)) de_int)))) ?rs_9
      (case n4 => exact hd)
      (case n5 => exact hd)
      (case n6 => exact hd)
      (case c_law_gcd_7 => exact ⟨Nat.lt_of_le_of_lt hp.1 (by decide), Nat.lt_of_le_of_lt hp.2 (by decide)⟩)
      (case rs_9 => exact Sub.of (by rw [low_terms hd]))
theorem sc__law_no_ratio : FnScope ["_law_top_here", "_law_e"] ["_law_top_here"] (defScope s__law_no_ratio) := ⟨rfl, rfl, rfl, by decide +kernel, rfl, by decide +kernel, by decide +kernel⟩
def sp__law_no_ratio (K : PySem.W.Frag) (cs : Cs) : Sp := Pm (ι := Int) (fun t => True) (fun t => [rInt t]) (fun t => .val (rBl true))
theorem ok__law_no_ratio (T : Txt K mg cs) : Cal P w K mg base 2 "_law_no_ratio" (sp__law_no_ratio K cs) := by
  refine cal_okT T.d__law_no_ratio sc__law_no_ratio (fun g => rfl) (fun _ _ _ _ _ _ us hl => match us, hl with | [_], _ => rfl) ?_
  rintro X rfl rfl rfl rfl rfl Z B Bf t F0 H0 D hp R hnx
  refine go_tryR B Z (i := 1) rfl rfl rfl T.x_ZeroBottom.g (by decide) (fun pn xe B2 tk2 => ?gy_1)
  refine go_exprE (C := cs.ZeroBottom) (ex_call B2 tk2 (ok_ratio T) (by decide) (_, _) ?c_ratio_1 ?o_ratio_2 (da_cons (de_var B2 (i := 0) rfl rfl (.inl rfl)) (da_cons de_int da_nil)) rfl) (fun F H σ en H1 s1 => ⟨true, PySem.W.exm_ref T.x_ZeroBottom.bs T.x_ZeroBottom.hd T.x_ZeroBottom.ty T.s_ZeroBottom_ZeroBottom, fun _ al hal oe pn2 hz hv => ?gx_2, nofun⟩)
  (case c_ratio_1 => exact (show Lg (0 : Int) < 9000 by decide))
  (case o_ratio_2 => rfl)
  have hgl : ∀ x : Str, (defScope s__law_no_ratio).names.lookup x = some .globalImplicit → Gl (X.suite al ((al, oe) :: pn2)) x := fun x h => by show X.env.scope.names.lookup x = _; rw [B.hsc]; exact h
  have hlen : σ.length = 2 := by rw [← en.len]; rfl
  have hsl : (σ.set 1 (some (.ref al)))[1]? = some (some (.ref al)) := by rw [List.getElem?_set_self (by omega)]
  refine suite_ret (u := true) (ix_and (ix_is T.e_ZeroBottom hz hv B.hsc B.hN T.b_isinstance rfl (i := 1) rfl (.inl rfl) hsl (clsE_own (hgl _ (by rfl)) T.x_BookError.g) T.k_ZeroBottom_BookError) (ix_and (ix_is T.e_ZeroBottom hz hv B.hsc B.hN T.b_isinstance rfl (i := 1) rfl (.inl rfl) hsl (clsE_blt (hgl _ (by rfl)) T.b_ValueError (by decide +kernel)) T.k_ZeroBottom_ValueError) (ix_one (ix_not (ix_is T.e_ZeroBottom hz hv B.hsc B.hN T.b_isinstance rfl (i := 1) rfl (.inl rfl) hsl (clsE_own (hgl _ (by rfl)) T.x_BadText.g) T.k_ZeroBottom_BadText))))) ?gr_3
  exact R _ F H1 (en.gr.trans ⟨Same.refl _, s1, en.gr.s.trans s1, fun _ _ z => z⟩) (Sub.rfl F _ rfl)
theorem sc_plus : FnScope ["x", "y", "bottom"] ["x", "y"] (defScope s_plus) := ⟨rfl, rfl, rfl, by decide +kernel, rfl, by decide +kernel, by decide +kernel⟩
def sp_plus (K : PySem.W.Frag) (cs : Cs) : Sp := Pm (ι := Rat × Rat) (fun ⟨q, r⟩ => Sz 4000 q ∧ Sz 4000 r) (fun ⟨q, r⟩ => [rNum K q, rNum K r]) (fun ⟨q, r⟩ => .val (rNum K (q + r)))
theorem ok_plus (T : Txt K mg cs) : Cal P w K mg base 3 "plus" (sp_plus K cs) := by
  refine cal_ok T.d_plus sc_plus (fun g => rfl) (fun _ _ _ _ _ _ us hl => match us, hl with | [_, _], _ => rfl) ?_
  rintro X rfl rfl rfl rfl rfl B Bf ⟨q, r⟩ F0 H0 D hp R hnx
  refine go_set B (i := 2) (CA.val (ca_call B (ok_bottom_of T) (by decide) _ trivial (da_cons (de_var B (i := 1) rfl rfl (.inl rfl)) da_nil) rfl)) rfl (.inl rfl) ?go_1
  refine go_ret R (CA.val (ca_callO (okr_ratio X.K) B (ok_ratio T) (by decide) (_, _) ?c_ratio_4 ?o_ratio_5 (da_cons (de_add (de_mulG ?m1 (CA.val (ca_call B (ok_top_of T) (by decide) _ trivial (da_cons (de_var B (i := 0) rfl rfl (.inl rfl)) da_nil) rfl)) (de_var B (i := 2) rfl rfl (.inl rfl))) (de_mulG ?m2 (CA.val (ca_call B (ok_top_of T) (by decide) _ trivial (da_cons (de_var B (i := 1) rfl rfl (.inl rfl)) da_nil) rfl)) (CA.val (ca_call B (ok_bottom_of T) (by decide) _ trivial (da_cons (de_var B (i := 0) rfl rfl (.inl rfl)) da_nil) rfl)))) (da_cons (de_mulG ?m3 (CA.val (ca_call B (ok_bottom_of T) (by decide) _ trivial (da_cons (de_var B (i := 0) rfl rfl (.inl rfl)) da_nil) rfl)) (de_var B (i := 2) rfl rfl (.inl rfl))) da_nil)) rfl)) ?rs_2
  (case m1 => grind [lg_mul, lg_add, lg_sub, lg_neg, Sz])
  (case m2 => grind [lg_mul, lg_add, lg_sub, lg_neg, Sz])
  (case m3 => grind [lg_mul, lg_add, lg_sub, lg_neg, Sz])
  (case c_ratio_4 => grind [lg_mul, Sz])
  (case o_ratio_5 => exact if_neg (dd_ne q r))
  (case rs_2 => exact Sub.of (by rw [r_plus]))
theorem sc_minus : FnScope ["x", "y", "bottom"] ["x", "y"] (defScope s_minus) := ⟨rfl, rfl, rfl, by decide +kernel, rfl, by decide +kernel, by decide +kernel⟩
def sp_minus (K : PySem.W.Frag) (cs : Cs) : Sp := Pm (ι := Rat × Rat) (fun ⟨q, r⟩ => Sz 4000 q ∧ Sz 4000 r) (fun ⟨q, r⟩ => [rNum K q, rNum K r]) (fun ⟨q, r⟩ => .val (rNum K (q - r)))
theorem ok_minus (T : Txt K mg cs) : Cal P w K mg base 3 "minus" (sp_minus K cs) := by
  refine cal_ok T.d_minus sc_minus (fun g => rfl) (fun _ _ _ _ _ _ us hl => match us, hl with | [_, _], _ => rfl) ?_
  rintro X rfl rfl rfl rfl rfl B Bf ⟨q, r⟩ F0 H0 D hp R hnx
  refine go_set B (i := 2) (CA.val (ca_call B (ok_bottom_of T) (by decide) _ trivial (da_cons (de_var B (i := 1) rfl rfl (.inl rfl)) da_nil) rfl)) rfl (.inl rfl) ?go_1
  refine go_ret R (CA.val (ca_callO (okr_ratio X.K) B (ok_ratio T) (by decide) (_, _) ?c_ratio_4 ?o_ratio_5 (da_cons (de_sub (de_mulG ?m1 (CA.val (ca_call B (ok_top_of T) (by decide) _ trivial (da_cons (de_var B (i := 0) rfl rfl (.inl rfl)) da_nil) rfl)) (de_var B (i := 2) rfl rfl (.inl rfl))) (de_mulG ?m2 (CA.val (ca_call B (ok_top_of T) (by decide) _ trivial (da_cons (de_var B (i := 1) rfl rfl (.inl rfl)) da_nil) rfl)) (CA.val (ca_call B (ok_bottom_of T) (by decide) _ trivial (da_cons (de_var B (i := 0) rfl rfl (.inl rfl)) da_nil) rfl)))) (da_cons (de_mulG ?m3 (CA.val (ca_call B (ok_bottom_of T) (by decide) _ trivial (da_cons (de_var B (i := 0) rfl rfl (.inl rfl)) da_nil) rfl)) (de_var B (i := 2) rfl rfl (.inl rfl))) da_nil)) rfl)) ?rs_2
  (case m1 => grind [lg_mul, lg_add, lg_sub, lg_neg, Sz])
  (case m2 => grind [lg_mul, lg_add, lg_sub, lg_neg, Sz])
  (case m3 => grind [lg_mul, lg_add, lg_sub, lg_neg, Sz])
  (case c_ratio_4 => grind [lg_mul, Sz])
  (case o_ratio_5 => exact if_neg (dd_ne q r))
  (case rs_2 => exact Sub.of (by rw [r_minus]))
theorem sc_times : FnScope ["x", "y"] ["x", "y"] (defScope s_times) := ⟨rfl, rfl, rfl, by decide +kernel, rfl, by decide +kernel, by decide +kernel⟩
def sp_times (K : PySem.W.Frag) (cs : Cs) : Sp := Pm (ι := Rat × Rat) (fun ⟨q, r⟩ => Sz 4000 q ∧ Sz 4000 r) (fun ⟨q, r⟩ => [rNum K q, rNum K r]) (fun ⟨q, r⟩ => .val (rNum K (q * r)))
theorem ok_times (T : Txt K mg cs) : Cal P w K mg base 3 "times" (sp_times K cs) := by
  refine cal_ok T.d_times sc_times (fun g => rfl) (fun _ _ _ _ _ _ us hl => match us, hl with | [_, _], _ => rfl) ?_
  rintro X rfl rfl rfl rfl rfl B Bf ⟨q, r⟩ F0 H0 D hp R hnx
  refine go_ret R (CA.val (ca_callO (okr_ratio X.K) B (ok_ratio T) (by decide) (_, _) ?c_ratio_3 ?o_ratio_4 (da_cons (de_mulG ?m1 (CA.val (ca_call B (ok_top_of T) (by decide) _ trivial (da_cons (de_var B (i := 0) rfl rfl (.inl rfl)) da_nil) rfl)) (CA.val (ca_call B (ok_top_of T) (by decide) _ trivial (da_cons (de_var B (i := 1) rfl rfl (.inl rfl)) da_nil) rfl))) (da_cons (de_mulG ?m2 (CA.val (ca_call B (ok_bottom_of T) (by decide) _ trivial (da_cons (de_var B (i := 0) rfl rfl (.inl rfl)) da_nil) rfl)) (CA.val (ca_call B (ok_bottom_of T) (by decide) _ trivial (da_cons (de_var B (i := 1) rfl rfl (.inl rfl)) da_nil) rfl))) da_nil)) rfl)) ?rs_1
  (case m1 => grind [lg_mul, lg_add, lg_sub, lg_neg, Sz])
  (case m2 => grind [lg_mul, lg_add, lg_sub, lg_neg, Sz])
  (case c_ratio_3 => grind [lg_mul, Sz])
  (case o_ratio_4 => exact if_neg (dd_ne q r))
  (case rs_1 => exact Sub.of (by rw [r_times]))
theorem sc_over : FnScope ["x", "y"] ["x", "y"] (defScope s_over) := ⟨rfl, rfl, rfl, by decide +kernel, rfl, by decide +kernel, by decide +kernel⟩
def sp_over (K : PySem.W.Frag) (cs : Cs) : Sp := PmX (ι := Rat × Rat) (fun ⟨q, r⟩ => Sz 4000 q ∧ Sz 4000 r) (fun ⟨q, r⟩ => [rNum K q, rNum K r]) (fun ⟨q, r⟩ => if r = 0 then .err cs.ZeroBottom else .ok (.val (rNum K (q / r))))
abbrev okr_over (K : PySem.W.Frag) : Rat × Rat → Ret := fun ⟨q, r⟩ => .val (rNum K (q / r))
theorem ok_over (T : Txt K mg cs) : Cal P w K mg base 3 "over" (sp_over K cs) := by
  refine cal_okX T.d_over sc_over (fun g => rfl) (fun _ _ _ _ _ _ us hl => match us, hl with | [_, _], _ => rfl) ?_
  rintro X rfl rfl rfl rfl rfl B Bf ⟨q, r⟩ F0 H0 D E tk hp R hnx
  by_cases hz : r = 0
  · refine go_retE (ex_call B tk (ok_ratio T) (by decide) (_, _) ?c_ratio_3 ?o_ratio_4 (da_cons (de_mulG ?m1 (CA.val (ca_call B (ok_top_of T) (by decide) _ trivial (da_cons (de_var B (i := 0) rfl rfl (.inl rfl)) da_nil) rfl)) (CA.val (ca_call B (ok_bottom_of T) (by decide) _ trivial (da_cons (de_var B (i := 1) rfl rfl (.inl rfl)) da_nil) rfl))) (da_cons (de_mulG ?m2 (CA.val (ca_call B (ok_bottom_of T) (by decide) _ trivial (da_cons (de_var B (i := 0) rfl rfl (.inl rfl)) da_nil) rfl)) (CA.val (ca_call B (ok_top_of T) (by decide) _ trivial (da_cons (de_var B (i := 1) rfl rfl (.inl rfl)) da_nil) rfl))) da_nil)) rfl) (fun F H σ en H1 s1 => R.er (C := cs.ZeroBottom) ?re5 H1 (en.gr.h.trans s1))
    (case m1 => grind [lg_mul, lg_add, lg_sub, lg_neg, Sz])
    (case m2 => grind [lg_mul, lg_add, lg_sub, lg_neg, Sz])
    (case c_ratio_3 => grind [lg_mul, Sz])
    (case o_ratio_4 => first | (subst hz; exact if_pos (by simp)) | exact if_neg (dn_ne hz))
    (case re5 => exact if_pos hz)
  refine go_ret (R.rt (ret := .val (rNum X.K (q / r))) ?ro6) (CA.val (ca_callO (okr_ratio X.K) B (ok_ratio T) (by decide) (_, _) ?c_ratio_9 ?o_ratio_10 (da_cons (de_mulG ?m7 (CA.val (ca_call B (ok_top_of T) (by decide) _ trivial (da_cons (de_var B (i := 0) rfl rfl (.inl rfl)) da_nil) rfl)) (CA.val (ca_call B (ok_bottom_of T) (by decide) _ trivial (da_cons (de_var B (i := 1) rfl rfl (.inl rfl)) da_nil) rfl))) (da_cons (de_mulG ?m8 (CA.val (ca_call B (ok_bottom_of T) (by decide) _ trivial (da_cons (de_var B (i := 0) rfl rfl (.inl rfl)) da_nil) rfl)) (CA.val (ca_call B (ok_top_of T) (by decide) _ trivial (da_cons (de_var B (i := 1) rfl rfl (.inl rfl)) da_nil) rfl))) da_nil)) rfl)) ?rs_1
  (case ro6 => exact if_neg hz)
  (case m7 => grind [lg_mul, lg_add, lg_sub, lg_neg, Sz])
  (case m8 => grind [lg_mul, lg_add, lg_sub, lg_neg, Sz])
  (case c_ratio_9 => grind [lg_mul, Sz])
  (case o_ratio_10 => first | (subst hz; exact if_pos (by simp)) | exact if_neg (dn_ne hz))
  (case rs_1 => exact Sub.of (by rw [r_over _ _ hz]))
theorem sc_less : FnScope ["x", "y"] ["x", "y"] (defScope s_less) := ⟨rfl, rfl, rfl, by decide +kernel, rfl, by decide +kernel, by decide +kernel⟩
def sp_less (K : PySem.W.Frag) (cs : Cs) : Sp := Pm (ι := Rat × Rat) (fun ⟨q, r⟩ => Sz 4000 q ∧ Sz 4000 r) (fun ⟨q, r⟩ => [rNum K q, rNum K r]) (fun ⟨q, r⟩ => .val (rBl (decide (q < r))))
theorem ok_less (T : Txt K mg cs) : Cal P w K mg base 3 "less" (sp_less K cs) := by
  refine cal_ok T.d_less sc_less (fun g => rfl) (fun _ _ _ _ _ _ us hl => match us, hl with | [_, _], _ => rfl) ?_
  rintro X rfl rfl rfl rfl rfl B Bf ⟨q, r⟩ F0 H0 D hp R hnx
  refine go_ret R (de_ltI (de_mulG ?m1 (CA.val (ca_call B (ok_top_of T) (by decide) _ trivial (da_cons (de_var B (i := 0) rfl rfl (.inl rfl)) da_nil) rfl)) (CA.val (ca_call B (ok_bottom_of T) (by decide) _ trivial (da_cons (de_var B (i := 1) rfl rfl (.inl rfl)) da_nil) rfl))) (de_mulG ?m2 (CA.val (ca_call B (ok_top_of T) (by decide) _ trivial (da_cons (de_var B (i := 1) rfl rfl (.inl rfl)) da_nil) rfl)) (CA.val (ca_call B (ok_bottom_of T) (by decide) _ trivial (da_cons (de_var B (i := 0) rfl rfl (.inl rfl)) da_nil) rfl)))) ?rs_1
  (case m1 => grind [lg_mul, lg_add, lg_sub, lg_neg, Sz])
  (case m2 => grind [lg_mul, lg_add, lg_sub, lg_neg, Sz])
  (case rs_1 => exact Sub.of (by rw [r_less]))
theorem sc_floor_of : FnScope ["number"] ["number"] (defScope s_floor_of) := ⟨rfl, rfl, rfl, by decide +kernel, rfl, by decide +kernel, by decide +kernel⟩
def sp_floor_of (K : PySem.W.Frag) (cs : Cs) : Sp := Pm (ι := Rat) (fun q => Sz 4000 q) (fun q => [rNum K q]) (fun q => .val (rInt q.floor))
theorem ok_floor_of (T : Txt K mg cs) : Cal P w K mg base 3 "floor_of" (sp_floor_of K cs) := by
  refine cal_ok T.d_floor_of sc_floor_of (fun g => rfl) (fun _ _ _ _ _ _ us hl => match us, hl with | [_], _ => rfl) ?_
  rintro X rfl rfl rfl rfl rfl B Bf q F0 H0 D hp R hnx
  refine go_ret R (de_divG ?z1 ?d2 (CA.val (ca_call B (ok_top_of T) (by decide) _ trivial (da_cons (de_var B (i := 0) rfl rfl (.inl rfl)) da_nil) rfl)) (CA.val (ca_call B (ok_bottom_of T) (by decide) _ trivial (da_cons (de_var B (i := 0) rfl rfl (.inl rfl)) da_nil) rfl))) ?rs_1
  (case z1 => exact den_neI q)
  (case d2 => grind [Sz])
  (case rs_1 => exact Sub.of (by rw [r_floor]))
theorem sc_ceiling_of : FnScope ["number"] ["number"] (defScope s_ceiling_of) := ⟨rfl, rfl, rfl, by decide +kernel, rfl, by decide +kernel, by decide +kernel⟩
def sp_ceiling_of (K : PySem.W.Frag) (cs : Cs) : Sp := Pm (ι := Rat) (fun q => Sz 4000 q) (fun q => [rNum K q]) (fun q => .val (rInt q.ceil))
theorem ok_ceiling_of (T : Txt K mg cs) : Cal P w K mg base 3 "ceiling_of" (sp_ceiling_of K cs) := by
  refine cal_ok T.d_ceiling_of sc_ceiling_of (fun g => rfl) (fun _ _ _ _ _ _ us hl => match us, hl with | [_], _ => rfl) ?_
  rintro X rfl rfl rfl rfl rfl B Bf q F0 H0 D hp R hnx
  refine go_ret R (de_neg (de_divG ?z1 ?d2 (de_neg (CA.val (ca_call B (ok_top_of T) (by decide) _ trivial (da_cons (de_var B (i := 0) rfl rfl (.inl rfl)) da_nil) rfl))) (CA.val (ca_call B (ok_bottom_of T) (by decide) _ trivial (da_cons (de_var B (i := 0) rfl rfl (.inl rfl)) da_nil) rfl)))) ?rs_1
  (case z1 => exact den_neI q)
  (case d2 => grind [Sz])
  (case rs_1 => exact Sub.of (by rw [r_ceil]))
theorem sc_common_bottom : FnScope ["numbers", "common", "number"] ["numbers"] (defScope s_common_bottom) := ⟨rfl, rfl, rfl, by decide +kernel, rfl, by decide +kernel, by decide +kernel⟩
def sp_common_bottom (K : PySem.W.Frag) (cs : Cs) : Sp := Pm (ι := List Rat) (fun qs => ∃ n, (∀ q ∈ qs, Sz n q) ∧ qs.length * (n + 1) < 9000 ∧ n < 9000) (fun qs => [rLst K (qs.map (rNum K))]) (fun qs => .val (rInt (lcmD qs : Nat)))
theorem ok_common_bottom (T : Txt K mg cs) : Cal P w K mg base 3 "common_bottom" (sp_common_bottom K cs) := by
  refine cal_ok T.d_common_bottom sc_common_bottom (fun g => rfl) (fun _ _ _ _ _ _ us hl => match us, hl with | [_], _ => rfl) ?_
  rintro X rfl rfl rfl rfl rfl B Bf qs F0 H0 D hp R hnx
  obtain ⟨n, hp1, hp2, hp3⟩ := hp
  refine go_set B (i := 1) de_int rfl (.inl rfl) ?go_1
  refine go_forS B (fun i => [(1, .im (rInt (lcmD (qs.take i) : Nat))), (2, .any)]) (fun i => True) (sr_listM (R := (rNum X.K)) (0 : Rat) (de_var B (i := 0) rfl rfl (.inl rfl))) _ (fun i hi => (dg_name B (i := 2) rfl (.inl rfl))) ?h0_2 ?j0_3 (fun F1 u i hi hj => ?gb_4) (fun hj => ?ge_5)
  (case h0_2 => refine .same ?_; refine .im ?h ?_; (case h => exact Sub.rfl); refine .any ?_; exact .nil)
  (case j0_3 => trivial)
  case gb_4 =>
    refine go_set B (i := 1) (de_lcm B T.m_lcm ?l1 ?l2 (de_var B (i := 1) rfl rfl (.inl rfl)) (CA.val (ca_call B (ok_bottom_of T) (by decide) _ trivial (da_cons (de_var B (i := 2) rfl rfl (.inl rfl)) da_nil) rfl)) rfl) rfl (.inl rfl) ?go_6
    (case l1 => first | exact lcmD_small hp1 hp2 (Nat.le_of_lt hi) | exact den_small hp1 hp3 hi)
    (case l2 => first | exact lcmD_small hp1 hp2 (Nat.le_of_lt hi) | exact den_small hp1 hp3 hi)
    refine go_turnS ?jn_7 ?ln_8
    (case jn_7 => trivial)
    (case ln_8 => refine .same ?_; refine .im ?h ?_; (case h => exact Sub.of (by rw [lcmD_step hi]; rfl)); refine .any ?_; exact .nil)
  case ge_5 =>
    refine go_ret R (de_var B (i := 1) rfl rfl (.inl rfl)) ?rs_9
    (case rs_9 => exact Sub.of (by rw [List.take_of_length_le (Nat.le_refl _)]))
theorem sc__law_stands : FnScope ["_law_x", "_law_top_here", "_law_bottom_here"] ["_law_x", "_law_top_here", "_law_bottom_here"] (defScope s__law_stands) := ⟨rfl, rfl, rfl, by decide +kernel, rfl, by decide +kernel, by decide +kernel⟩
def sp__law_stands (K : PySem.W.Frag) (cs : Cs) : Sp := Pm (ι := Rat × Int × Int) (fun ⟨q, t, b⟩ => Sz 989 q ∧ Lg t < 9000 ∧ Lg b < 9000) (fun ⟨q, t, b⟩ => [rNum K q, rInt t, rInt b]) (fun ⟨q, t, b⟩ => .val (rBl (decide (q.num * b = t * (q.den : Int)))))
theorem ok__law_stands (T : Txt K mg cs) : Cal P w K mg base 3 "_law_stands" (sp__law_stands K cs) := by
  refine cal_ok T.d__law_stands sc__law_stands (fun g => rfl) (fun _ _ _ _ _ _ us hl => match us, hl with | [_, _, _], _ => rfl) ?_
  rintro X rfl rfl rfl rfl rfl B Bf ⟨q, t, b⟩ F0 H0 D hp R hnx
  refine go_ret R (de_and (CA.val (ca_call B (ok__law_is_number T) (by decide) _ ?c_law_is_number_1 (da_cons (de_var B (i := 0) rfl rfl (.inl rfl)) da_nil) rfl)) (fun hb1 => (de_one (de_eqI (de_mulG ?m2 (CA.val (ca_call B (ok__law_top T) (by decide) _ trivial (da_cons (de_var B (i := 0) rfl rfl (.inl rfl)) da_nil) rfl)) (de_var B (i := 2) rfl rfl (.inl rfl))) (de_mulG ?m3 (de_var B (i := 1) rfl rfl (.inl rfl)) (CA.val (ca_call B (ok__law_bottom T) (by decide) _ trivial (da_cons (de_var B (i := 0) rfl rfl (.inl rfl)) da_nil) rfl))))))) ?rs_1
  (case c_law_is_number_1 => exact hp.1)
  (case m2 => grind [lg_mul, lg_add, lg_sub, lg_neg, Sz])
  (case m3 => grind [lg_mul, lg_add, lg_sub, lg_neg, Sz])
  (case rs_1 => exact Sub.of (by rw [Bool.true_and]))
theorem sc__law_drawn : FnScope ["_law_numbers_here", "_law_k", "_law_large", "_law_top_here"] ["_law_numbers_here", "_law_k", "_law_large"] (defScope s__law_drawn) := ⟨rfl, rfl, rfl, by decide +kernel, rfl, by decide +kernel, by decide +kernel⟩
def sp__law_drawn (K : PySem.W.Frag) (cs : Cs) : Sp := Pm (ι := List Int × Nat × Bool) (fun ⟨ns, k, large⟩ => k + 1 < ns.length ∧ ∀ x ∈ ns, 0 ≤ x ∧ x < 10007) (fun ⟨ns, k, large⟩ => [rLst K (ns.map rInt), rInt (k : Int), rBl large]) (fun ⟨ns, k, large⟩ => .val (rNum K (drawn0 ns k large)))
theorem ok__law_drawn (T : Txt K mg cs) : Cal P w K mg base 3 "_law_drawn" (sp__law_drawn K cs) := by
  refine cal_ok T.d__law_drawn sc__law_drawn (fun g => rfl) (fun _ _ _ _ _ _ us hl => match us, hl with | [_, _, _], _ => rfl) ?_
  rintro X rfl rfl rfl rfl rfl B Bf ⟨ns, k, large⟩ F0 H0 D hp R hnx
  refine go_set B (i := 3) (de_sub (de_ixM (R := rInt) (0 : Int) ?xl1 ?xh2 (de_var B (i := 0) rfl rfl (.inl rfl)) (de_var B (i := 1) rfl rfl (.inl rfl))) de_int) rfl (.inl rfl) ?go_1
  (case xl1 => omega)
  (case xh2 => omega)
  refine go_if (dt_val (de_var B (i := 2) rfl rfl (.inl rfl))) (fun hc => ?gt_2) (fun hc => ?gf_3)
  case gt_2 =>
    skip
    refine go_set B (i := 3) (de_mulG ?m3 (de_var B (i := 3) rfl rfl (.inl rfl)) (de_add (de_pow ⟨by decide, by decide, by decide⟩ de_int de_int) de_int)) rfl (.inl rfl) ?go_4
    (case m3 => exact mul_s (dr_top hp.2) (by decide))
    refine go_then ?go_5
    refine go_ret R (CA.val (ca_call B (ok__law_make T) (by decide) (_, _) ?c_law_make_7 (da_cons (de_var B (i := 3) rfl rfl (.inl rfl)) (da_cons (de_add de_int (de_mod ?z6 (de_toInt B T.b_int (de_ixM (R := rInt) (0 : Int) ?xl4 ?xh5 (de_var B (i := 0) rfl rfl (.inl rfl)) (de_add (de_var B (i := 1) rfl rfl (.inl rfl)) de_int)) rfl) de_int)) da_nil)) rfl)) ?rs_6
    (case xl4 => omega)
    (case xh5 => omega)
    (case z6 => decide)
    (case c_law_make_7 => first | exact ⟨dr_ne, dr_lg1 hp.2, dr_lg2⟩ | exact ⟨dr_ne, dr_lg0 hp.2, dr_lg2⟩)
    (case rs_6 => first | exact Sub.of (by rw [drawn0, if_pos hc] <;> rfl) | exact Sub.of (by rw [drawn0, if_neg (by rw [hc]; exact Bool.false_ne_true)] <;> rfl))
  case gf_3 =>
    skip
    refine go_then ?go_7
    refine go_ret R (CA.val (ca_call B (ok__law_make T) (by decide) (_, _) ?c_law_make_11 (da_cons (de_var B (i := 3) rfl rfl (.inl rfl)) (da_cons (de_add de_int (de_mod ?z10 (de_toInt B T.b_int (de_ixM (R := rInt) (0 : Int) ?xl8 ?xh9 (de_var B (i := 0) rfl rfl (.inl rfl)) (de_add (de_var B (i := 1) rfl rfl (.inl rfl)) de_int)) rfl) de_int)) da_nil)) rfl)) ?rs_8
    (case xl8 => omega)
    (case xh9 => omega)
    (case z10 => decide)
    (case c_law_make_11 => first | exact ⟨dr_ne, dr_lg1 hp.2, dr_lg2⟩ | exact ⟨dr_ne, dr_lg0 hp.2, dr_lg2⟩)
    (case rs_8 => first | exact Sub.of (by rw [drawn0, if_pos hc] <;> rfl) | exact Sub.of (by rw [drawn0, if_neg (by rw [hc]; exact Bool.false_ne_true)] <;> rfl))
theorem sc_nearest : FnScope ["number"] ["number"] (defScope s_nearest) := ⟨rfl, rfl, rfl, by decide +kernel, rfl, by decide +kernel, by decide +kernel⟩
def sp_nearest (K : PySem.W.Frag) (cs : Cs) : Sp := Pm (ι := Rat) (fun q => Sz 3000 q) (fun q => [rNum K q]) (fun q => .val (rInt (q + half).floor))
theorem ok_nearest (T : Txt K mg cs) : Cal P w K mg base 4 "nearest" (sp_nearest K cs) := by
  refine cal_ok T.d_nearest sc_nearest (fun g => rfl) (fun _ _ _ _ _ _ us hl => match us, hl with | [_], _ => rfl) ?_
  rintro X rfl rfl rfl rfl rfl B Bf q F0 H0 D hp R hnx
  refine go_ret R (CA.val (ca_call B (ok_floor_of T) (by decide) _ ?c_floor_of_2 (da_cons (CA.val (ca_call B (ok_plus T) (by decide) (_, _) ?c_plus_1 (da_cons (de_var B (i := 0) rfl rfl (.inl rfl)) (da_cons (DE.sub (r' := rNum X.K half) (de_tup (da_cons de_int (da_cons de_int da_nil)) (show (2 : Nat) ≤ sizeLine by decide)) sub_half) da_nil)) rfl)) da_nil) rfl)) ?rs_1
  (case c_plus_1 => exact ⟨hp.mono (by decide), sz_half.mono (by decide)⟩)
  (case c_floor_of_2 => exact (sz_add hp sz_half).mono (by decide))
  (case rs_1 => exact Sub.rfl)
theorem sc_least_of : FnScope ["numbers", "least", "number"] ["numbers"] (defScope s_least_of) := ⟨rfl, rfl, rfl, by decide +kernel, rfl, by decide +kernel, by decide +kernel⟩
def sp_least_of (K : PySem.W.Frag) (cs : Cs) : Sp := Pm (ι := List Rat) (fun qs => ∀ q ∈ qs, Sz 4000 q) (fun qs => [rLst K (qs.map (rNum K))]) (fun qs => .val (rOpt K (minO qs)))
theorem ok_least_of (T : Txt K mg cs) : Cal P w K mg base 4 "least_of" (sp_least_of K cs) := by
  refine cal_ok T.d_least_of sc_least_of (fun g => rfl) (fun _ _ _ _ _ _ us hl => match us, hl with | [_], _ => rfl) ?_
  rintro X rfl rfl rfl rfl rfl B Bf qs F0 H0 D hp R hnx
  refine go_set B (i := 1) (de_e2o de_non) rfl (.inl rfl) ?go_1
  refine go_forS B (fun i => [(1, .im (rOpt X.K (minO (qs.take i)))), (2, .any)]) (fun i => True) (sr_listM (R := (rNum X.K)) (0 : Rat) (de_var B (i := 0) rfl rfl (.inl rfl))) _ (fun i hi => (dg_name B (i := 2) rfl (.inl rfl))) ?h0_2 ?j0_3 (fun F1 u i hi hj => ?gb_4) (fun hj => ?ge_5)
  (case h0_2 => refine .same ?_; refine .im ?h ?_; (case h => exact Sub.rfl); refine .any ?_; exact .nil)
  (case j0_3 => trivial)
  case gb_4 =>
    refine go_if (DW.t (dw_or (dt_isNo (de_var B (i := 1) rfl rfl (.inl rfl))) (fun hb1 => (dw_or1 (dt_val (CA.val (ca_call B (ok_less T) (by decide) (_, _) ?c_less_2 (da_cons (de_var B (i := 2) rfl rfl (.inl rfl)) (da_cons (de_o2n ?on1 (de_var B (i := 1) rfl rfl (.inl rfl))) da_nil)) rfl))))))) (fun hc => ?gt_6) (fun hc => ?gf_7)
    (case on1 => assumption)
    (case c_less_2 => exact minO_sz hp hi)
    case gt_6 =>
      skip
      refine go_set B (i := 1) (de_n2o (de_var B (i := 2) rfl rfl (.inl rfl))) rfl (.inl rfl) ?go_8
      refine go_then ?go_9
      refine go_turnS ?jn_10 ?ln_11
      (case jn_10 => trivial)
      (case ln_11 => refine .same ?_; refine .im ?h ?_; (case h => first | exact Sub.of (by rw [minO_step hi, stepMin, if_pos hc]) | exact Sub.of (by rw [minO_step hi, stepMin, if_neg (by rw [hc]; exact Bool.false_ne_true)])); refine .any ?_; exact .nil)
    case gf_7 =>
      skip
      refine go_then ?go_12
      refine go_turnS ?jn_13 ?ln_14
      (case jn_13 => trivial)
      (case ln_14 => refine .same ?_; refine .im ?h ?_; (case h => first | exact Sub.of (by rw [minO_step hi, stepMin, if_pos hc]) | exact Sub.of (by rw [minO_step hi, stepMin, if_neg (by rw [hc]; exact Bool.false_ne_true)])); refine .any ?_; exact .nil)
  case ge_5 =>
    refine go_ret R (de_var B (i := 1) rfl rfl (.inl rfl)) ?rs_15
    (case rs_15 => exact Sub.of (by rw [List.take_of_length_le (Nat.le_refl _)]))
theorem sc_greatest_of : FnScope ["numbers", "greatest", "number"] ["numbers"] (defScope s_greatest_of) := ⟨rfl, rfl, rfl, by decide +kernel, rfl, by decide +kernel, by decide +kernel⟩
def sp_greatest_of (K : PySem.W.Frag) (cs : Cs) : Sp := Pm (ι := List Rat) (fun qs => ∀ q ∈ qs, Sz 4000 q) (fun qs => [rLst K (qs.map (rNum K))]) (fun qs => .val (rOpt K (maxO qs)))
theorem ok_greatest_of (T : Txt K mg cs) : Cal P w K mg base 4 "greatest_of" (sp_greatest_of K cs) := by
  refine cal_ok T.d_greatest_of sc_greatest_of (fun g => rfl) (fun _ _ _ _ _ _ us hl => match us, hl with | [_], _ => rfl) ?_
  rintro X rfl rfl rfl rfl rfl B Bf qs F0 H0 D hp R hnx
  refine go_set B (i := 1) (de_e2o de_non) rfl (.inl rfl) ?go_1
  refine go_forS B (fun i => [(1, .im (rOpt X.K (maxO (qs.take i)))), (2, .any)]) (fun i => True) (sr_listM (R := (rNum X.K)) (0 : Rat) (de_var B (i := 0) rfl rfl (.inl rfl))) _ (fun i hi => (dg_name B (i := 2) rfl (.inl rfl))) ?h0_2 ?j0_3 (fun F1 u i hi hj => ?gb_4) (fun hj => ?ge_5)
  (case h0_2 => refine .same ?_; refine .im ?h ?_; (case h => exact Sub.rfl); refine .any ?_; exact .nil)
  (case j0_3 => trivial)
  case gb_4 =>
    refine go_if (DW.t (dw_or (dt_isNo (de_var B (i := 1) rfl rfl (.inl rfl))) (fun hb1 => (dw_or1 (dt_val (CA.val (ca_call B (ok_less T) (by decide) (_, _) ?c_less_2 (da_cons (de_o2n ?on1 (de_var B (i := 1) rfl rfl (.inl rfl))) (da_cons (de_var B (i := 2) rfl rfl (.inl rfl)) da_nil)) rfl))))))) (fun hc => ?gt_6) (fun hc => ?gf_7)
    (case on1 => assumption)
    (case c_less_2 => exact maxO_sz hp hi)
    case gt_6 =>
      skip
      refine go_set B (i := 1) (de_n2o (de_var B (i := 2) rfl rfl (.inl rfl))) rfl (.inl rfl) ?go_8
      refine go_then ?go_9
      refine go_turnS ?jn_10 ?ln_11
      (case jn_10 => trivial)
      (case ln_11 => refine .same ?_; refine .im ?h ?_; (case h => first | exact Sub.of (by rw [maxO_step hi, stepMax, if_pos hc]) | exact Sub.of (by rw [maxO_step hi, stepMax, if_neg (by rw [hc]; exact Bool.false_ne_true)])); refine .any ?_; exact .nil)
    case gf_7 =>
      skip
      refine go_then ?go_12
      refine go_turnS ?jn_13 ?ln_14
      (case jn_13 => trivial)
      (case ln_14 => refine .same ?_; refine .im ?h ?_; (case h => first | exact Sub.of (by rw [maxO_step hi, stepMax, if_pos hc]) | exact Sub.of (by rw [maxO_step hi, stepMax, if_neg (by rw [hc]; exact Bool.false_ne_true)])); refine .any ?_; exact .nil)
  case ge_5 =>
    refine go_ret R (de_var B (i := 1) rfl rfl (.inl rfl)) ?rs_15
    (case rs_15 => exact Sub.of (by rw [List.take_of_length_le (Nat.le_refl _)]))
theorem sc_read_number : FnScope ["text", "unsigned", "top", "slash", "bottom", "number"] ["text"] (defScope s_read_number) := ⟨rfl, rfl, rfl, by decide +kernel, rfl, by decide +kernel, by decide +kernel⟩
def sp_read_number (K : PySem.W.Frag) (cs : Cs) : Sp := PmX (ι := Str) (fun x => RdOk x) (fun x => [rStr x]) (fun x => outRd K cs.BadText (parse x))
abbrev okr_read_number (K : PySem.W.Frag) : Str → Ret := fun x => .val (rNum K ((parse x).getD 0))
theorem ok_read_number (T : Txt K mg cs) : Cal P w K mg base 4 "read_number" (sp_read_number K cs) := by
  refine cal_okX T.d_read_number sc_read_number (fun g => rfl) (fun _ _ _ _ _ _ us hl => match us, hl with | [_], _ => rfl) ?_
  rintro X rfl rfl rfl rfl rfl B Bf x F0 H0 D E tk hp R hnx
  refine go_set B (i := 1) (de_ifD (r := rStr (pUns x)) (dt_val (de_startswith (de_var B (i := 0) rfl rfl (.inl rfl)) de_str)) (fun hc => de_sliceS (ol := some 1) (oh := none) ?g1 (de_var B (i := 0) rfl rfl (.inl rfl)) de_int trivial) (fun hc => (de_var B (i := 0) rfl rfl (.inl rfl))) (fun hc => congrArg rStr (if_pos hc).symm) (fun hc => congrArg rStr (if_neg (by rw [show pNeg x = false from hc]; exact Bool.false_ne_true)).symm)) rfl (.inl rfl) ?go_1
  (case g1 => exact Nat.le_trans hp.len (by decide))
  refine go_asg (de_partition ?gu2 rfl (de_var B (i := 1) rfl rfl (.inl rfl)) de_str) (dg_tup B (dgs_cons (dg_name B (i := 2) rfl (.inl rfl)) (dgs_cons (dg_name B (i := 3) rfl (.inl rfl)) (dgs_cons (dg_name B (i := 4) rfl (.inl rfl)) dgs_nil)))) ?go_2
  (case gu2 => exact Nat.le_trans (Nat.le_trans cut_len hp.len) (by decide))
  refine go_if (dt_not (dt_truS ?gs3 (de_var B (i := 3) rfl rfl (.inl rfl)))) (fun hc => ?gt_3) (fun hc => ?gf_4)
  (case gs3 => exact Nat.le_trans (part_len _).2.1 (by decide))
  case gt_3 =>
    have hb := pBot_t (x := x) (len_z hc)
    refine go_set B (i := 4) de_str rfl (.inl rfl) ?go_5
    refine go_then ?go_6
    refine go_if (DW.t (dw_or (dt_not (dt_val (CA.val (ca_call B (ok_is_numeral T) (by decide) _ ?c_is_numeral_4 (da_cons (de_var B (i := 2) rfl rfl (.inl rfl)) da_nil) rfl)))) (fun hb1 => (dw_or (dt_not (dt_val (CA.val (ca_call B (ok_is_numeral T) (by decide) _ ?c_is_numeral_5 (da_cons (de_var B (i := 4) rfl rfl (.inl rfl)) da_nil) rfl)))) (fun hb2 => (dw_or1 (dt_eqS (de_var B (i := 4) rfl rfl (.inl rfl)) de_str))))))) (fun hc => ?gt_7) (fun hc => ?gf_8)
    (case c_is_numeral_4 => first | exact pTop_le hp | exact pRest_le hp | (show (1 : Nat) ≤ 100000; decide))
    (case c_is_numeral_5 => first | exact pTop_le hp | exact pRest_le hp | (show (1 : Nat) ≤ 100000; decide))
    case gt_7 =>
      have hbad := (pBad_is hb).trans hc
      refine go_raise B tk T.x_BadText rfl (fun F H σ en => R.er (C := cs.BadText) ?re6 H en.gr.h)
      (case re6 => first | exact congrArg (outRd _ _) hpn | exact congrArg (outRd _ _) (parse_bad hbad))
    case gf_8 =>
      have hbad := (pBad_is hb).trans hc
      have W := pf_of hp hb hbad
      refine go_then ?go_9
      refine go_set B (i := 5) (CA.val (ca_callO (okr_ratio X.K) B (ok_ratio T) (by decide) (_, _) ?c_ratio_7 ?o_ratio_8 (da_cons (de_intS B T.b_int W.it W.wt (de_var B (i := 2) rfl rfl (.inl rfl)) rfl) (da_cons (de_intS B T.b_int W.ib W.wb (de_var B (i := 4) rfl rfl (.inl rfl)) rfl) da_nil)) rfl)) rfl (.inl rfl) ?go_10
      (case c_ratio_7 => exact Nat.lt_of_le_of_lt W.lb (by decide))
      (case o_ratio_8 => exact if_neg W.nz)
      refine go_if (dt_val (de_startswith (de_var B (i := 0) rfl rfl (.inl rfl)) de_str)) (fun hc => ?gt_11) (fun hc => ?gf_12)
      case gt_11 =>
        have hn := pNum_t (x := x) hc
        have hs : Sz 1404 (((0 : Int) : Rat) - pAbs x) := hn ▸ W.sn
        have hx : ∀ b, (!decide (numText (((0 : Int) : Rat) - pAbs x) = x)) = b → (!decide (numText (pNum x) = x)) = b := by rw [hn]; exact fun _ h => h
        have hr : ∀ K, rNum K (((0 : Int) : Rat) - pAbs x) = rNum K (pNum x) := by rw [hn]; exact fun _ => rfl
        refine go_set B (i := 5) (CA.val (ca_call B (ok_minus T) (by decide) (_, _) ?c_minus_9 (da_cons (de_i2n de_int) (da_cons (de_var B (i := 5) rfl rfl (.inl rfl)) da_nil)) rfl)) rfl (.inl rfl) ?go_13
        (case c_minus_9 => exact ⟨(sz_zero 0).mono (by decide), W.sz.mono (by decide)⟩)
        refine go_then ?go_14
        refine go_if (dt_neS (CA.val (ca_call B (ok_number_text T) (by decide) _ ?c_number_text_10 (da_cons (de_var B (i := 5) rfl rfl (.inl rfl)) da_nil) rfl)) (de_var B (i := 0) rfl rfl (.inl rfl))) (fun hc => ?gt_15) (fun hc => ?gf_16)
        (case c_number_text_10 => exact hs.mono (by decide))
        case gt_15 =>
          have hpn := parse_no hbad (nd_t (hx _ hc))
          refine go_raise B tk T.x_BadText rfl (fun F H σ en => R.er (C := cs.BadText) ?re11 H en.gr.h)
          (case re11 => first | exact congrArg (outRd _ _) hpn | exact congrArg (outRd _ _) (parse_bad hbad))
        case gf_16 =>
          have hpy := parse_yes hbad (nd_f (hx _ hc))
          refine go_then ?go_17
          refine go_ret (R.rt (ret := .val (rNum X.K ((parse x).getD 0))) ?ro12) (de_var B (i := 5) rfl rfl (.inl rfl)) ?rs_18
          (case ro12 => exact outRd_ok hpy)
          (case rs_18 => exact Sub.of (by rw [hpy]; exact hr _))
      case gf_12 =>
        have hn := pNum_f (x := x) hc
        have hs : Sz 1404 (pAbs x) := hn ▸ W.sn
        have hx : ∀ b, (!decide (numText (pAbs x) = x)) = b → (!decide (numText (pNum x) = x)) = b := by rw [hn]; exact fun _ h => h
        have hr : ∀ K, rNum K (pAbs x) = rNum K (pNum x) := by rw [hn]; exact fun _ => rfl
        refine go_then ?go_19
        refine go_if (dt_neS (CA.val (ca_call B (ok_number_text T) (by decide) _ ?c_number_text_13 (da_cons (de_var B (i := 5) rfl rfl (.inl rfl)) da_nil) rfl)) (de_var B (i := 0) rfl rfl (.inl rfl))) (fun hc => ?gt_20) (fun hc => ?gf_21)
        (case c_number_text_13 => exact hs.mono (by decide))
        case gt_20 =>
          have hpn := parse_no hbad (nd_t (hx _ hc))
          refine go_raise B tk T.x_BadText rfl (fun F H σ en => R.er (C := cs.BadText) ?re14 H en.gr.h)
          (case re14 => first | exact congrArg (outRd _ _) hpn | exact congrArg (outRd _ _) (parse_bad hbad))
        case gf_21 =>
          have hpy := parse_yes hbad (nd_f (hx _ hc))
          refine go_then ?go_22
          refine go_ret (R.rt (ret := .val (rNum X.K ((parse x).getD 0))) ?ro15) (de_var B (i := 5) rfl rfl (.inl rfl)) ?rs_23
          (case ro15 => exact outRd_ok hpy)
          (case rs_23 => exact Sub.of (by rw [hpy]; exact hr _))
  case gf_4 =>
    have hb := pBot_f (x := x) (len_nz hc)
    refine go_then ?go_24
    refine go_if (DW.t (dw_or (dt_not (dt_val (CA.val (ca_call B (ok_is_numeral T) (by decide) _ ?c_is_numeral_16 (da_cons (de_var B (i := 2) rfl rfl (.inl rfl)) da_nil) rfl)))) (fun hb1 => (dw_or (dt_not (dt_val (CA.val (ca_call B (ok_is_numeral T) (by decide) _ ?c_is_numeral_17 (da_cons (de_var B (i := 4) rfl rfl (.inl rfl)) da_nil) rfl)))) (fun hb2 => (dw_or1 (dt_eqS (de_var B (i := 4) rfl rfl (.inl rfl)) de_str))))))) (fun hc => ?gt_25) (fun hc => ?gf_26)
    (case c_is_numeral_16 => first | exact pTop_le hp | exact pRest_le hp | (show (1 : Nat) ≤ 100000; decide))
    (case c_is_numeral_17 => first | exact pTop_le hp | exact pRest_le hp | (show (1 : Nat) ≤ 100000; decide))
    case gt_25 =>
      have hbad := (pBad_is hb).trans hc
      refine go_raise B tk T.x_BadText rfl (fun F H σ en => R.er (C := cs.BadText) ?re18 H en.gr.h)
      (case re18 => first | exact congrArg (outRd _ _) hpn | exact congrArg (outRd _ _) (parse_bad hbad))
    case gf_26 =>
      have hbad := (pBad_is hb).trans hc
      have W := pf_of hp hb hbad
      refine go_then ?go_27
      refine go_set B (i := 5) (CA.val (ca_callO (okr_ratio X.K) B (ok_ratio T) (by decide) (_, _) ?c_ratio_19 ?o_ratio_20 (da_cons (de_intS B T.b_int W.it W.wt (de_var B (i := 2) rfl rfl (.inl rfl)) rfl) (da_cons (de_intS B T.b_int W.ib W.wb (de_var B (i := 4) rfl rfl (.inl rfl)) rfl) da_nil)) rfl)) rfl (.inl rfl) ?go_28
      (case c_ratio_19 => exact Nat.lt_of_le_of_lt W.lb (by decide))
      (case o_ratio_20 => exact if_neg W.nz)
      refine go_if (dt_val (de_startswith (de_var B (i := 0) rfl rfl (.inl rfl)) de_str)) (fun hc => ?gt_29) (fun hc => ?gf_30)
      case gt_29 =>
        have hn := pNum_t (x := x) hc
        have hs : Sz 1404 (((0 : Int) : Rat) - pAbs x) := hn ▸ W.sn
        have hx : ∀ b, (!decide (numText (((0 : Int) : Rat) - pAbs x) = x)) = b → (!decide (numText (pNum x) = x)) = b := by rw [hn]; exact fun _ h => h
        have hr : ∀ K, rNum K (((0 : Int) : Rat) - pAbs x) = rNum K (pNum x) := by rw [hn]; exact fun _ => rfl
        refine go_set B (i := 5) (CA.val (ca_call B (ok_minus T) (by decide) (_, _) ?c_minus_21 (da_cons (de_i2n de_int) (da_cons (de_var B (i := 5) rfl rfl (.inl rfl)) da_nil)) rfl)) rfl (.inl rfl) ?go_31
        (case c_minus_21 => exact ⟨(sz_zero 0).mono (by decide), W.sz.mono (by decide)⟩)
        refine go_then ?go_32
        refine go_if (dt_neS (CA.val (ca_call B (ok_number_text T) (by decide) _ ?c_number_text_22 (da_cons (de_var B (i := 5) rfl rfl (.inl rfl)) da_nil) rfl)) (de_var B (i := 0) rfl rfl (.inl rfl))) (fun hc => ?gt_33) (fun hc => ?gf_34)
        (case c_number_text_22 => exact hs.mono (by decide))
        case gt_33 =>
          have hpn := parse_no hbad (nd_t (hx _ hc))
          refine go_raise B tk T.x_BadText rfl (fun F H σ en => R.er (C := cs.BadText) ?re23 H en.gr.h)
          (case re23 => first | exact congrArg (outRd _ _) hpn | exact congrArg (outRd _ _) (parse_bad hbad))
        case gf_34 =>
          have hpy := parse_yes hbad (nd_f (hx _ hc))
          refine go_then ?go_35
          refine go_ret (R.rt (ret := .val (rNum X.K ((parse x).getD 0))) ?ro24) (de_var B (i := 5) rfl rfl (.inl rfl)) ?rs_36
          (case ro24 => exact outRd_ok hpy)
          (case rs_36 => exact Sub.of (by rw [hpy]; exact hr _))
      case gf_30 =>
        have hn := pNum_f (x := x) hc
        have hs : Sz 1404 (pAbs x) := hn ▸ W.sn
        have hx : ∀ b, (!decide (numText (pAbs x) = x)) = b → (!decide (numText (pNum x) = x)) = b := by rw [hn]; exact fun _ h => h
        have hr : ∀ K, rNum K (pAbs x) = rNum K (pNum x) := by rw [hn]; exact fun _ => rfl
        refine go_then ?go_37
        refine go_if (dt_neS (CA.val (ca_call B (ok_number_text T) (by decide) _ ?c_number_text_25 (da_cons (de_var B (i := 5) rfl rfl (.inl rfl)) da_nil) rfl)) (de_var B (i := 0) rfl rfl (.inl rfl))) (fun hc => ?gt_38) (fun hc => ?gf_39)
        (case c_number_text_25 => exact hs.mono (by decide))
        case gt_38 =>
          have hpn := parse_no hbad (nd_t (hx _ hc))
          refine go_raise B tk T.x_BadText rfl (fun F H σ en => R.er (C := cs.BadText) ?re26 H en.gr.h)
          (case re26 => first | exact congrArg (outRd _ _) hpn | exact congrArg (outRd _ _) (parse_bad hbad))
        case gf_39 =>
          have hpy := parse_yes hbad (nd_f (hx _ hc))
          refine go_then ?go_40
          refine go_ret (R.rt (ret := .val (rNum X.K ((parse x).getD 0))) ?ro27) (de_var B (i := 5) rfl rfl (.inl rfl)) ?rs_41
          (case ro27 => exact outRd_ok hpy)
          (case rs_41 => exact Sub.of (by rw [hpy]; exact hr _))
theorem sc__law_no_quotient : FnScope ["_law_x", "_law_e"] ["_law_x"] (defScope s__law_no_quotient) := ⟨rfl, rfl, rfl, by decide +kernel, rfl, by decide +kernel, by decide +kernel⟩
def sp__law_no_quotient (K : PySem.W.Frag) (cs : Cs) : Sp := Pm (ι := Rat) (fun q => Sz 50 q) (fun q => [rNum K q]) (fun q => .val (rBl true))
theorem ok__law_no_quotient (T : Txt K mg cs) : Cal P w K mg base 4 "_law_no_quotient" (sp__law_no_quotient K cs) := by
  refine cal_okT T.d__law_no_quotient sc__law_no_quotient (fun g => rfl) (fun _ _ _ _ _ _ us hl => match us, hl with | [_], _ => rfl) ?_
  rintro X rfl rfl rfl rfl rfl Z B Bf q F0 H0 D hp R hnx
  refine go_tryR B Z (i := 1) rfl rfl rfl T.x_BookError.g (by decide) (fun pn xe B2 tk2 => ?gy_1)
  refine go_exprE (C := cs.ZeroBottom) (ex_call B2 tk2 (ok_over T) (by decide) (_, _) ?c_over_1 ?o_over_2 (da_cons (de_var B2 (i := 0) rfl rfl (.inl rfl)) (da_cons (de_i2n de_int) da_nil)) rfl) (fun F H σ en H1 s1 => ⟨true, PySem.W.exm_ref T.x_BookError.bs T.x_BookError.hd T.x_BookError.ty T.s_ZeroBottom_BookError, fun _ al hal oe pn2 hz hv => ?gx_2, nofun⟩)
  (case c_over_1 => exact ⟨hp.mono (by decide), (sz_zero 0).mono (by decide)⟩)
  (case o_over_2 => rfl)
  have hgl : ∀ x : Str, (defScope s__law_no_quotient).names.lookup x = some .globalImplicit → Gl (X.suite al ((al, oe) :: pn2)) x := fun x h => by show X.env.scope.names.lookup x = _; rw [B.hsc]; exact h
  have hlen : σ.length = 2 := by rw [← en.len]; rfl
  have hsl : (σ.set 1 (some (.ref al)))[1]? = some (some (.ref al)) := by rw [List.getElem?_set_self (by omega)]
  refine suite_ret (u := true) (ix_is T.e_ZeroBottom hz hv B.hsc B.hN T.b_isinstance rfl (i := 1) rfl (.inl rfl) hsl (clsE_own (hgl _ (by rfl)) T.x_ZeroBottom.g) T.k_ZeroBottom_ZeroBottom) ?gr_3
  exact R _ F H1 (en.gr.trans ⟨Same.refl _, s1, en.gr.s.trans s1, fun _ _ z => z⟩) (Sub.rfl F _ rfl)
theorem sc__law_no_text : FnScope ["_law_text", "_law_e"] ["_law_text"] (defScope s__law_no_text) := ⟨rfl, rfl, rfl, by decide +kernel, rfl, by decide +kernel, by decide +kernel⟩
def sp__law_no_text (K : PySem.W.Frag) (cs : Cs) : Sp := Pm (ι := Str) (fun x => RdOk x ∧ parse x = none) (fun x => [rStr x]) (fun x => .val (rBl true))
theorem ok__law_no_text (T : Txt K mg cs) : Cal P w K mg base 5 "_law_no_text" (sp__law_no_text K cs) := by
  refine cal_okT T.d__law_no_text sc__law_no_text (fun g => rfl) (fun _ _ _ _ _ _ us hl => match us, hl with | [_], _ => rfl) ?_
  rintro X rfl rfl rfl rfl rfl Z B Bf x F0 H0 D hp R hnx
  refine go_tryR B Z (i := 1) rfl rfl rfl T.x_BadText.g (by decide) (fun pn xe B2 tk2 => ?gy_1)
  refine go_exprE (C := cs.BadText) (ex_call B2 tk2 (ok_read_number T) (by decide) _ ?c_read_number_1 ?o_read_number_2 (da_cons (de_var B2 (i := 0) rfl rfl (.inl rfl)) da_nil) rfl) (fun F H σ en H1 s1 => ⟨true, PySem.W.exm_ref T.x_BadText.bs T.x_BadText.hd T.x_BadText.ty T.s_BadText_BadText, fun _ al hal oe pn2 hz hv => ?gx_2, nofun⟩)
  (case c_read_number_1 => exact hp.1)
  (case o_read_number_2 => exact congrArg (outRd _ _) hp.2)
  have hgl : ∀ x : Str, (defScope s__law_no_text).names.lookup x = some .globalImplicit → Gl (X.suite al ((al, oe) :: pn2)) x := fun x h => by show X.env.scope.names.lookup x = _; rw [B.hsc]; exact h
  have hlen : σ.length = 2 := by rw [← en.len]; rfl
  have hsl : (σ.set 1 (some (.ref al)))[1]? = some (some (.ref al)) := by rw [List.getElem?_set_self (by omega)]
  refine suite_ret (u := true) (ix_and (ix_is T.e_BadText hz hv B.hsc B.hN T.b_isinstance rfl (i := 1) rfl (.inl rfl) hsl (clsE_own (hgl _ (by rfl)) T.x_BookError.g) T.k_BadText_BookError) (ix_and (ix_is T.e_BadText hz hv B.hsc B.hN T.b_isinstance rfl (i := 1) rfl (.inl rfl) hsl (clsE_blt (hgl _ (by rfl)) T.b_ValueError (by decide +kernel)) T.k_BadText_ValueError) (ix_one (ix_not (ix_is T.e_BadText hz hv B.hsc B.hN T.b_isinstance rfl (i := 1) rfl (.inl rfl) hsl (clsE_own (hgl _ (by rfl)) T.x_ZeroBottom.g) T.k_BadText_ZeroBottom))))) ?gr_3
  exact R _ F H1 (en.gr.trans ⟨Same.refl _, s1, en.gr.s.trans s1, fun _ _ z => z⟩) (Sub.rfl F _ rfl)
theorem sc__law_values : FnScope ["_law_x", "_law_y", "_law_a", "_law_b", "_law_c", "_law_e", "_law_low", "_law_high", "_law_near"] ["_law_x", "_law_y"] (defScope s__law_values) := ⟨rfl, rfl, rfl, by decide +kernel, rfl, by decide +kernel, by decide +kernel⟩
def sp__law_values (K : PySem.W.Frag) (cs : Cs) : Sp := Pm (ι := Rat × Rat) (fun ⟨q, r⟩ => Sz 50 q ∧ Sz 50 r) (fun ⟨q, r⟩ => [rNum K q, rNum K r]) (fun ⟨q, r⟩ => .val (rBl true))
theorem ok__law_values (T : Txt K mg cs) : Cal P w K mg base 5 "_law_values" (sp__law_values K cs) := by
  refine cal_ok T.d__law_values sc__law_values (fun g => rfl) (fun _ _ _ _ _ _ us hl => match us, hl with | [_, _], _ => rfl) ?_
  rintro X rfl rfl rfl rfl rfl B Bf ⟨q, r⟩ F0 H0 D hp R hnx
  have hq := hp.1; have hr := hp.2; have f1 := fl_lg0 hq; have f2 := ce_lg0 hq; have f3 := fl_lg0 (sz_add hq sz_half); have l1 : Lg (1 : Int) = 0 := by decide
  have l2 : Lg (2 : Int) = 1 := by decide
  have l3 : Lg (-1 : Int) = 0 := by decide
  refine @go_nf _ _ _ _ _ _ [_, _, _, _, _, _, _, _, _] rfl ?go_1
  refine go_set B (i := 2) (CA.val (ca_call B (ok__law_top T) (by decide) _ trivial (da_cons (de_var B (i := 0) rfl rfl (.inl rfl)) da_nil) rfl)) rfl (.inl rfl) ?go_2
  refine @go_nf _ _ _ _ _ _ [_, _, _, _, _, _, _, _, _] rfl ?go_3
  refine go_set B (i := 3) (CA.val (ca_call B (ok__law_bottom T) (by decide) _ trivial (da_cons (de_var B (i := 0) rfl rfl (.inl rfl)) da_nil) rfl)) rfl (.inl rfl) ?go_4
  refine @go_nf _ _ _ _ _ _ [_, _, _, _, _, _, _, _, _] rfl ?go_5
  refine go_set B (i := 4) (CA.val (ca_call B (ok__law_top T) (by decide) _ trivial (da_cons (de_var B (i := 1) rfl rfl (.inl rfl)) da_nil) rfl)) rfl (.inl rfl) ?go_6
  refine @go_nf _ _ _ _ _ _ [_, _, _, _, _, _, _, _, _] rfl ?go_7
  refine go_set B (i := 5) (CA.val (ca_call B (ok__law_bottom T) (by decide) _ trivial (da_cons (de_var B (i := 1) rfl rfl (.inl rfl)) da_nil) rfl)) rfl (.inl rfl) ?go_8
  refine @go_nf _ _ _ _ _ _ [_, _, _, _, _, _, _, _, _] rfl ?go_9
  refine go_if (DW.t (dw_or (dt_not (dt_val (CA.val (ca_call B (ok__law_stands T) (by decide) (_, _, _) ?c_law_stands_5 (da_cons (CA.val (ca_call B (ok_plus T) (by decide) (_, _) ?c_plus_1 (da_cons (de_var B (i := 0) rfl rfl (.inl rfl)) (da_cons (de_var B (i := 1) rfl rfl (.inl rfl)) da_nil)) rfl)) (da_cons (de_add (de_mulG ?m2 (de_var B (i := 2) rfl rfl (.inl rfl)) (de_var B (i := 5) rfl rfl (.inl rfl))) (de_mulG ?m3 (de_var B (i := 4) rfl rfl (.inl rfl)) (de_var B (i := 3) rfl rfl (.inl rfl)))) (da_cons (de_mulG ?m4 (de_var B (i := 3) rfl rfl (.inl rfl)) (de_var B (i := 5) rfl rfl (.inl rfl))) da_nil))) rfl)))) (fun hb1 => (dw_or1 (dt_not (dt_val (CA.val (ca_call B (ok__law_stands T) (by decide) (_, _, _) ?c_law_stands_10 (da_cons (CA.val (ca_call B (ok_minus T) (by decide) (_, _) ?c_minus_6 (da_cons (de_var B (i := 0) rfl rfl (.inl rfl)) (da_cons (de_var B (i := 1) rfl rfl (.inl rfl)) da_nil)) rfl)) (da_cons (de_sub (de_mulG ?m7 (de_var B (i := 2) rfl rfl (.inl rfl)) (de_var B (i := 5) rfl rfl (.inl rfl))) (de_mulG ?m8 (de_var B (i := 4) rfl rfl (.inl rfl)) (de_var B (i := 3) rfl rfl (.inl rfl)))) (da_cons (de_mulG ?m9 (de_var B (i := 3) rfl rfl (.inl rfl)) (de_var B (i := 5) rfl rfl (.inl rfl))) da_nil))) rfl)))))))) (fun hc => ?gt_10) (fun hc => ?gf_11)
  (case c_plus_1 => exact ⟨hq.mono (by decide), hr.mono (by decide)⟩)
  (case m2 => grind [lg_mul, lg_add, lg_sub, lg_neg, Sz])
  (case m3 => grind [lg_mul, lg_add, lg_sub, lg_neg, Sz])
  (case m4 => grind [lg_mul, lg_add, lg_sub, lg_neg, Sz])
  (case c_law_stands_5 => refine ⟨?_, by grind [lg_mul, lg_add, lg_sub, Sz], by grind [lg_mul, lg_add, lg_sub, Sz]⟩; first | exact (sz_add hq hr).mono (by decide) | exact (sz_sub hq hr).mono (by decide) | exact (sz_mul hq hr).mono (by decide) | exact (sz_div (num_nz hb1) hq hr).mono (by decide))
  (case c_minus_6 => exact ⟨hq.mono (by decide), hr.mono (by decide)⟩)
  (case m7 => grind [lg_mul, lg_add, lg_sub, lg_neg, Sz])
  (case m8 => grind [lg_mul, lg_add, lg_sub, lg_neg, Sz])
  (case m9 => grind [lg_mul, lg_add, lg_sub, lg_neg, Sz])
  (case c_law_stands_10 => refine ⟨?_, by grind [lg_mul, lg_add, lg_sub, Sz], by grind [lg_mul, lg_add, lg_sub, Sz]⟩; first | exact (sz_add hq hr).mono (by decide) | exact (sz_sub hq hr).mono (by decide) | exact (sz_mul hq hr).mono (by decide) | exact (sz_div (num_nz hb1) hq hr).mono (by decide))
  case gt_10 =>
    try (simp only [decide_eq_true_eq, decide_eq_false_iff_not, Bool.not_eq_true', Bool.not_eq_false', Bool.not_eq_true, Bool.not_eq_false] at hc)
    refine go_ret R de_bl ?rs_12
    (case rs_12 => exfalso; first | (simp [st_plus, st_minus] at hc; done) | (simp [st_times] at hc; done) | (simp [st_over_and] at hc; done) | (revert hc; simp only [st_over_and]; decide) | (revert hc; simp only [ls1]; decide) | (simp at hc; done) | (revert hc; simp only [wh1]; decide) | (revert hc; simp only [fl_ok]; decide))
  case gf_11 =>
    try (simp only [decide_eq_true_eq, decide_eq_false_iff_not, Bool.not_eq_true', Bool.not_eq_false', Bool.not_eq_true, Bool.not_eq_false] at hc)
    refine go_then ?go_13
    refine go_if (dt_not (dt_val (CA.val (ca_call B (ok__law_stands T) (by decide) (_, _, _) ?c_law_stands_14 (da_cons (CA.val (ca_call B (ok_times T) (by decide) (_, _) ?c_times_11 (da_cons (de_var B (i := 0) rfl rfl (.inl rfl)) (da_cons (de_var B (i := 1) rfl rfl (.inl rfl)) da_nil)) rfl)) (da_cons (de_mulG ?m12 (de_var B (i := 2) rfl rfl (.inl rfl)) (de_var B (i := 4) rfl rfl (.inl rfl))) (da_cons (de_mulG ?m13 (de_var B (i := 3) rfl rfl (.inl rfl)) (de_var B (i := 5) rfl rfl (.inl rfl))) da_nil))) rfl)))) (fun hc => ?gt_14) (fun hc => ?gf_15)
    (case c_times_11 => exact ⟨hq.mono (by decide), hr.mono (by decide)⟩)
    (case m12 => grind [lg_mul, lg_add, lg_sub, lg_neg, Sz])
    (case m13 => grind [lg_mul, lg_add, lg_sub, lg_neg, Sz])
    (case c_law_stands_14 => refine ⟨?_, by grind [lg_mul, lg_add, lg_sub, Sz], by grind [lg_mul, lg_add, lg_sub, Sz]⟩; first | exact (sz_add hq hr).mono (by decide) | exact (sz_sub hq hr).mono (by decide) | exact (sz_mul hq hr).mono (by decide) | exact (sz_div (num_nz hb1) hq hr).mono (by decide))
    case gt_14 =>
      try (simp only [decide_eq_true_eq, decide_eq_false_iff_not, Bool.not_eq_true', Bool.not_eq_false', Bool.not_eq_true, Bool.not_eq_false] at hc)
      refine go_ret R de_bl ?rs_16
      (case rs_16 => exfalso; first | (simp [st_plus, st_minus] at hc; done) | (simp [st_times] at hc; done) | (simp [st_over_and] at hc; done) | (revert hc; simp only [st_over_and]; decide) | (revert hc; simp only [ls1]; decide) | (simp at hc; done) | (revert hc; simp only [wh1]; decide) | (revert hc; simp only [fl_ok]; decide))
    case gf_15 =>
      try (simp only [decide_eq_true_eq, decide_eq_false_iff_not, Bool.not_eq_true', Bool.not_eq_false', Bool.not_eq_true, Bool.not_eq_false] at hc)
      refine go_then ?go_17
      refine go_if (DW.t (dw_and (dt_neI (de_var B (i := 4) rfl rfl (.inl rfl)) de_int) (fun hb1 => (dw_and1 (dt_not (dt_val (CA.val (ca_call B (ok__law_stands T) (by decide) (_, _, _) ?c_law_stands_19 (da_cons (CA.val (ca_callO (okr_over X.K) B (ok_over T) (by decide) (_, _) ?c_over_15 ?o_over_16 (da_cons (de_var B (i := 0) rfl rfl (.inl rfl)) (da_cons (de_var B (i := 1) rfl rfl (.inl rfl)) da_nil)) rfl)) (da_cons (de_mulG ?m17 (de_var B (i := 2) rfl rfl (.inl rfl)) (de_var B (i := 5) rfl rfl (.inl rfl))) (da_cons (de_mulG ?m18 (de_var B (i := 3) rfl rfl (.inl rfl)) (de_var B (i := 4) rfl rfl (.inl rfl))) da_nil))) rfl)))))))) (fun hc => ?gt_18) (fun hc => ?gf_19)
      (case c_over_15 => exact ⟨hq.mono (by decide), hr.mono (by decide)⟩)
      (case o_over_16 => exact if_neg (num_nz hb1))
      (case m17 => grind [lg_mul, lg_add, lg_sub, lg_neg, Sz])
      (case m18 => grind [lg_mul, lg_add, lg_sub, lg_neg, Sz])
      (case c_law_stands_19 => refine ⟨?_, by grind [lg_mul, lg_add, lg_sub, Sz], by grind [lg_mul, lg_add, lg_sub, Sz]⟩; first | exact (sz_add hq hr).mono (by decide) | exact (sz_sub hq hr).mono (by decide) | exact (sz_mul hq hr).mono (by decide) | exact (sz_div (num_nz hb1) hq hr).mono (by decide))
      case gt_18 =>
        try (simp only [decide_eq_true_eq, decide_eq_false_iff_not, Bool.not_eq_true', Bool.not_eq_false', Bool.not_eq_true, Bool.not_eq_false] at hc)
        refine go_ret R de_bl ?rs_20
        (case rs_20 => exfalso; first | (simp [st_plus, st_minus] at hc; done) | (simp [st_times] at hc; done) | (simp [st_over_and] at hc; done) | (revert hc; simp only [st_over_and]; decide) | (revert hc; simp only [ls1]; decide) | (simp at hc; done) | (revert hc; simp only [wh1]; decide) | (revert hc; simp only [fl_ok]; decide))
      case gf_19 =>
        try (simp only [decide_eq_true_eq, decide_eq_false_iff_not, Bool.not_eq_true', Bool.not_eq_false', Bool.not_eq_true, Bool.not_eq_false] at hc)
        refine go_then ?go_21
        refine go_if (DW.t (dw_or (dt_cmp op_ne b2_neB (de_isBl (CA.val (ca_call B (ok_less T) (by decide) (_, _) ?c_less_20 (da_cons (de_var B (i := 0) rfl rfl (.inl rfl)) (da_cons (de_var B (i := 1) rfl rfl (.inl rfl)) da_nil)) rfl))) (de_ltI (de_mulG ?m21 (de_var B (i := 2) rfl rfl (.inl rfl)) (de_var B (i := 5) rfl rfl (.inl rfl))) (de_mulG ?m22 (de_var B (i := 4) rfl rfl (.inl rfl)) (de_var B (i := 3) rfl rfl (.inl rfl)))) (nomark _)) (fun hb1 => (dw_or1 (dt_cmp op_ne b2_neB (de_isBl (CA.val (ca_call B (ok_less T) (by decide) (_, _) ?c_less_23 (da_cons (de_var B (i := 0) rfl rfl (.inl rfl)) (da_cons (de_var B (i := 1) rfl rfl (.inl rfl)) da_nil)) rfl))) (de_geI (de_mulG ?m24 (de_var B (i := 2) rfl rfl (.inl rfl)) (de_var B (i := 5) rfl rfl (.inl rfl))) (de_mulG ?m25 (de_var B (i := 4) rfl rfl (.inl rfl)) (de_var B (i := 3) rfl rfl (.inl rfl)))) (nomark _)))))) (fun hc => ?gt_22) (fun hc => ?gf_23)
        (case c_less_20 => exact ⟨hq.mono (by decide), hr.mono (by decide)⟩)
        (case m21 => grind [lg_mul, lg_add, lg_sub, lg_neg, Sz])
        (case m22 => grind [lg_mul, lg_add, lg_sub, lg_neg, Sz])
        (case c_less_23 => exact ⟨hq.mono (by decide), hr.mono (by decide)⟩)
        (case m24 => grind [lg_mul, lg_add, lg_sub, lg_neg, Sz])
        (case m25 => grind [lg_mul, lg_add, lg_sub, lg_neg, Sz])
        case gt_22 =>
          try (simp only [decide_eq_true_eq, decide_eq_false_iff_not, Bool.not_eq_true', Bool.not_eq_false', Bool.not_eq_true, Bool.not_eq_false] at hc)
          refine go_ret R de_bl ?rs_24
          (case rs_24 => exfalso; first | (simp [st_plus, st_minus] at hc; done) | (simp [st_times] at hc; done) | (simp [st_over_and] at hc; done) | (revert hc; simp only [st_over_and]; decide) | (revert hc; simp only [ls1]; decide) | (simp at hc; done) | (revert hc; simp only [wh1]; decide) | (revert hc; simp only [fl_ok]; decide))
        case gf_23 =>
          try (simp only [decide_eq_true_eq, decide_eq_false_iff_not, Bool.not_eq_true', Bool.not_eq_false', Bool.not_eq_true, Bool.not_eq_false] at hc)
          refine go_then ?go_25
          refine go_if (DW.t (dw_or (dt_not (dt_val (CA.val (ca_call B (ok__law_is_int T) (by decide) _ trivial (da_cons (de_i2n (CA.val (ca_call B (ok_top_of T) (by decide) _ trivial (da_cons (de_var B (i := 0) rfl rfl (.inl rfl)) da_nil) rfl))) da_nil) rfl)))) (fun hb1 => (dw_or (dt_not (dt_val (CA.val (ca_call B (ok__law_is_int T) (by decide) _ trivial (da_cons (de_i2n (CA.val (ca_call B (ok_bottom_of T) (by decide) _ trivial (da_cons (de_var B (i := 0) rfl rfl (.inl rfl)) da_nil) rfl))) da_nil) rfl)))) (fun hb2 => (dw_or (dt_neI (CA.val (ca_call B (ok_top_of T) (by decide) _ trivial (da_cons (de_var B (i := 0) rfl rfl (.inl rfl)) da_nil) rfl)) (de_var B (i := 2) rfl rfl (.inl rfl))) (fun hb3 => (dw_or1 (dt_neI (CA.val (ca_call B (ok_bottom_of T) (by decide) _ trivial (da_cons (de_var B (i := 0) rfl rfl (.inl rfl)) da_nil) rfl)) (de_var B (i := 3) rfl rfl (.inl rfl))))))))))) (fun hc => ?gt_26) (fun hc => ?gf_27)
          case gt_26 =>
            try (simp only [decide_eq_true_eq, decide_eq_false_iff_not, Bool.not_eq_true', Bool.not_eq_false', Bool.not_eq_true, Bool.not_eq_false] at hc)
            refine go_ret R de_bl ?rs_28
            (case rs_28 => exfalso; first | (simp [st_plus, st_minus] at hc; done) | (simp [st_times] at hc; done) | (simp [st_over_and] at hc; done) | (revert hc; simp only [st_over_and]; decide) | (revert hc; simp only [ls1]; decide) | (simp at hc; done) | (revert hc; simp only [wh1]; decide) | (revert hc; simp only [fl_ok]; decide))
          case gf_27 =>
            try (simp only [decide_eq_true_eq, decide_eq_false_iff_not, Bool.not_eq_true', Bool.not_eq_false', Bool.not_eq_true, Bool.not_eq_false] at hc)
            refine go_then ?go_29
            refine go_if (DW.t (dw_or (dt_cmp op_ne b2_neB (de_isBl (CA.val (ca_call B (ok_is_whole T) (by decide) _ trivial (da_cons (de_var B (i := 0) rfl rfl (.inl rfl)) da_nil) rfl))) (de_eqI (de_var B (i := 3) rfl rfl (.inl rfl)) de_int) (nomark _)) (fun hb1 => (dw_or1 (dt_cmp op_ne b2_neB (de_isBl (CA.val (ca_call B (ok_is_whole T) (by decide) _ trivial (da_cons (de_var B (i := 0) rfl rfl (.inl rfl)) da_nil) rfl))) (de_neI (de_var B (i := 3) rfl rfl (.inl rfl)) de_int) (nomark _)))))) (fun hc => ?gt_30) (fun hc => ?gf_31)
            case gt_30 =>
              try (simp only [decide_eq_true_eq, decide_eq_false_iff_not, Bool.not_eq_true', Bool.not_eq_false', Bool.not_eq_true, Bool.not_eq_false] at hc)
              refine go_ret R de_bl ?rs_32
              (case rs_32 => exfalso; first | (simp [st_plus, st_minus] at hc; done) | (simp [st_times] at hc; done) | (simp [st_over_and] at hc; done) | (revert hc; simp only [st_over_and]; decide) | (revert hc; simp only [ls1]; decide) | (simp at hc; done) | (revert hc; simp only [wh1]; decide) | (revert hc; simp only [fl_ok]; decide))
            case gf_31 =>
              try (simp only [decide_eq_true_eq, decide_eq_false_iff_not, Bool.not_eq_true', Bool.not_eq_false', Bool.not_eq_true, Bool.not_eq_false] at hc)
              refine go_then ?go_33
              refine go_set B (i := 6) (CA.val (ca_call B (ok_floor_of T) (by decide) _ ?c_floor_of_26 (da_cons (de_var B (i := 0) rfl rfl (.inl rfl)) da_nil) rfl)) rfl (.inl rfl) ?go_34
              (case c_floor_of_26 => exact hq.mono (by decide))
              refine @go_nf _ _ _ _ _ _ [_, _, _, _, _, _, _, _, _] rfl ?go_35
              refine go_set B (i := 7) (CA.val (ca_call B (ok_ceiling_of T) (by decide) _ ?c_ceiling_of_27 (da_cons (de_var B (i := 0) rfl rfl (.inl rfl)) da_nil) rfl)) rfl (.inl rfl) ?go_36
              (case c_ceiling_of_27 => exact hq.mono (by decide))
              refine @go_nf _ _ _ _ _ _ [_, _, _, _, _, _, _, _, _] rfl ?go_37
              refine go_set B (i := 8) (CA.val (ca_call B (ok_nearest T) (by decide) _ ?c_nearest_28 (da_cons (de_var B (i := 0) rfl rfl (.inl rfl)) da_nil) rfl)) rfl (.inl rfl) ?go_38
              (case c_nearest_28 => exact hq.mono (by decide))
              refine @go_nf _ _ _ _ _ _ [_, _, _, _, _, _, _, _, _] rfl ?go_39
              refine go_if (DW.t (dw_or (dt_not (dt_val (CA.val (ca_call B (ok__law_is_int T) (by decide) _ trivial (da_cons (de_i2n (de_var B (i := 6) rfl rfl (.inl rfl))) da_nil) rfl)))) (fun hb1 => (dw_or (dt_not (dt_val (CA.val (ca_call B (ok__law_is_int T) (by decide) _ trivial (da_cons (de_i2n (de_var B (i := 7) rfl rfl (.inl rfl))) da_nil) rfl)))) (fun hb2 => (dw_or1 (dt_not (dt_val (CA.val (ca_call B (ok__law_is_int T) (by decide) _ trivial (da_cons (de_i2n (de_var B (i := 8) rfl rfl (.inl rfl))) da_nil) rfl)))))))))) (fun hc => ?gt_40) (fun hc => ?gf_41)
              case gt_40 =>
                try (simp only [decide_eq_true_eq, decide_eq_false_iff_not, Bool.not_eq_true', Bool.not_eq_false', Bool.not_eq_true, Bool.not_eq_false] at hc)
                refine go_ret R de_bl ?rs_42
                (case rs_42 => exfalso; first | (simp [st_plus, st_minus] at hc; done) | (simp [st_times] at hc; done) | (simp [st_over_and] at hc; done) | (revert hc; simp only [st_over_and]; decide) | (revert hc; simp only [ls1]; decide) | (simp at hc; done) | (revert hc; simp only [wh1]; decide) | (revert hc; simp only [fl_ok]; decide))
              case gf_41 =>
                try (simp only [decide_eq_true_eq, decide_eq_false_iff_not, Bool.not_eq_true', Bool.not_eq_false', Bool.not_eq_true, Bool.not_eq_false] at hc)
                refine go_then ?go_43
                refine go_if (DW.t (dw_or (dt_gt (de_mulG ?m29 (de_var B (i := 6) rfl rfl (.inl rfl)) (de_var B (i := 3) rfl rfl (.inl rfl))) (de_var B (i := 2) rfl rfl (.inl rfl))) (fun hb1 => (dw_or (dt_le (de_mulG ?m30 (de_add (de_var B (i := 6) rfl rfl (.inl rfl)) de_int) (de_var B (i := 3) rfl rfl (.inl rfl))) (de_var B (i := 2) rfl rfl (.inl rfl))) (fun hb2 => (dw_or (dt_lt (de_mulG ?m31 (de_var B (i := 7) rfl rfl (.inl rfl)) (de_var B (i := 3) rfl rfl (.inl rfl))) (de_var B (i := 2) rfl rfl (.inl rfl))) (fun hb3 => (dw_or1 (dt_ge (de_mulG ?m32 (de_sub (de_var B (i := 7) rfl rfl (.inl rfl)) de_int) (de_var B (i := 3) rfl rfl (.inl rfl))) (de_var B (i := 2) rfl rfl (.inl rfl))))))))))) (fun hc => ?gt_44) (fun hc => ?gf_45)
                (case m29 => grind [lg_mul, lg_add, lg_sub, lg_neg, Sz])
                (case m30 => grind [lg_mul, lg_add, lg_sub, lg_neg, Sz])
                (case m31 => grind [lg_mul, lg_add, lg_sub, lg_neg, Sz])
                (case m32 => grind [lg_mul, lg_add, lg_sub, lg_neg, Sz])
                case gt_44 =>
                  try (simp only [decide_eq_true_eq, decide_eq_false_iff_not, Bool.not_eq_true', Bool.not_eq_false', Bool.not_eq_true, Bool.not_eq_false] at hc)
                  refine go_ret R de_bl ?rs_46
                  (case rs_46 => exfalso; first | (simp [st_plus, st_minus] at hc; done) | (simp [st_times] at hc; done) | (simp [st_over_and] at hc; done) | (revert hc; simp only [st_over_and]; decide) | (revert hc; simp only [ls1]; decide) | (simp at hc; done) | (revert hc; simp only [wh1]; decide) | (revert hc; simp only [fl_ok]; decide))
                case gf_45 =>
                  try (simp only [decide_eq_true_eq, decide_eq_false_iff_not, Bool.not_eq_true', Bool.not_eq_false', Bool.not_eq_true, Bool.not_eq_false] at hc)
                  refine go_then ?go_47
                  refine go_ret R (de_and (de_leI (de_mulG ?m34 (de_sub (de_mulG ?m33 de_int (de_var B (i := 8) rfl rfl (.inl rfl))) de_int) (de_var B (i := 3) rfl rfl (.inl rfl))) (de_mulG ?m35 de_int (de_var B (i := 2) rfl rfl (.inl rfl)))) (fun hb1 => (de_one (de_ltI (de_mulG ?m36 de_int (de_var B (i := 2) rfl rfl (.inl rfl))) (de_mulG ?m38 (de_add (de_mulG ?m37 de_int (de_var B (i := 8) rfl rfl (.inl rfl))) de_int) (de_var B (i := 3) rfl rfl (.inl rfl))))))) ?rs_48
                  (case m33 => grind [lg_mul, lg_add, lg_sub, lg_neg, Sz])
                  (case m34 => grind [lg_mul, lg_add, lg_sub, lg_neg, Sz])
                  (case m35 => grind [lg_mul, lg_add, lg_sub, lg_neg, Sz])
                  (case m36 => grind [lg_mul, lg_add, lg_sub, lg_neg, Sz])
                  (case m37 => grind [lg_mul, lg_add, lg_sub, lg_neg, Sz])
                  (case m38 => grind [lg_mul, lg_add, lg_sub, lg_neg, Sz])
                  (case rs_48 => exact Sub.of (by rw [near_ok]))
theorem sc__law_lists : FnScope ["_law_row", "_law_due", "_law_x", "_law_told", "_law_least", "_law_most"] ["_law_row"] (defScope s__law_lists) := ⟨rfl, rfl, rfl, by decide +kernel, rfl, by decide +kernel, by decide +kernel⟩
def sp__law_lists (K : PySem.W.Frag) (cs : Cs) : Sp := Pm (ι := List Rat) (fun qs => qs.length ≤ 8 ∧ ∀ q ∈ qs, Sz 50 q) (fun qs => [rLst K (qs.map (rNum K))]) (fun qs => .val (rBl true))
theorem ok__law_lists (T : Txt K mg cs) : Cal P w K mg base 5 "_law_lists" (sp__law_lists K cs) := by
  refine cal_ok T.d__law_lists sc__law_lists (fun g => rfl) (fun _ _ _ _ _ _ us hl => match us, hl with | [_], _ => rfl) ?_
  rintro X rfl rfl rfl rfl rfl B Bf qs F0 H0 D hp R hnx
  refine go_set B (i := 1) de_int rfl (.inl rfl) ?go_1
  refine go_forS B (fun i => [(1, .im (rInt (lcmD (qs.take i) : Nat))), (2, .any)]) (fun i => True) (sr_listM (R := (rNum X.K)) (0 : Rat) (de_var B (i := 0) rfl rfl (.inl rfl))) _ (fun i hi => (dg_name B (i := 2) rfl (.inl rfl))) ?h0_2 ?j0_3 (fun F1 u i hi hj => ?gb_4) (fun hj => ?ge_5)
  (case h0_2 => refine .same ?_; refine .im ?h ?_; (case h => exact Sub.rfl); refine .any ?_; refine .same ?_; refine .same ?_; refine .same ?_; exact .nil)
  (case j0_3 => trivial)
  case gb_4 =>
    refine go_set B (i := 1) (de_divG ?z3 ?d4 (de_mulG ?m1 (de_var B (i := 1) rfl rfl (.inl rfl)) (CA.val (ca_call B (ok__law_bottom T) (by decide) _ trivial (da_cons (de_var B (i := 2) rfl rfl (.inl rfl)) da_nil) rfl))) (CA.val (ca_call B (ok__law_gcd T) (by decide) (_, _) ?c_law_gcd_2 (da_cons (de_var B (i := 1) rfl rfl (.inl rfl)) (da_cons (CA.val (ca_call B (ok__law_bottom T) (by decide) _ trivial (da_cons (de_var B (i := 2) rfl rfl (.inl rfl)) da_nil) rfl)) da_nil)) rfl))) rfl (.inl rfl) ?go_6
    (case m1 => first | exact lcm_mul hp hi | exact (two_mul hp hi (minO_in hmn).1).1.1 | exact (two_mul hp hi (minO_in hmn).1).1.2 | exact (two_mul hp hi (maxO_in hmx).1).1.1 | exact (two_mul hp hi (maxO_in hmx).1).1.2)
    (case c_law_gcd_2 => exact ⟨lcmD_lg hp hi, den_lg hp hi⟩)
    (case z3 => exact gcd_nz)
    (case d4 => exact gcd_lg hp hi)
    refine go_turnS ?jn_7 ?ln_8
    (case jn_7 => trivial)
    (case ln_8 => refine .same ?_; refine .im ?h ?_; (case h => exact Sub.of (by rw [lcmD_step hi, lcm_fdiv])); refine .any ?_; refine .same ?_; refine .same ?_; refine .same ?_; exact .nil)
  case ge_5 =>
    refine go_set B (i := 3) (CA.val (ca_call B (ok_common_bottom T) (by decide) _ ?c_common_bottom_5 (da_cons (DL.froz (dl_list B T.b_list (de_var B (i := 0) rfl rfl (.inl rfl)) rfl)) da_nil) rfl)) rfl (.inl rfl) ?go_9
    (case c_common_bottom_5 => exact ⟨50, hp.2, by have := hp.1; omega, by decide⟩)
    refine go_if (DW.t (dw_or (dt_not (dt_val (CA.val (ca_call B (ok__law_is_int T) (by decide) _ trivial (da_cons (de_i2n (de_var B (i := 3) rfl rfl (.inl rfl))) da_nil) rfl)))) (fun hb1 => (dw_or1 (dt_neI (de_var B (i := 3) rfl rfl (.inl rfl)) (de_var B (i := 1) rfl rfl (.inl rfl))))))) (fun hc => ?gt_10) (fun hc => ?gf_11)
    case gt_10 =>
      try (simp only [decide_eq_true_eq, decide_eq_false_iff_not, Bool.not_eq_true', Bool.not_eq_false', Bool.not_eq_true, Bool.not_eq_false] at hc)
      refine go_ret R de_bl ?rs_12
      (case rs_12 => exfalso; first | (simp [(minO_in hmn).1, (maxO_in hmx).1] at hc; done) | exact (minO_in hmn).2 _ (getD_mem hi) (by simpa using hc) | exact (maxO_in hmx).2 _ (getD_mem hi) (by simpa using hc) | (simp at hc; done))
    case gf_11 =>
      try (simp only [decide_eq_true_eq, decide_eq_false_iff_not, Bool.not_eq_true', Bool.not_eq_false', Bool.not_eq_true, Bool.not_eq_false] at hc)
      refine go_then ?go_13
      refine go_set B (i := 4) (CA.val (ca_call B (ok_least_of T) (by decide) _ ?c_least_of_6 (da_cons (DL.froz (dl_list B T.b_list (de_var B (i := 0) rfl rfl (.inl rfl)) rfl)) da_nil) rfl)) rfl (.inl rfl) ?go_14
      (case c_least_of_6 => exact fun q hq => (hp.2 q hq).mono (by decide))
      refine go_set B (i := 5) (CA.val (ca_call B (ok_greatest_of T) (by decide) _ ?c_greatest_of_7 (da_cons (DL.froz (dl_list B T.b_list (de_var B (i := 0) rfl rfl (.inl rfl)) rfl)) da_nil) rfl)) rfl (.inl rfl) ?go_15
      (case c_greatest_of_7 => exact fun q hq => (hp.2 q hq).mono (by decide))
      refine go_if (dt_eqI (de_lenM B T.b_len (de_var B (i := 0) rfl rfl (.inl rfl)) rfl) de_int) (fun hc => ?gt_16) (fun hc => ?gf_17)
      case gt_16 =>
        replace hc := of_decide_eq_true hc; have hn : qs = [] := List.eq_nil_of_length_eq_zero (by omega)
        refine go_ret R (de_and (de_isNo (de_var B (i := 4) rfl rfl (.inl rfl))) (fun hb1 => (de_one (de_isNo (de_var B (i := 5) rfl rfl (.inl rfl)))))) ?rs_18
        (case rs_18 => subst hn; exact Sub.rfl)
      case gf_17 =>
        replace hc := of_decide_eq_false hc; have hn : qs ≠ [] := fun z => hc (by rw [z]; rfl)
        have hmn := minO_none hn
        have hmx := maxO_none hn
        refine go_then ?go_19
        refine go_if (DW.t (dw_or (dt_not (dt_val (CA.val (ca_call B (ok__law_is_number T) (by decide) _ ?c_law_is_number_9 (da_cons (de_o2n ?on8 (de_var B (i := 4) rfl rfl (.inl rfl))) da_nil) rfl)))) (fun hb1 => (dw_or (dt_not (dt_val (CA.val (ca_call B (ok__law_is_number T) (by decide) _ ?c_law_is_number_11 (da_cons (de_o2n ?on10 (de_var B (i := 5) rfl rfl (.inl rfl))) da_nil) rfl)))) (fun hb2 => (dw_or (dt_notInN B (de_o2n ?on12 (de_var B (i := 4) rfl rfl (.inl rfl))) (de_var B (i := 0) rfl rfl (.inl rfl))) (fun hb3 => (dw_or1 (dt_notInN B (de_o2n ?on13 (de_var B (i := 5) rfl rfl (.inl rfl))) (de_var B (i := 0) rfl rfl (.inl rfl))))))))))) (fun hc => ?gt_20) (fun hc => ?gf_21)
        (case on8 => first | exact hmn | exact hmx)
        (case c_law_is_number_9 => first | exact (hp.2 _ (minO_in hmn).1).mono (by decide) | exact (hp.2 _ (maxO_in hmx).1).mono (by decide))
        (case on10 => first | exact hmn | exact hmx)
        (case c_law_is_number_11 => first | exact (hp.2 _ (minO_in hmn).1).mono (by decide) | exact (hp.2 _ (maxO_in hmx).1).mono (by decide))
        (case on12 => first | exact hmn | exact hmx)
        (case on13 => first | exact hmn | exact hmx)
        case gt_20 =>
          try (simp only [decide_eq_true_eq, decide_eq_false_iff_not, Bool.not_eq_true', Bool.not_eq_false', Bool.not_eq_true, Bool.not_eq_false] at hc)
          refine go_ret R de_bl ?rs_22
          (case rs_22 => exfalso; first | (simp [(minO_in hmn).1, (maxO_in hmx).1] at hc; done) | exact (minO_in hmn).2 _ (getD_mem hi) (by simpa using hc) | exact (maxO_in hmx).2 _ (getD_mem hi) (by simpa using hc) | (simp at hc; done))
        case gf_21 =>
          try (simp only [decide_eq_true_eq, decide_eq_false_iff_not, Bool.not_eq_true', Bool.not_eq_false', Bool.not_eq_true, Bool.not_eq_false] at hc)
          refine go_then ?go_23
          refine go_forS B (fun i => [(2, .any)]) (fun i => True) (sr_listM (R := (rNum X.K)) (0 : Rat) (de_var B (i := 0) rfl rfl (.inl rfl))) _ (fun i hi => (dg_name B (i := 2) rfl (.inl rfl))) ?h0_24 ?j0_25 (fun F1 u i hi hj => ?gb_26) (fun hj => ?ge_27)
          (case h0_24 => refine .same ?_; refine .same ?_; refine .any ?_; refine .same ?_; refine .same ?_; refine .same ?_; exact .nil)
          (case j0_25 => trivial)
          case gb_26 =>
            refine go_if (dt_lt (de_mulG ?m15 (CA.val (ca_call B (ok__law_top T) (by decide) _ trivial (da_cons (de_var B (i := 2) rfl rfl (.inl rfl)) da_nil) rfl)) (CA.val (ca_call B (ok__law_bottom T) (by decide) _ trivial (da_cons (de_o2n ?on14 (de_var B (i := 4) rfl rfl (.inl rfl))) da_nil) rfl))) (de_mulG ?m17 (CA.val (ca_call B (ok__law_top T) (by decide) _ trivial (da_cons (de_o2n ?on16 (de_var B (i := 4) rfl rfl (.inl rfl))) da_nil) rfl)) (CA.val (ca_call B (ok__law_bottom T) (by decide) _ trivial (da_cons (de_var B (i := 2) rfl rfl (.inl rfl)) da_nil) rfl)))) (fun hc => ?gt_28) (fun hc => ?gf_29)
            (case on14 => first | exact hmn | exact hmx)
            (case m15 => first | exact lcm_mul hp hi | exact (two_mul hp hi (minO_in hmn).1).1.1 | exact (two_mul hp hi (minO_in hmn).1).1.2 | exact (two_mul hp hi (maxO_in hmx).1).1.1 | exact (two_mul hp hi (maxO_in hmx).1).1.2)
            (case on16 => first | exact hmn | exact hmx)
            (case m17 => first | exact lcm_mul hp hi | exact (two_mul hp hi (minO_in hmn).1).1.1 | exact (two_mul hp hi (minO_in hmn).1).1.2 | exact (two_mul hp hi (maxO_in hmx).1).1.1 | exact (two_mul hp hi (maxO_in hmx).1).1.2)
            case gt_28 =>
              try (simp only [decide_eq_true_eq, decide_eq_false_iff_not, Bool.not_eq_true', Bool.not_eq_false', Bool.not_eq_true, Bool.not_eq_false] at hc)
              refine go_ret (u.rt R) de_bl ?rs_30
              (case rs_30 => exfalso; first | (simp [(minO_in hmn).1, (maxO_in hmx).1] at hc; done) | exact (minO_in hmn).2 _ (getD_mem hi) (by simpa using hc) | exact (maxO_in hmx).2 _ (getD_mem hi) (by simpa using hc) | (simp at hc; done))
            case gf_29 =>
              try (simp only [decide_eq_true_eq, decide_eq_false_iff_not, Bool.not_eq_true', Bool.not_eq_false', Bool.not_eq_true, Bool.not_eq_false] at hc)
              refine go_then ?go_31
              refine go_if (dt_lt (de_mulG ?m19 (CA.val (ca_call B (ok__law_top T) (by decide) _ trivial (da_cons (de_o2n ?on18 (de_var B (i := 5) rfl rfl (.inl rfl))) da_nil) rfl)) (CA.val (ca_call B (ok__law_bottom T) (by decide) _ trivial (da_cons (de_var B (i := 2) rfl rfl (.inl rfl)) da_nil) rfl))) (de_mulG ?m21 (CA.val (ca_call B (ok__law_top T) (by decide) _ trivial (da_cons (de_var B (i := 2) rfl rfl (.inl rfl)) da_nil) rfl)) (CA.val (ca_call B (ok__law_bottom T) (by decide) _ trivial (da_cons (de_o2n ?on20 (de_var B (i := 5) rfl rfl (.inl rfl))) da_nil) rfl)))) (fun hc => ?gt_32) (fun hc => ?gf_33)
              (case on18 => first | exact hmn | exact hmx)
              (case m19 => first | exact lcm_mul hp hi | exact (two_mul hp hi (minO_in hmn).1).1.1 | exact (two_mul hp hi (minO_in hmn).1).1.2 | exact (two_mul hp hi (maxO_in hmx).1).1.1 | exact (two_mul hp hi (maxO_in hmx).1).1.2)
              (case on20 => first | exact hmn | exact hmx)
              (case m21 => first | exact lcm_mul hp hi | exact (two_mul hp hi (minO_in hmn).1).1.1 | exact (two_mul hp hi (minO_in hmn).1).1.2 | exact (two_mul hp hi (maxO_in hmx).1).1.1 | exact (two_mul hp hi (maxO_in hmx).1).1.2)
              case gt_32 =>
                try (simp only [decide_eq_true_eq, decide_eq_false_iff_not, Bool.not_eq_true', Bool.not_eq_false', Bool.not_eq_true, Bool.not_eq_false] at hc)
                refine go_ret (u.rt R) de_bl ?rs_34
                (case rs_34 => exfalso; first | (simp [(minO_in hmn).1, (maxO_in hmx).1] at hc; done) | exact (minO_in hmn).2 _ (getD_mem hi) (by simpa using hc) | exact (maxO_in hmx).2 _ (getD_mem hi) (by simpa using hc) | (simp at hc; done))
              case gf_33 =>
                try (simp only [decide_eq_true_eq, decide_eq_false_iff_not, Bool.not_eq_true', Bool.not_eq_false', Bool.not_eq_true, Bool.not_eq_false] at hc)
                refine go_then ?go_35
                refine go_turnS ?jn_36 ?ln_37
                (case jn_36 => trivial)
                (case ln_37 => refine .same ?_; refine .same ?_; refine .any ?_; refine .same ?_; refine .same ?_; refine .same ?_; exact .nil)
          case ge_27 =>
            refine go_ret R de_bl ?rs_38
            (case rs_38 => exact Sub.rfl)
end K00

set_option Elab.async false
set_option linter.all false
set_option maxRecDepth 100000
set_option maxHeartbeats 4000000
namespace K00
open PySem PySem.Spec PyProof.Rows L2 DL
variable {P : Program} {w : World} {K : PySem.W.Frag} {mg : Str → Option Value} {base : Heap} {cs : Cs}
theorem sc__law_texts : FnScope ["_law_x", "_law_due", "_law_told", "_law_back"] ["_law_x"] (defScope s__law_texts) := ⟨rfl, rfl, rfl, by decide +kernel, rfl, by decide +kernel, by decide +kernel⟩
def sp__law_texts (K : PySem.W.Frag) (cs : Cs) : Sp := Pm (ι := Rat) (fun q => Sz 50 q) (fun q => [rNum K q]) (fun q => .val (rBl true))
theorem ok__law_texts (T : Txt K mg cs) : Cal P w K mg base 5 "_law_texts" (sp__law_texts K cs) := by
  refine cal_ok T.d__law_texts sc__law_texts (fun g => rfl) (fun _ _ _ _ _ _ us hl => match us, hl with | [_], _ => rfl) ?_
  rintro X rfl rfl rfl rfl rfl B Bf q F0 H0 D hp R hnx
  have hq : Sz 390 q := hp.mono (by decide)
  have hl1 := str_len (k := 51) (i := q.num) (by have := hp.1; omega)
  have hl2 := str_len (k := 51) (i := (q.den : Int)) (by have := hp.2; omega)
  refine go_set B (i := 1) (de_strI B T.b_str ?sg1 (CA.val (ca_call B (ok__law_top T) (by decide) _ trivial (da_cons (de_var B (i := 0) rfl rfl (.inl rfl)) da_nil) rfl)) rfl) rfl (.inl rfl) ?go_1
  (case sg1 => first | exact Nat.lt_of_le_of_lt hp.1 (by decide) | exact Nat.lt_of_le_of_lt hp.2 (by decide))
  refine go_if (dt_neI (CA.val (ca_call B (ok__law_bottom T) (by decide) _ trivial (da_cons (de_var B (i := 0) rfl rfl (.inl rfl)) da_nil) rfl)) de_int) (fun hc => ?gt_2) (fun hc => ?gf_3)
  case gt_2 =>
    have hd := due_pair (q := q) (fun z => nd_t hc (by rw [z]; rfl))
    refine go_set B (i := 1) (de_catS ?ct4 (de_catS ?ct2 (de_var B (i := 1) rfl rfl (.inl rfl)) de_str) (de_strI B T.b_str ?sg3 (CA.val (ca_call B (ok__law_bottom T) (by decide) _ trivial (da_cons (de_var B (i := 0) rfl rfl (.inl rfl)) da_nil) rfl)) rfl)) rfl (.inl rfl) ?go_4
    (case ct2 => first | (have h1 : (("/" : Str)).length = 1 := rfl; have h5 : 1000000 ≤ sizeLine := (by decide); omega) | (rw [app_len]; have h1 : (("/" : Str)).length = 1 := rfl; have h5 : 1000000 ≤ sizeLine := (by decide); omega))
    (case sg3 => first | exact Nat.lt_of_le_of_lt hp.1 (by decide) | exact Nat.lt_of_le_of_lt hp.2 (by decide))
    (case ct4 => first | (have h1 : (("/" : Str)).length = 1 := rfl; have h5 : 1000000 ≤ sizeLine := (by decide); omega) | (rw [app_len]; have h1 : (("/" : Str)).length = 1 := rfl; have h5 : 1000000 ≤ sizeLine := (by decide); omega))
    refine go_then ?go_5
    refine go_set B (i := 2) (CA.val (ca_call B (ok_number_text T) (by decide) _ ?c_number_text_5 (da_cons (de_var B (i := 0) rfl rfl (.inl rfl)) da_nil) rfl)) rfl (.inl rfl) ?go_6
    (case c_number_text_5 => exact hp.mono (by decide))
    refine go_if (DW.t (dw_or (dt_not (dt_val (de_isi (T := "str") B T.b_isinstance rty_str (kit_ty (r := true) (by decide +kernel)) (de_var B (i := 2) rfl rfl (.inl rfl)) (de_ty B T.b_str (by decide +kernel) rfl) rfl))) (fun hb1 => (dw_or1 (dt_neS (de_var B (i := 2) rfl rfl (.inl rfl)) (de_var B (i := 1) rfl rfl (.inl rfl))))))) (fun hc => ?gt_7) (fun hc => ?gf_8)
    case gt_7 =>
      try (simp only [decide_eq_true_eq, decide_eq_false_iff_not, Bool.not_eq_true', Bool.not_eq_false', Bool.not_eq_true, Bool.not_eq_false] at hc)
      refine go_ret R de_bl ?rs_9
      (case rs_9 => exfalso; rw [hd] at hc; simp at hc)
    case gf_8 =>
      try (simp only [decide_eq_true_eq, decide_eq_false_iff_not, Bool.not_eq_true', Bool.not_eq_false', Bool.not_eq_true, Bool.not_eq_false] at hc)
      refine go_then ?go_10
      refine go_set B (i := 3) (CA.val (ca_callO (okr_read_number X.K) B (ok_read_number T) (by decide) _ ?c_read_number_6 ?o_read_number_7 (da_cons (de_var B (i := 1) rfl rfl (.inl rfl)) da_nil) rfl)) rfl (.inl rfl) ?go_11
      (case c_read_number_6 => rw [hd]; exact (parse_numText hq).1)
      (case o_read_number_7 => exact outRd_ok (hd ▸ (parse_numText hq).2))
      refine go_ret R (de_and (CA.val (ca_call B (ok__law_is_number T) (by decide) _ ?c_law_is_number_8 (da_cons (de_var B (i := 3) rfl rfl (.inl rfl)) da_nil) rfl)) (fun hb1 => (de_one (de_eqN B (de_var B (i := 3) rfl rfl (.inl rfl)) (de_var B (i := 0) rfl rfl (.inl rfl)))))) ?rs_12
      (case c_law_is_number_8 => rw [hd, (parse_numText hq).2]; exact hp.mono (by decide))
      (case rs_12 => exact Sub.of (by rw [hd, (parse_numText hq).2]; simp))
  case gf_3 =>
    have hd := due_whole (q := q) (by have := nd_f hc; omega)
    refine go_then ?go_13
    refine go_set B (i := 2) (CA.val (ca_call B (ok_number_text T) (by decide) _ ?c_number_text_9 (da_cons (de_var B (i := 0) rfl rfl (.inl rfl)) da_nil) rfl)) rfl (.inl rfl) ?go_14
    (case c_number_text_9 => exact hp.mono (by decide))
    refine go_if (DW.t (dw_or (dt_not (dt_val (de_isi (T := "str") B T.b_isinstance rty_str (kit_ty (r := true) (by decide +kernel)) (de_var B (i := 2) rfl rfl (.inl rfl)) (de_ty B T.b_str (by decide +kernel) rfl) rfl))) (fun hb1 => (dw_or1 (dt_neS (de_var B (i := 2) rfl rfl (.inl rfl)) (de_var B (i := 1) rfl rfl (.inl rfl))))))) (fun hc => ?gt_15) (fun hc => ?gf_16)
    case gt_15 =>
      try (simp only [decide_eq_true_eq, decide_eq_false_iff_not, Bool.not_eq_true', Bool.not_eq_false', Bool.not_eq_true, Bool.not_eq_false] at hc)
      refine go_ret R de_bl ?rs_17
      (case rs_17 => exfalso; rw [hd] at hc; simp at hc)
    case gf_16 =>
      try (simp only [decide_eq_true_eq, decide_eq_false_iff_not, Bool.not_eq_true', Bool.not_eq_false', Bool.not_eq_true, Bool.not_eq_false] at hc)
      refine go_then ?go_18
      refine go_set B (i := 3) (CA.val (ca_callO (okr_read_number X.K) B (ok_read_number T) (by decide) _ ?c_read_number_10 ?o_read_number_11 (da_cons (de_var B (i := 1) rfl rfl (.inl rfl)) da_nil) rfl)) rfl (.inl rfl) ?go_19
      (case c_read_number_10 => rw [hd]; exact (parse_numText hq).1)
      (case o_read_number_11 => exact outRd_ok (hd ▸ (parse_numText hq).2))
      refine go_ret R (de_and (CA.val (ca_call B (ok__law_is_number T) (by decide) _ ?c_law_is_number_12 (da_cons (de_var B (i := 3) rfl rfl (.inl rfl)) da_nil) rfl)) (fun hb1 => (de_one (de_eqN B (de_var B (i := 3) rfl rfl (.inl rfl)) (de_var B (i := 0) rfl rfl (.inl rfl)))))) ?rs_20
      (case c_law_is_number_12 => rw [hd, (parse_numText hq).2]; exact hp.mono (by decide))
      (case rs_20 => exact Sub.of (by rw [hd, (parse_numText hq).2]; simp))
end K00

set_option Elab.async false
set_option linter.all false
set_option maxRecDepth 100000
set_option maxHeartbeats 4000000
namespace K00
open PySem PySem.Spec PyProof.Rows L2 DL
variable {P : Program} {w : World} {K : PySem.W.Frag} {mg : Str → Option Value} {base : Heap} {cs : Cs}
theorem rd_ten {cs : Cs} {X : Cx} {N : List Str} {sc : Scope} {k : Nat} {Γ : List Sl} {e : Expr} {p pos : Pos} {j : Nat} (B : BX X N sc k) (G : Cal X.prog X.w X.K X.mg X.base j "read_number" (sp_read_number X.K cs)) (hk : j ≤ k) (ha : DA X Γ [e] [rStr tenText]) (hg : sc.names.lookup ("read_number" : Str) = some .globalImplicit)
    (he : starEach (e :: []) X.env = (false, eval e X.env) :: starEach [] X.env) (hpl : (backTo pos (starEach [] X.env)).any (·.1) = false) : DE X Γ (.Call (.Name "read_number" p) [e] [] pos) (rNum X.K ten399) :=
  DE.to (CA.val (ca_callO (okr_read_number X.K) B G hk tenText parse_ten.1 (outRd_ok parse_ten.2) ha hg (by decide) he hpl)) (by rw [parse_ten.2]; rfl)
theorem sc_law : FnScope ["_law_script", "_law_numbers_here", "_law_large", "_law_x", "_law_y", "_law_a", "_law_b", "_law_more", "_law_row", "_law_z", "_law_bad", "_law_due", "_law_k"] ["_law_script"] (defScope s_law) := ⟨rfl, rfl, rfl, by decide +kernel, rfl, by decide +kernel, by decide +kernel⟩
def sp_law (K : PySem.W.Frag) (cs : Cs) : Sp := Pm (ι := List Int) (fun ns => True) (fun ns => [rLst K (ns.map rInt)]) (fun ns => .val (rBl true))
theorem ok_law (T : Txt K mg cs) {f : Addr} {fd : FuncData} (F : Fun K "law" "law" s_law f fd) : FnOk P w K mg base (L2.CX P w) 6 f fd ["_law_script"] (sp_law K cs) := by
  refine cal_okF F sc_law (fun g => rfl) ?_
  rintro X rfl rfl rfl rfl rfl B Bf ns F0 H0 D hp R hnx
  refine @go_nf _ _ _ _ _ _ [_, _, _, _, _, _, _, _, _, _, _, _, _] rfl ?go_1
  refine go_setL B (i := 1) (CA.lst (ca_call B (ok__law_numbers T) (by decide) (ns, 0, 8) ?c_law_numbers_1 (da_cons (de_var B (i := 0) rfl rfl (.inl rfl)) (da_cons de_int (da_cons de_int da_nil))) rfl)) rfl (.inl rfl) ?go_2
  (case c_law_numbers_1 => first | (show (8 : Nat) ≤ 100; decide) | (show (14 : Nat) ≤ 100; decide))
  refine @go_nf _ _ _ _ _ _ [_, _, _, _, _, _, _, _, _, _, _, _, _] rfl ?go_3
  refine go_froz 1 rfl ?go_4
  refine @go_nf _ _ _ _ _ _ [_, _, _, _, _, _, _, _, _, _, _, _, _] rfl ?go_5
  refine go_set B (i := 2) (de_eqI (de_mod ?z4 (de_toInt B T.b_int (de_ixM (R := rInt) (0 : Int) ?xl2 ?xh3 (de_var B (i := 1) rfl rfl (.inl rfl)) de_int) rfl) de_int) de_int) rfl (.inr ⟨rfl, Bf _⟩) ?go_6
  (case xl2 => first | decide | exact fm_z hb0)
  (case xh3 => first | exact fm_l hb0 | exact (show _ < ((lawNums ns 0 8).length : Int) from by rw [lawNums_len]; decide))
  (case z4 => first | decide | omega)
  refine @go_nf _ _ _ _ _ _ [_, _, _, _, _, _, _, _, _, _, _, _, _] rfl ?go_7
  refine go_set B (i := 3) (CA.val (ca_call B (ok__law_drawn T) (by decide) (kH ns, 0, kL ns) ?c_law_drawn_5 (da_cons (de_var B (i := 1) rfl rfl (.inl rfl)) (da_cons de_int (da_cons (de_var B (i := 2) rfl rfl (.inr (.inl rfl))) da_nil))) rfl)) rfl (.inl rfl) ?go_8
  (case c_law_drawn_5 => first | exact ⟨mk_dr hi, nums_in⟩ | exact ⟨by rw [kH, lawNums_len]; decide, nums_in⟩)
  refine @go_nf _ _ _ _ _ _ [_, _, _, _, _, _, _, _, _, _, _, _, _] rfl ?go_9
  refine go_set B (i := 4) (CA.val (ca_call B (ok__law_drawn T) (by decide) (kH ns, 2, _) ?c_law_drawn_9 (da_cons (de_var B (i := 1) rfl rfl (.inl rfl)) (da_cons de_int (da_cons (de_and (de_var B (i := 2) rfl rfl (.inr (.inl rfl))) (fun hb1 => (de_one (de_eqI (de_mod ?z8 (de_toInt B T.b_int (de_ixM (R := rInt) (0 : Int) ?xl6 ?xh7 (de_var B (i := 1) rfl rfl (.inl rfl)) de_int) rfl) de_int) de_int)))) da_nil))) rfl)) rfl (.inl rfl) ?go_10
  (case xl6 => first | decide | exact fm_z hb0)
  (case xh7 => first | exact fm_l hb0 | exact (show _ < ((lawNums ns 0 8).length : Int) from by rw [lawNums_len]; decide))
  (case z8 => first | decide | omega)
  (case c_law_drawn_9 => first | exact ⟨mk_dr hi, nums_in⟩ | exact ⟨by rw [kH, lawNums_len]; decide, nums_in⟩)
  refine @go_nf _ _ _ _ _ _ [_, _, _, _, _, _, _, _, _, _, _, _, _] rfl ?go_11
  refine go_set B (i := 5) (de_sub (de_ixM (R := rInt) (0 : Int) ?xl10 ?xh11 (de_var B (i := 1) rfl rfl (.inl rfl)) de_int) de_int) rfl (.inl rfl) ?go_12
  (case xl10 => first | decide | exact fm_z hb0)
  (case xh11 => first | exact fm_l hb0 | exact (show _ < ((lawNums ns 0 8).length : Int) from by rw [lawNums_len]; decide))
  refine @go_nf _ _ _ _ _ _ [_, _, _, _, _, _, _, _, _, _, _, _, _] rfl ?go_13
  refine go_set B (i := 6) (de_add de_int (de_mod ?z14 (de_toInt B T.b_int (de_ixM (R := rInt) (0 : Int) ?xl12 ?xh13 (de_var B (i := 1) rfl rfl (.inl rfl)) de_int) rfl) de_int)) rfl (.inl rfl) ?go_14
  (case xl12 => first | decide | exact fm_z hb0)
  (case xh13 => first | exact fm_l hb0 | exact (show _ < ((lawNums ns 0 8).length : Int) from by rw [lawNums_len]; decide))
  (case z14 => first | decide | omega)
  refine @go_nf _ _ _ _ _ _ [_, _, _, _, _, _, _, _, _, _, _, _, _] rfl ?go_15
  refine go_ifK [(6, .im (rInt (kB ns)))] (dt_eqI (de_mod ?z17 (de_toInt B T.b_int (de_ixM (R := rInt) (0 : Int) ?xl15 ?xh16 (de_var B (i := 1) rfl rfl (.inl rfl)) de_int) rfl) de_int) de_int) ?gk_16 (fun hk hc => ?gt_17) (fun hk hc => ?gf_18)
  (case xl15 => first | decide | exact fm_z hb0)
  (case xh16 => first | exact fm_l hb0 | exact (show _ < ((lawNums ns 0 8).length : Int) from by rw [lawNums_len]; decide))
  (case z17 => first | decide | omega)
  case gt_17 =>
    skip
    refine go_set B (i := 6) (de_neg (de_var B (i := 6) rfl rfl (.inl rfl))) rfl (.inl rfl) ?go_19
    refine @go_nf _ _ _ _ _ _ [_, _, _, _, _, _, _, _, _, _, _, _, _] rfl ?go_20
    refine go_join hk ?jl_21
    (case jl_21 => refine .same ?_; refine .same ?_; refine .same ?_; refine .same ?_; refine .same ?_; refine .same ?_; refine .im ?h ?_; (case h => exact Sub.of (kB_t (of_decide_eq_true hc))); refine .same ?_; refine .same ?_; refine .same ?_; refine .same ?_; refine .same ?_; refine .same ?_; exact .nil)
  case gf_18 =>
    skip
    refine go_join hk ?jl_22
    (case jl_22 => refine .same ?_; refine .same ?_; refine .same ?_; refine .same ?_; refine .same ?_; refine .same ?_; refine .im ?h ?_; (case h => exact Sub.of (kB_f (of_decide_eq_false hc))); refine .same ?_; refine .same ?_; refine .same ?_; refine .same ?_; refine .same ?_; refine .same ?_; exact .nil)
  case gk_16 =>
    refine @go_nf _ _ _ _ _ _ [_, _, _, _, _, _, _, _, _, _, _, _, _] rfl ?go_23
    refine go_if (DW.t (dw_or (dt_not (dt_val (CA.val (ca_call B (ok__law_stands T) (by decide) (_, _, _) ?c_law_stands_20 (da_cons (CA.val (ca_callO (okr_ratio X.K) B (ok_ratio T) (by decide) (_, _) ?c_ratio_18 ?o_ratio_19 (da_cons (de_var B (i := 5) rfl rfl (.inl rfl)) (da_cons (de_var B (i := 6) rfl rfl (.inl rfl)) da_nil)) rfl)) (da_cons (de_var B (i := 5) rfl rfl (.inl rfl)) (da_cons (de_var B (i := 6) rfl rfl (.inl rfl)) da_nil))) rfl)))) (fun hb1 => (dw_or (dt_not (dt_val (CA.val (ca_call B (ok__law_no_ratio T) (by decide) _ trivial (da_cons (de_var B (i := 5) rfl rfl (.inl rfl)) da_nil) rfl)))) (fun hb2 => (dw_or1 (dt_not (dt_val (CA.val (ca_call B (ok__law_no_quotient T) (by decide) _ ?c_law_no_quotient_21 (da_cons (de_var B (i := 3) rfl rfl (.inl rfl)) da_nil) rfl)))))))))) (fun hc => ?gt_24) (fun hc => ?gf_25)
    (case c_ratio_18 => exact Nat.lt_trans (kB_lg ns) (by decide))
    (case o_ratio_19 => exact if_neg (kB_ne ns))
    (case c_law_stands_20 => exact ⟨sz_ratio (kB_ne ns) (Nat.le_of_lt_succ (kA_lg ns)) (Nat.le_of_lt_succ (kB_lg ns)), Nat.lt_trans (kA_lg ns) (by decide), Nat.lt_trans (kB_lg ns) (by decide)⟩)
    (case c_law_no_quotient_21 => exact kX_sz ns)
    case gt_24 =>
      try (simp only [decide_eq_true_eq, decide_eq_false_iff_not, Bool.not_eq_true', Bool.not_eq_false', Bool.not_eq_true, Bool.not_eq_false] at hc)
      refine go_ret R de_bl ?rs_26
      (case rs_26 => exfalso; first | (rw [decide_eq_true (st_ratio (kB_ne ns))] at hc; revert hc; decide) | (revert hc; decide) | (simp at hc; done))
    case gf_25 =>
      try (simp only [decide_eq_true_eq, decide_eq_false_iff_not, Bool.not_eq_true', Bool.not_eq_false', Bool.not_eq_true, Bool.not_eq_false] at hc)
      refine go_then ?go_27
      refine go_if (DW.t (dw_or (dt_not (dt_val (CA.val (ca_call B (ok__law_values T) (by decide) (_, _) ?c_law_values_22 (da_cons (de_var B (i := 3) rfl rfl (.inl rfl)) (da_cons (de_var B (i := 4) rfl rfl (.inl rfl)) da_nil)) rfl)))) (fun hb1 => (dw_or (dt_not (dt_val (CA.val (ca_call B (ok__law_values T) (by decide) (_, _) ?c_law_values_23 (da_cons (de_var B (i := 4) rfl rfl (.inl rfl)) (da_cons (de_var B (i := 3) rfl rfl (.inl rfl)) da_nil)) rfl)))) (fun hb2 => (dw_or1 (dt_not (dt_val (CA.val (ca_call B (ok__law_values T) (by decide) (_, _) ?c_law_values_24 (da_cons (de_var B (i := 3) rfl rfl (.inl rfl)) (da_cons (de_var B (i := 3) rfl rfl (.inl rfl)) da_nil)) rfl)))))))))) (fun hc => ?gt_28) (fun hc => ?gf_29)
      (case c_law_values_22 => first | exact ⟨kX_sz ns, kY_sz ns⟩ | exact ⟨kY_sz ns, kX_sz ns⟩ | exact ⟨kX_sz ns, kX_sz ns⟩)
      (case c_law_values_23 => first | exact ⟨kX_sz ns, kY_sz ns⟩ | exact ⟨kY_sz ns, kX_sz ns⟩ | exact ⟨kX_sz ns, kX_sz ns⟩)
      (case c_law_values_24 => first | exact ⟨kX_sz ns, kY_sz ns⟩ | exact ⟨kY_sz ns, kX_sz ns⟩ | exact ⟨kX_sz ns, kX_sz ns⟩)
      case gt_28 =>
        try (simp only [decide_eq_true_eq, decide_eq_false_iff_not, Bool.not_eq_true', Bool.not_eq_false', Bool.not_eq_true, Bool.not_eq_false] at hc)
        refine go_ret R de_bl ?rs_30
        (case rs_30 => exfalso; first | (rw [decide_eq_true (st_ratio (kB_ne ns))] at hc; revert hc; decide) | (revert hc; decide) | (simp at hc; done))
      case gf_29 =>
        try (simp only [decide_eq_true_eq, decide_eq_false_iff_not, Bool.not_eq_true', Bool.not_eq_false', Bool.not_eq_true, Bool.not_eq_false] at hc)
        refine go_then ?go_31
        refine go_setL B (i := 7) (CA.lst (ca_call B (ok__law_numbers T) (by decide) (ns, 1, 14) ?c_law_numbers_25 (da_cons (de_var B (i := 0) rfl rfl (.inl rfl)) (da_cons de_int (da_cons de_int da_nil))) rfl)) rfl (.inr ⟨rfl, Bf _⟩) ?go_32
        (case c_law_numbers_25 => first | (show (8 : Nat) ≤ 100; decide) | (show (14 : Nat) ≤ 100; decide))
        refine @go_nf _ _ _ _ _ _ [_, _, _, _, _, _, _, _, _, _, _, _, _] rfl ?go_33
        refine go_froz 7 rfl ?go_34
        refine @go_nf _ _ _ _ _ _ [_, _, _, _, _, _, _, _, _, _, _, _, _] rfl ?go_35
        refine go_setLc (l' := List.map (rNum X.K) (kRow ns)) B [("_law_k", 12)] (sr_range1 B T.b_range (de_mod ?z28 (de_toInt B T.b_int (de_ixM (R := rInt) (0 : Int) ?xl26 ?xh27 (de_var B (i := 1) rfl rfl (.inl rfl)) de_int) rfl) de_int) rfl ?r29 ?r30) (blkOk_by (by decide +kernel)) _ (fun _ => true) (fun i => rNum X.K (drawn0 (lawNums ns 1 14) (2 * i) (kL ns))) ?sz33 (by decide) (fun _ _ _ _ _ B i hi => (dg_name B (i := 12) rfl (.inl rfl))) (fun _ _ _ _ _ B i hi => dts_nil) (fun _ _ _ _ _ B i hi hb => (CA.val (ca_call B (ok__law_drawn T) (by decide) (lawNums ns 1 14, 2 * i, kL ns) ?c_law_drawn_32 (da_cons (de_var B (i := 7) rfl rfl (.inr (.inl rfl))) (da_cons (DE.to (r' := rInt ((2 * i : Nat) : Int)) (de_mulG ?mk31 de_int (de_var B (i := 12) rfl rfl (.inl rfl))) rfl) (da_cons (de_var B (i := 2) rfl rfl (.inr (.inl rfl))) da_nil))) rfl))) (hl := ?cl34) (iy := 8) (hNy := rfl) (hyl := rfl) (h := ?go_36) (hsw := fun env h => by cases env; subst h; with_unfolding_all rfl)
        (case xl26 => first | decide | exact fm_z hb0)
        (case xh27 => first | exact fm_l hb0 | exact (show _ < ((lawNums ns 0 8).length : Int) from by rw [lawNums_len]; decide))
        (case z28 => first | decide | omega)
        (case r29 => first | decide | (have h1 := fm_l (x := (kH ns).getD 5 0) (n := 7) (by decide); have h2 := fm_z (x := (kH ns).getD 5 0) (n := 7) (by decide); exact Int.lt_trans h1 (by decide)) | (have h2 := fm_z (x := (kH ns).getD 5 0) (n := 7) (by decide); exact Int.le_trans (by decide) h2))
        (case r30 => first | decide | (have h1 := fm_l (x := (kH ns).getD 5 0) (n := 7) (by decide); have h2 := fm_z (x := (kH ns).getD 5 0) (n := 7) (by decide); exact Int.lt_trans h1 (by decide)) | (have h2 := fm_z (x := (kH ns).getD 5 0) (n := 7) (by decide); exact Int.le_trans (by decide) h2))
        (case mk31 => exact mk_ok hi)
        (case c_law_drawn_32 => first | exact ⟨mk_dr hi, nums_in⟩ | exact ⟨by rw [kH, lawNums_len]; decide, nums_in⟩)
        (case sz33 => exact Nat.lt_of_le_of_lt (fm7 _) (by decide))
        (case cl34 => first | exact kRow_cl rfl | (rw [List.map_append]; rfl) | rfl)
        refine @go_nf _ _ _ _ _ _ [_, _, _, _, _, _, _, _, _, _, _, _, _] rfl ?go_37
        refine go_frozH 8 rfl ?go_38
        refine @go_nf _ _ _ _ _ _ [_, _, _, _, _, _, _, _, _, _, _, _, _] rfl ?go_39
        refine go_if (dt_not (dt_val (CA.val (ca_call B (ok__law_lists T) (by decide) _ ?c_law_lists_35 (da_cons (de_h2l (de_var B (i := 8) rfl rfl (.inl rfl))) da_nil) rfl)))) (fun hc => ?gt_40) (fun hc => ?gf_41)
        (case c_law_lists_35 => exact ⟨Nat.le_trans (kRow_len ns) (by decide), kRow_sz ns⟩)
        case gt_40 =>
          try (simp only [decide_eq_true_eq, decide_eq_false_iff_not, Bool.not_eq_true', Bool.not_eq_false', Bool.not_eq_true, Bool.not_eq_false] at hc)
          refine go_ret R de_bl ?rs_42
          (case rs_42 => exfalso; first | (rw [decide_eq_true (st_ratio (kB_ne ns))] at hc; revert hc; decide) | (revert hc; decide) | (simp at hc; done))
        case gf_41 =>
          try (simp only [decide_eq_true_eq, decide_eq_false_iff_not, Bool.not_eq_true', Bool.not_eq_false', Bool.not_eq_true, Bool.not_eq_false] at hc)
          refine go_then ?go_43
          refine go_forS B (fun i => [(9, .any)]) (fun i => True) (sr_listM (R := (rNum X.K)) (0 : Rat) (DL.froz (DL.to (l' := List.map (rNum X.K) (kRow ns ++ [kX ns, kY ns])) (dl_catH ?cz36 (de_var B (i := 8) rfl rfl (.inl rfl)) (DL.hfz (dl_lst (da_cons (de_var B (i := 3) rfl rfl (.inl rfl)) (da_cons (de_var B (i := 4) rfl rfl (.inl rfl)) da_nil)) (show (2 : Nat) ≤ sizeLine by decide)))) ?cl37))) _ (fun i hi => (dg_name B (i := 9) rfl (.inl rfl))) ?h0_44 ?j0_45 (fun F1 u i hi hj => ?gb_46) (fun hj => ?ge_47)
          (case cz36 => first | (have h5 : 1000000 ≤ sizeLine := (by decide); have h6 := kRow_len ns; simp only [List.length_map, List.length_cons, List.length_nil]; omega) | decide)
          (case cl37 => first | exact kRow_cl rfl | (rw [List.map_append]; rfl) | rfl)
          (case h0_44 => refine .same ?_; refine .same ?_; refine .same ?_; refine .same ?_; refine .same ?_; refine .same ?_; refine .same ?_; refine .same ?_; refine .same ?_; refine .any ?_; refine .same ?_; refine .same ?_; refine .same ?_; exact .nil)
          (case j0_45 => trivial)
          case gb_46 =>
            refine @go_nf _ _ _ _ _ _ [_, _, _, _, _, _, _, _, _, _, _, _, _] rfl ?go_48
            refine go_if (dt_not (dt_val (CA.val (ca_call B (ok__law_texts T) (by decide) _ ?c_law_texts_38 (da_cons (de_var B (i := 9) rfl rfl (.inl rfl)) da_nil) rfl)))) (fun hc => ?gt_49) (fun hc => ?gf_50)
            (case c_law_texts_38 => exact kAll_sz ns _ (getD_mem hi))
            case gt_49 =>
              try (simp only [decide_eq_true_eq, decide_eq_false_iff_not, Bool.not_eq_true', Bool.not_eq_false', Bool.not_eq_true, Bool.not_eq_false] at hc)
              refine go_ret (u.rt R) de_bl ?rs_51
              (case rs_51 => exfalso; first | (rw [decide_eq_true (st_ratio (kB_ne ns))] at hc; revert hc; decide) | (revert hc; decide) | (simp at hc; done))
            case gf_50 =>
              try (simp only [decide_eq_true_eq, decide_eq_false_iff_not, Bool.not_eq_true', Bool.not_eq_false', Bool.not_eq_true, Bool.not_eq_false] at hc)
              refine go_then ?go_52
              refine go_turnS ?jn_53 ?ln_54
              (case jn_53 => trivial)
              (case ln_54 => refine .same ?_; refine .same ?_; refine .same ?_; refine .same ?_; refine .same ?_; refine .same ?_; refine .same ?_; refine .same ?_; refine .same ?_; refine .any ?_; refine .same ?_; refine .same ?_; refine .same ?_; exact .nil)
          case ge_47 =>
            refine @go_nf _ _ _ _ _ _ [_, _, _, _, _, _, _, _, _, _, _, _, _] rfl ?go_55
            refine @go_le' _ _ _ _ _ _ [.any, .im (rLst X.K (List.map rInt (lawNums ns 0 8))), .any, .im (rNum X.K (kX ns)), .any, .any, .any, .any, .any, .any, .any, .any, .any] ?le_56 ?go_57
            (case le_56 => refine .any ?_; refine .im ?h ?_; (case h => exact Sub.rfl); refine .any ?_; refine .im ?h ?_; (case h => exact Sub.rfl); refine .any ?_; refine .any ?_; refine .any ?_; refine .any ?_; refine .any ?_; refine .any ?_; refine .any ?_; refine .any ?_; refine .any ?_; exact .nil)
            obtain ⟨bt, hbt⟩ : ∃ bt : List Str, bt = badTexts := ⟨_, rfl⟩
            have hb1 : ∀ x ∈ bt, RdOk x ∧ parse x = none := fun x h => bad_mem (hbt ▸ h)
            have hb0 : 0 < bt.length := by rw [hbt]; decide
            refine @go_setL _ _ _ _ _ _ (List.map rStr ["", "+3", "03", "-0", "3/1", "2/4", "1/0", "0/5", "1/-2", " 3", "3 ", "a", "-", "/2", "3/", "1/2/3", "--3"]) _ _ _ _ _ _ 10 _ B ?dl_58 rfl (.inl rfl) ?go_59 rfl
            (case dl_58 => exact @dl_lst _ _ _ _ _ (@da_strs _ _ _ ["", "+3", "03", "-0", "3/1", "2/4", "1/0", "0/5", "1/-2", " 3", "3 ", "a", "-", "/2", "3/", "1/2/3", "--3"] rfl) (show (17 : Nat) ≤ sizeLine by decide))
            refine @go_frozH _ _ _ _ _ _ _ 10 rfl ?go_60
            refine @go_nf _ _ _ _ _ _ [_, _, _, _, _, _, _, _, _, _, _, _, _] rfl ?go_61
            refine @go_setL _ _ _ _ _ _ (List.map rStr bt) _ _ _ _ _ _ 10 _ B ?dl_62 rfl (.inl rfl) ?go_63 rfl
            case dl_62 =>
              refine @DL.to _ _ _ _ _ (@dl_catH _ _ _ _ _ _ _ ?z1 (@de_var _ _ _ _ _ _ _ _ B 10 rfl rfl (.inl rfl) (by decide) (by decide)) (@DL.hfz _ _ _ _ (@dl_lst _ _ _ _ _ (@da_strsN _ _ 8 _ ["1/02", "1 /2", "-", "1//2", "00", "0x1", "1.0", "3\n"] _ rfl (@da_strMul _ _ _ _ _ _ _ _ _ _ _ _ _ _ _ ?z2 ?z3 (@da_strMul _ _ _ _ _ _ _ _ _ _ _ _ _ _ _ ?z4 ?z5 (@da_nil _ _)))) (show (10 : Nat) ≤ sizeLine by decide)))) ?z6
              (case z1 => show (17 + 10 : Nat) ≤ sizeLine; decide)
              (case z2 => decide +kernel)
              (case z3 => exact ⟨by decide, by decide, by decide⟩)
              (case z4 => decide +kernel)
              (case z5 => exact ⟨by decide, by decide, by decide⟩)
              (case z6 => rw [hbt]; rfl)
            refine @go_frozH _ _ _ _ _ _ _ 10 rfl ?go_64
            refine @go_nf _ _ _ _ _ _ [_, _, _, _, _, _, _, _, _, _, _, _, _] rfl ?go_65
            refine @go_le' _ _ _ _ _ _ [.any, .im (rLst X.K (List.map rInt (lawNums ns 0 8))), .any, .im (rNum X.K (kX ns)), .any, .any, .any, .any, .any, .any, .im (rLh (List.map rStr bt)), .any, .any] ?le_66 ?go_67
            (case le_66 => refine .any ?_; refine .im ?h ?_; (case h => exact Sub.rfl); refine .any ?_; refine .im ?h ?_; (case h => exact Sub.rfl); refine .any ?_; refine .any ?_; refine .any ?_; refine .any ?_; refine .any ?_; refine .any ?_; refine .im ?h ?_; (case h => exact Sub.rfl); refine .any ?_; refine .any ?_; exact .nil)
            refine go_if (DW.t (dw_or (dt_not (dt_val (CA.val (ca_call B (ok__law_no_text T) (by decide) _ ?c_law_no_text_44 (da_cons (de_ixM (R := rStr) (default : Str) ?xl42 ?xh43 (de_h2l (de_var B (i := 10) rfl rfl (.inl rfl))) (de_mod ?z41 (de_toInt B T.b_int (de_ixM (R := rInt) (0 : Int) ?xl39 ?xh40 (de_var B (i := 1) rfl rfl (.inl rfl)) de_int) rfl) (de_lenM B T.b_len (de_h2l (de_var B (i := 10) rfl rfl (.inl rfl))) rfl))) da_nil) rfl)))) (fun hb1 => (dw_or1 (dt_not (dt_val (CA.val (ca_call B (ok__law_no_text T) (by decide) _ ?c_more_47 (da_cons (de_catS ?ct46 (CA.val (ca_call B (ok_number_text T) (by decide) _ ?c_number_text_45 (da_cons (de_var B (i := 3) rfl rfl (.inl rfl)) da_nil) rfl)) de_str) da_nil) rfl)))))))) (fun hc => ?gt_68) (fun hc => ?gf_69)
            (case xl39 => first | decide | exact fm_z hb0)
            (case xh40 => first | exact fm_l hb0 | exact (show _ < ((lawNums ns 0 8).length : Int) from by rw [lawNums_len]; decide))
            (case z41 => first | decide | omega)
            (case xl42 => first | decide | exact fm_z hb0)
            (case xh43 => first | exact fm_l hb0 | exact (show _ < ((lawNums ns 0 8).length : Int) from by rw [lawNums_len]; decide))
            (case c_law_no_text_44 => exact hb1 _ (at_mem hb0))
            (case c_number_text_45 => exact (kX_sz ns).mono (by decide))
            (case ct46 => exact ct_more (kX_sz ns))
            (case c_more_47 => exact parse_more ((kX_sz ns).mono (by decide)))
            case gt_68 =>
              try (simp only [decide_eq_true_eq, decide_eq_false_iff_not, Bool.not_eq_true', Bool.not_eq_false', Bool.not_eq_true, Bool.not_eq_false] at hc)
              refine go_ret R de_bl ?rs_70
              (case rs_70 => exfalso; first | (rw [decide_eq_true (st_ratio (kB_ne ns))] at hc; revert hc; decide) | (revert hc; decide) | (simp at hc; done))
            case gf_69 =>
              try (simp only [decide_eq_true_eq, decide_eq_false_iff_not, Bool.not_eq_true', Bool.not_eq_false', Bool.not_eq_true, Bool.not_eq_false] at hc)
              refine go_then ?go_71
              refine go_set B (i := 11) de_int rfl (.inl rfl) ?go_72
              refine @go_nf _ _ _ _ _ _ [_, _, _, _, _, _, _, _, _, _, _, _, _] rfl ?go_73
              refine go_forS B (fun i => [(11, .im (rInt ((10 : Int) ^ i))), (12, .any)]) (fun i => True) (sr_range1 B T.b_range de_int rfl ?r48 ?r49) _ (fun i hi => (dg_name B (i := 12) rfl (.inl rfl))) ?h0_74 ?j0_75 (fun F1 u i hi hj => ?gb_76) (fun hj => ?ge_77)
              (case r48 => first | decide | (have h1 := fm_l (x := (kH ns).getD 5 0) (n := 7) (by decide); have h2 := fm_z (x := (kH ns).getD 5 0) (n := 7) (by decide); exact Int.lt_trans h1 (by decide)) | (have h2 := fm_z (x := (kH ns).getD 5 0) (n := 7) (by decide); exact Int.le_trans (by decide) h2))
              (case r49 => first | decide | (have h1 := fm_l (x := (kH ns).getD 5 0) (n := 7) (by decide); have h2 := fm_z (x := (kH ns).getD 5 0) (n := 7) (by decide); exact Int.lt_trans h1 (by decide)) | (have h2 := fm_z (x := (kH ns).getD 5 0) (n := 7) (by decide); exact Int.le_trans (by decide) h2))
              (case h0_74 => refine .same ?_; refine .same ?_; refine .same ?_; refine .same ?_; refine .same ?_; refine .same ?_; refine .same ?_; refine .same ?_; refine .same ?_; refine .same ?_; refine .same ?_; refine .im ?h ?_; (case h => exact Sub.rfl); refine .any ?_; exact .nil)
              (case j0_75 => trivial)
              case gb_76 =>
                refine @go_nf _ _ _ _ _ _ [_, _, _, _, _, _, _, _, _, _, _, _, _] rfl ?go_78
                refine go_set B (i := 11) (de_mulG ?m50 (de_var B (i := 11) rfl rfl (.inl rfl)) de_int) rfl (.inl rfl) ?go_79
                (case m50 => exact Nat.lt_trans (ten_mul hi) (by decide))
                refine @go_nf _ _ _ _ _ _ [_, _, _, _, _, _, _, _, _, _, _, _, _] rfl ?go_80
                refine go_turnS ?jn_81 ?ln_82
                (case jn_81 => trivial)
                (case ln_82 => refine .same ?_; refine .same ?_; refine .same ?_; refine .same ?_; refine .same ?_; refine .same ?_; refine .same ?_; refine .same ?_; refine .same ?_; refine .same ?_; refine .same ?_; refine .im ?h ?_; (case h => exact Sub.of (by rw [DL.pow_step])); refine .any ?_; exact .nil)
              case ge_77 =>
                refine @go_nf _ _ _ _ _ _ [_, _, _, _, _, _, _, _, _, _, _, _, _] rfl ?go_83
                refine go_ret R (de_eqN B (@rd_ten _ _ _ _ _ _ _ _ _ _ B (ok_read_number T) (by decide) (@da_strMul _ _ _ _ _ _ _ _ _ _ _ _ _ _ _ (show _ from by decide +kernel) (show _ from ⟨by decide, by decide, by decide⟩) (@da_nil _ _)) rfl rfl rfl) (de_i2n (de_var B (i := 11) rfl rfl (.inl rfl)))) ?rs_84
                (case rs_84 => exact Sub.of (by rw [ten_int]; simp))
end K00

namespace K00
open PySem PySem.Spec PyProof.Rows L2 DL
theorem td_mk {K : PySem.W.Frag} {mg : Str → Option Value} {h : Heap} {x : Str} {st : Stmt} {f : Addr} {od an : Option Addr} {sl : Array (Option Value)} {oc kV dc pm cd ct : Value} (X : K.In h) (G : h.Ns mainGlobals mg)
    (a : PySem.W.nsIn K mainGlobals x = some (some (.ref f))) (l : K.lookup f = some ⟨oc, od, .func (PySem.W.fnOf x x (defArgs st) (defBody st) (defScope st) .none kV dc pm an cd ct), sl⟩) (c : PySem.W.codeIn K cd x = true) (k : PySem.W.keepIn K (.ref f) = true) : TD K mg x st :=
  ⟨f, _, fun_mk l c k, PySem.W.mg_of X G a⟩
theorem xcls_mk {K : PySem.W.Frag} {mg : Str → Option Value} {h : Heap} {x : Str} {C : Addr} (X : K.In h) (G : h.Ns mainGlobals mg) (g : PySem.W.nsIn K mainGlobals x = some (some (.ref C)))
    (e : PySem.W.excIn K C [.type "ValueError", .type "Exception", .type "BaseException", .type "object"] "ValueError.__new__" = true) (k : PySem.W.keepIn K (.ref C) = true) (b : PySem.W.subIn K (.ref C) (.type "BaseException") = some true)
    (t : PySem.W.typeIn K (.ref C) = some (.type "type")) (hd : PySem.W.hasDictIn K C = true) : XCls K mg x C := ⟨PySem.W.mg_of X G g, e, k, b, t, hd⟩
theorem int_mk {K : PySem.W.Frag} {mg : Str → Option Value} {h : Heap} {x : Str} {n : Int} {tk : Nat} (X : K.In h) (G : h.Ns mainGlobals mg) (g : PySem.W.nsIn K mainGlobals x = some (some (.int n tk))) : ∃ u, mg x = some u ∧ RelV (.int n) u := ⟨_, PySem.W.mg_of X G g, _, rfl⟩
theorem txt_of {K : PySem.W.Frag} {mg : Str → Option Value} {C_BookError C_ZeroBottom C_BadText : Addr}
    (b_ValueError : mg "ValueError" = none)
    (b_abs : mg "abs" = none)
    (b_bool : mg "bool" = none)
    (b_int : mg "int" = none)
    (b_isinstance : mg "isinstance" = none)
    (b_len : mg "len" = none)
    (b_list : mg "list" = none)
    (b_range : mg "range" = none)
    (b_str : mg "str" = none)
    (b_tuple : mg "tuple" = none)
    (m_gcd : mg "gcd" = some (.builtin "math.gcd"))
    (m_lcm : mg "lcm" = some (.builtin "math.lcm"))
    (x_BookError : XCls K mg "BookError" C_BookError)
    (x_ZeroBottom : XCls K mg "ZeroBottom" C_ZeroBottom)
    (x_BadText : XCls K mg "BadText" C_BadText)
    (c_MOST_DIGITS : ∃ u, mg "MOST_DIGITS" = some u ∧ RelV (.int 400) u)
    (d_ratio : TD K mg "ratio" s_ratio)
    (d_is_whole : TD K mg "is_whole" s_is_whole)
    (d_top_of : TD K mg "top_of" s_top_of)
    (d_bottom_of : TD K mg "bottom_of" s_bottom_of)
    (d_plus : TD K mg "plus" s_plus)
    (d_minus : TD K mg "minus" s_minus)
    (d_times : TD K mg "times" s_times)
    (d_over : TD K mg "over" s_over)
    (d_less : TD K mg "less" s_less)
    (d_floor_of : TD K mg "floor_of" s_floor_of)
    (d_ceiling_of : TD K mg "ceiling_of" s_ceiling_of)
    (d_nearest : TD K mg "nearest" s_nearest)
    (d_common_bottom : TD K mg "common_bottom" s_common_bottom)
    (d_least_of : TD K mg "least_of" s_least_of)
    (d_greatest_of : TD K mg "greatest_of" s_greatest_of)
    (d_number_text : TD K mg "number_text" s_number_text)
    (d_read_number : TD K mg "read_number" s_read_number)
    (d_is_numeral : TD K mg "is_numeral" s_is_numeral)
    (d__law_cell : TD K mg "_law_cell" s__law_cell)
    (d__law_numbers : TD K mg "_law_numbers" s__law_numbers)
    (d__law_gcd : TD K mg "_law_gcd" s__law_gcd)
    (d__law_make : TD K mg "_law_make" s__law_make)
    (d__law_top : TD K mg "_law_top" s__law_top)
    (d__law_bottom : TD K mg "_law_bottom" s__law_bottom)
    (d__law_is_int : TD K mg "_law_is_int" s__law_is_int)
    (d__law_is_number : TD K mg "_law_is_number" s__law_is_number)
    (d__law_stands : TD K mg "_law_stands" s__law_stands)
    (d__law_drawn : TD K mg "_law_drawn" s__law_drawn)
    (d__law_no_text : TD K mg "_law_no_text" s__law_no_text)
    (d__law_no_ratio : TD K mg "_law_no_ratio" s__law_no_ratio)
    (d__law_no_quotient : TD K mg "_law_no_quotient" s__law_no_quotient)
    (d__law_texts : TD K mg "_law_texts" s__law_texts)
    (d__law_values : TD K mg "_law_values" s__law_values)
    (d__law_lists : TD K mg "_law_lists" s__law_lists)
    (d_law : TD K mg "law" s_law)
    (e_BadText : ExcC K C_BadText)
    (s_BadText_BookError : PySem.W.subIn K (.ref C_BadText) (.ref C_BookError) = some true)
    (k_BadText_BookError : PySem.W.kitOne K (.ref C_BadText) (.ref C_BookError) = some true)
    (s_BadText_ZeroBottom : PySem.W.subIn K (.ref C_BadText) (.ref C_ZeroBottom) = some false)
    (k_BadText_ZeroBottom : PySem.W.kitOne K (.ref C_BadText) (.ref C_ZeroBottom) = some false)
    (s_BadText_BadText : PySem.W.subIn K (.ref C_BadText) (.ref C_BadText) = some true)
    (k_BadText_BadText : PySem.W.kitOne K (.ref C_BadText) (.ref C_BadText) = some true)
    (k_BadText_ValueError : PySem.W.kitOne K (.ref C_BadText) (.type "ValueError") = some true)
    (e_ZeroBottom : ExcC K C_ZeroBottom)
    (s_ZeroBottom_BookError : PySem.W.subIn K (.ref C_ZeroBottom) (.ref C_BookError) = some true)
    (k_ZeroBottom_BookError : PySem.W.kitOne K (.ref C_ZeroBottom) (.ref C_BookError) = some true)
    (s_ZeroBottom_ZeroBottom : PySem.W.subIn K (.ref C_ZeroBottom) (.ref C_ZeroBottom) = some true)
    (k_ZeroBottom_ZeroBottom : PySem.W.kitOne K (.ref C_ZeroBottom) (.ref C_ZeroBottom) = some true)
    (s_ZeroBottom_BadText : PySem.W.subIn K (.ref C_ZeroBottom) (.ref C_BadText) = some false)
    (k_ZeroBottom_BadText : PySem.W.kitOne K (.ref C_ZeroBottom) (.ref C_BadText) = some false)
    (k_ZeroBottom_ValueError : PySem.W.kitOne K (.ref C_ZeroBottom) (.type "ValueError") = some true) : ∃ cs : Cs, Txt K mg cs :=
  ⟨⟨C_BookError, C_ZeroBottom, C_BadText⟩, { b_ValueError := b_ValueError, b_abs := b_abs, b_bool := b_bool, b_int := b_int, b_isinstance := b_isinstance, b_len := b_len, b_list := b_list, b_range := b_range, b_str := b_str, b_tuple := b_tuple, m_gcd := m_gcd, m_lcm := m_lcm, x_BookError := x_BookError, x_ZeroBottom := x_ZeroBottom, x_BadText := x_BadText, c_MOST_DIGITS := c_MOST_DIGITS, d_ratio := d_ratio, d_is_whole := d_is_whole, d_top_of := d_top_of, d_bottom_of := d_bottom_of, d_plus := d_plus, d_minus := d_minus, d_times := d_times, d_over := d_over, d_less := d_less, d_floor_of := d_floor_of, d_ceiling_of := d_ceiling_of, d_nearest := d_nearest, d_common_bottom := d_common_bottom, d_least_of := d_least_of, d_greatest_of := d_greatest_of, d_number_text := d_number_text, d_read_number := d_read_number, d_is_numeral := d_is_numeral, d__law_cell := d__law_cell, d__law_numbers := d__law_numbers, d__law_gcd := d__law_gcd, d__law_make := d__law_make, d__law_top := d__law_top, d__law_bottom := d__law_bottom, d__law_is_int := d__law_is_int, d__law_is_number := d__law_is_number, d__law_stands := d__law_stands, d__law_drawn := d__law_drawn, d__law_no_text := d__law_no_text, d__law_no_ratio := d__law_no_ratio, d__law_no_quotient := d__law_no_quotient, d__law_texts := d__law_texts, d__law_values := d__law_values, d__law_lists := d__law_lists, d_law := d_law, e_BadText := e_BadText, s_BadText_BookError := s_BadText_BookError, k_BadText_BookError := k_BadText_BookError, s_BadText_ZeroBottom := s_BadText_ZeroBottom, k_BadText_ZeroBottom := k_BadText_ZeroBottom, s_BadText_BadText := s_BadText_BadText, k_BadText_BadText := k_BadText_BadText, k_BadText_ValueError := k_BadText_ValueError, e_ZeroBottom := e_ZeroBottom, s_ZeroBottom_BookError := s_ZeroBottom_BookError, k_ZeroBottom_BookError := k_ZeroBottom_BookError, s_ZeroBottom_ZeroBottom := s_ZeroBottom_ZeroBottom, k_ZeroBottom_ZeroBottom := k_ZeroBottom_ZeroBottom, s_ZeroBottom_BadText := s_ZeroBottom_BadText, k_ZeroBottom_BadText := k_ZeroBottom_BadText, k_ZeroBottom_ValueError := k_ZeroBottom_ValueError }⟩
def spLaw (K : PySem.W.Frag) : Sp := Pm (ι := List Int) (fun ns => True) (fun ns => [rLst K (ns.map rInt)]) (fun ns => .val (rBl true))
theorem law_end {l : PySem.W.OpenLaw} {w : World} {K : PySem.W.Frag} {mg : Str → Option Value} {h : Heap} {fa : Addr} {cs : Cs} (hmg : mg "law" = some (.ref fa)) (T : Txt K mg cs) :
    ∃ fd : FuncData, (∀ (s : Shared) (u : Value), BindsTo s fd ⟨[u], []⟩ [("_law_script", u)]) ∧ ∀ base : Heap, K.In base → base.Ns mainGlobals mg → FnOk l.prog w K mg base (L2.CX l.prog w) 6 fa fd ["_law_script"] (spLaw K) := by
  obtain ⟨f, fd, F, hm⟩ := T.d_law.ex
  have e : f = fa := by rw [hm] at hmg; cases hmg; rfl
  subst e
  refine ⟨fd, fun s u => ?_, fun base hK hn => ?_⟩
  · obtain ⟨oc, od, kV, doc, pm, an, cdv, ct, osl, rfl, _, _⟩ := F.ex
    exact .of_eq rfl
  · exact ok_law (P := l.prog) (w := w) (base := base) T F
theorem walk {l : PySem.W.OpenLaw} {q : Program} {loose : List Str} {XP : (Str → Option Value) → Heap → Prop} {YP : World → Heap → Prop} {d : DefRec} {K : Params → PySem.W.Frag} (hn : l.most = some 63) (hdf : d.params.defaults = []) (hd : d.name = "law")
    (hY : ∀ (w : World) (h : Heap), YP w h → (K w.params).In h)
    (F : ∀ (w : World) (mg : Str → Option Value) (h : Heap), (K w.params).In h → h.Ns mainGlobals mg → ∃ cs : Cs, Txt (K w.params) mg cs) :
    PySem.W.WalkO q loose XP YP l.row.toRowW d [] (fun f vs => PySem.call f vs) :=
  L2.walk_of (n := 63) (k := 6) (x := "_law_script") (CX := fun w => L2.CX l.prog w) (sp := fun w => spLaw (K w.params)) hn (by decide) hdf ⟨rfl, by decide, by decide⟩ hY
    (fun w mg fa h KX G hmg => by
      obtain ⟨cs, T⟩ := F w mg h KX G
      exact law_end (h := h) (hd ▸ hmg) T)
    (fun _ H a ns hl _ hS => ⟨ns, H, trivial, fun _ _ z => z, .cons ⟨a, ns.map V.int, rfl, hS, rl_ints H ns⟩ .nil, fun v _ _ _ hv => hv⟩)
    (fun _ _ _ _ _ ⟨_, _, _, _, _, _, _, _, _, _, _, _, z⟩ => z)
end K00
open PySem PySem.W PyProof.Rows
set_option maxRecDepth 100000 in
set_option maxHeartbeats 0 in
theorem PySem.Challenge.cw_fineststep_k00_exact_numbers_holds : PySem.Challenge.rw_fineststep_k00_exact_numbers.Holds := by
  w_on; o_law; k_head; (case hw => w_witness2)
  k_fill
  refine K00.walk (l := PySem.Challenge.rw_fineststep_k00_exact_numbers) rfl rfl rfl (fun w h Y => PySem.W.kIn_of Y) ?F
  case F =>
    intro w mg h KX G
    refine' K00.txt_of (PySem.W.mg_none_of KX G ?zb_ValueError) (PySem.W.mg_none_of KX G ?zb_abs) (PySem.W.mg_none_of KX G ?zb_bool) (PySem.W.mg_none_of KX G ?zb_int) (PySem.W.mg_none_of KX G ?zb_isinstance) (PySem.W.mg_none_of KX G ?zb_len) (PySem.W.mg_none_of KX G ?zb_list) (PySem.W.mg_none_of KX G ?zb_range) (PySem.W.mg_none_of KX G ?zb_str) (PySem.W.mg_none_of KX G ?zb_tuple) (PySem.W.mg_of KX G ?zm_gcd) (PySem.W.mg_of KX G ?zm_lcm) (K00.xcls_mk KX G ?xg_BookError ?xe_BookError ?xk_BookError ?xb_BookError ?xt_BookError ?xh_BookError) (K00.xcls_mk KX G ?xg_ZeroBottom ?xe_ZeroBottom ?xk_ZeroBottom ?xb_ZeroBottom ?xt_ZeroBottom ?xh_ZeroBottom) (K00.xcls_mk KX G ?xg_BadText ?xe_BadText ?xk_BadText ?xb_BadText ?xt_BadText ?xh_BadText) (K00.int_mk KX G ?zc_MOST_DIGITS) (K00.td_mk KX G ?da_0 ?dl_0 ?dc_0 ?dk_0) (K00.td_mk KX G ?da_1 ?dl_1 ?dc_1 ?dk_1) (K00.td_mk KX G ?da_2 ?dl_2 ?dc_2 ?dk_2) (K00.td_mk KX G ?da_3 ?dl_3 ?dc_3 ?dk_3) (K00.td_mk KX G ?da_4 ?dl_4 ?dc_4 ?dk_4) (K00.td_mk KX G ?da_5 ?dl_5 ?dc_5 ?dk_5) (K00.td_mk KX G ?da_6 ?dl_6 ?dc_6 ?dk_6) (K00.td_mk KX G ?da_7 ?dl_7 ?dc_7 ?dk_7) (K00.td_mk KX G ?da_8 ?dl_8 ?dc_8 ?dk_8) (K00.td_mk KX G ?da_9 ?dl_9 ?dc_9 ?dk_9) (K00.td_mk KX G ?da_10 ?dl_10 ?dc_10 ?dk_10) (K00.td_mk KX G ?da_11 ?dl_11 ?dc_11 ?dk_11) (K00.td_mk KX G ?da_12 ?dl_12 ?dc_12 ?dk_12) (K00.td_mk KX G ?da_13 ?dl_13 ?dc_13 ?dk_13) (K00.td_mk KX G ?da_14 ?dl_14 ?dc_14 ?dk_14) (K00.td_mk KX G ?da_15 ?dl_15 ?dc_15 ?dk_15) (K00.td_mk KX G ?da_16 ?dl_16 ?dc_16 ?dk_16) (K00.td_mk KX G ?da_17 ?dl_17 ?dc_17 ?dk_17) (K00.td_mk KX G ?da_18 ?dl_18 ?dc_18 ?dk_18) (K00.td_mk KX G ?da_19 ?dl_19 ?dc_19 ?dk_19) (K00.td_mk KX G ?da_20 ?dl_20 ?dc_20 ?dk_20) (K00.td_mk KX G ?da_21 ?dl_21 ?dc_21 ?dk_21) (K00.td_mk KX G ?da_22 ?dl_22 ?dc_22 ?dk_22) (K00.td_mk KX G ?da_23 ?dl_23 ?dc_23 ?dk_23) (K00.td_mk KX G ?da_24 ?dl_24 ?dc_24 ?dk_24) (K00.td_mk KX G ?da_25 ?dl_25 ?dc_25 ?dk_25) (K00.td_mk KX G ?da_26 ?dl_26 ?dc_26 ?dk_26) (K00.td_mk KX G ?da_27 ?dl_27 ?dc_27 ?dk_27) (K00.td_mk KX G ?da_28 ?dl_28 ?dc_28 ?dk_28) (K00.td_mk KX G ?da_29 ?dl_29 ?dc_29 ?dk_29) (K00.td_mk KX G ?da_30 ?dl_30 ?dc_30 ?dk_30) (K00.td_mk KX G ?da_31 ?dl_31 ?dc_31 ?dk_31) (K00.td_mk KX G ?da_32 ?dl_32 ?dc_32 ?dk_32) (K00.td_mk KX G ?da_33 ?dl_33 ?dc_33 ?dk_33) (K00.td_mk KX G ?da_34 ?dl_34 ?dc_34 ?dk_34) ⟨?e0_BadText, ?e1_BadText, ?e2_BadText, ?e3_BadText, ?e4_BadText, ?e5_BadText, ?e6_BadText, ?e7_BadText⟩ ?s_BadText_BookError ?k_BadText_BookError ?s_BadText_ZeroBottom ?k_BadText_ZeroBottom ?s_BadText_BadText ?k_BadText_BadText ?k_BadText_VE ⟨?e0_ZeroBottom, ?e1_ZeroBottom, ?e2_ZeroBottom, ?e3_ZeroBottom, ?e4_ZeroBottom, ?e5_ZeroBottom, ?e6_ZeroBottom, ?e7_ZeroBottom⟩ ?s_ZeroBottom_BookError ?k_ZeroBottom_BookError ?s_ZeroBottom_ZeroBottom ?k_ZeroBottom_ZeroBottom ?s_ZeroBottom_BadText ?k_ZeroBottom_BadText ?k_ZeroBottom_VE
    (case zb_ValueError => k_is)
    (case zb_abs => k_is)
    (case zb_bool => k_is)
    (case zb_int => k_is)
    (case zb_isinstance => k_is)
    (case zb_len => k_is)
    (case zb_list => k_is)
    (case zb_range => k_is)
    (case zb_str => k_is)
    (case zb_tuple => k_is)
    (case zm_gcd => k_is)
    (case zm_lcm => k_is)
    (case xg_BookError => k_is)
    (case xe_BookError => k_exc)
    (case xk_BookError => k_is)
    (case xb_BookError => k_is)
    (case xt_BookError => k_is)
    (case xh_BookError => k_is)
    (case xg_ZeroBottom => k_is)
    (case xe_ZeroBottom => k_exc)
    (case xk_ZeroBottom => k_is)
    (case xb_ZeroBottom => k_is)
    (case xt_ZeroBottom => k_is)
    (case xh_ZeroBottom => k_is)
    (case xg_BadText => k_is)
    (case xe_BadText => k_exc)
    (case xk_BadText => k_is)
    (case xb_BadText => k_is)
    (case xt_BadText => k_is)
    (case xh_BadText => k_is)
    (case zc_MOST_DIGITS => k_is)
    (case da_0 => k_is)
    (case dl_0 => k_is)
    (case dc_0 => k_is)
    (case dk_0 => k_is)
    (case da_1 => k_is)
    (case dl_1 => k_is)
    (case dc_1 => k_is)
    (case dk_1 => k_is)
    (case da_2 => k_is)
    (case dl_2 => k_is)
    (case dc_2 => k_is)
    (case dk_2 => k_is)
    (case da_3 => k_is)
    (case dl_3 => k_is)
    (case dc_3 => k_is)
    (case dk_3 => k_is)
    (case da_4 => k_is)
    (case dl_4 => k_is)
    (case dc_4 => k_is)
    (case dk_4 => k_is)
    (case da_5 => k_is)
    (case dl_5 => k_is)
    (case dc_5 => k_is)
    (case dk_5 => k_is)
    (case da_6 => k_is)
    (case dl_6 => k_is)
    (case dc_6 => k_is)
    (case dk_6 => k_is)
    (case da_7 => k_is)
    (case dl_7 => k_is)
    (case dc_7 => k_is)
    (case dk_7 => k_is)
    (case da_8 => k_is)
    (case dl_8 => k_is)
    (case dc_8 => k_is)
    (case dk_8 => k_is)
    (case da_9 => k_is)
    (case dl_9 => k_is)
    (case dc_9 => k_is)
    (case dk_9 => k_is)
    (case da_10 => k_is)
    (case dl_10 => k_is)
    (case dc_10 => k_is)
    (case dk_10 => k_is)
    (case da_11 => k_is)
    (case dl_11 => k_is)
    (case dc_11 => k_is)
    (case dk_11 => k_is)
    (case da_12 => k_is)
    (case dl_12 => k_is)
    (case dc_12 => k_is)
    (case dk_12 => k_is)
    (case da_13 => k_is)
    (case dl_13 => k_is)
    (case dc_13 => k_is)
    (case dk_13 => k_is)
    (case da_14 => k_is)
    (case dl_14 => k_is)
    (case dc_14 => k_is)
    (case dk_14 => k_is)
    (case da_15 => k_is)
    (case dl_15 => k_is)
    (case dc_15 => k_is)
    (case dk_15 => k_is)
    (case da_16 => k_is)
    (case dl_16 => k_is)
    (case dc_16 => k_is)
    (case dk_16 => k_is)
    (case da_17 => k_is)
    (case dl_17 => k_is)
    (case dc_17 => k_is)
    (case dk_17 => k_is)
    (case da_18 => k_is)
    (case dl_18 => k_is)
    (case dc_18 => k_is)
    (case dk_18 => k_is)
    (case da_19 => k_is)
    (case dl_19 => k_is)
    (case dc_19 => k_is)
    (case dk_19 => k_is)
    (case da_20 => k_is)
    (case dl_20 => k_is)
    (case dc_20 => k_is)
    (case dk_20 => k_is)
    (case da_21 => k_is)
    (case dl_21 => k_is)
    (case dc_21 => k_is)
    (case dk_21 => k_is)
    (case da_22 => k_is)
    (case dl_22 => k_is)
    (case dc_22 => k_is)
    (case dk_22 => k_is)
    (case da_23 => k_is)
    (case dl_23 => k_is)
    (case dc_23 => k_is)
    (case dk_23 => k_is)
    (case da_24 => k_is)
    (case dl_24 => k_is)
    (case dc_24 => k_is)
    (case dk_24 => k_is)
    (case da_25 => k_is)
    (case dl_25 => k_is)
    (case dc_25 => k_is)
    (case dk_25 => k_is)
    (case da_26 => k_is)
    (case dl_26 => k_is)
    (case dc_26 => k_is)
    (case dk_26 => k_is)
    (case da_27 => k_is)
    (case dl_27 => k_is)
    (case dc_27 => k_is)
    (case dk_27 => k_is)
    (case da_28 => k_is)
    (case dl_28 => k_is)
    (case dc_28 => k_is)
    (case dk_28 => k_is)
    (case da_29 => k_is)
    (case dl_29 => k_is)
    (case dc_29 => k_is)
    (case dk_29 => k_is)
    (case da_30 => k_is)
    (case dl_30 => k_is)
    (case dc_30 => k_is)
    (case dk_30 => k_is)
    (case da_31 => k_is)
    (case dl_31 => k_is)
    (case dc_31 => k_is)
    (case dk_31 => k_is)
    (case da_32 => k_is)
    (case dl_32 => k_is)
    (case dc_32 => k_is)
    (case dk_32 => k_is)
    (case da_33 => k_is)
    (case dl_33 => k_is)
    (case dc_33 => k_is)
    (case dk_33 => k_is)
    (case da_34 => k_is)
    (case dl_34 => k_is)
    (case dc_34 => k_is)
    (case dk_34 => k_is)
    (case e0_BadText => k_is)
    (case e1_BadText => k_is)
    (case e2_BadText => k_is)
    (case e3_BadText => k_is)
    (case e4_BadText => k_is)
    (case e5_BadText => k_is)
    (case e6_BadText => k_is)
    (case e7_BadText => k_is)
    (case s_BadText_BookError => first | rfl | k_is)
    (case k_BadText_BookError => first | k_is | rfl)
    (case s_BadText_ZeroBottom => first | rfl | k_is)
    (case k_BadText_ZeroBottom => first | k_is | rfl)
    (case s_BadText_BadText => first | rfl | k_is)
    (case k_BadText_BadText => first | k_is | rfl)
    (case k_BadText_VE => first | k_is | rfl)
    (case e0_ZeroBottom => k_is)
    (case e1_ZeroBottom => k_is)
    (case e2_ZeroBottom => k_is)
    (case e3_ZeroBottom => k_is)
    (case e4_ZeroBottom => k_is)
    (case e5_ZeroBottom => k_is)
    (case e6_ZeroBottom => k_is)
    (case e7_ZeroBottom => k_is)
    (case s_ZeroBottom_BookError => first | rfl | k_is)
    (case k_ZeroBottom_BookError => first | k_is | rfl)
    (case s_ZeroBottom_ZeroBottom => first | rfl | k_is)
    (case k_ZeroBottom_ZeroBottom => first | k_is | rfl)
    (case s_ZeroBottom_BadText => first | rfl | k_is)
    (case k_ZeroBottom_BadText => first | k_is | rfl)
    (case k_ZeroBottom_VE => first | k_is | rfl)
