import PyProof.Rows.All
import Wide.All
import OpenK.AllK
import Wide.FinOn
import HandS.ForMost
import HandS.ForExc
import HandS.Gcd
import HandS.Wide
import HandS.WideMore
import HandS.IsInst
import HandS.ExcIs
import HandS.Style
import HandS.Zip
import HandS.FStr
import HandS.Flow
import HandS.Deep
import HandS.List
import HandS.ExcInit
import HandS.ExcField
import HandS.Star
import PySem.Challenge.RW_fineststep_k17_boxes_and_greatest_worths
import Open.SpecLaws
set_option Elab.async false
set_option linter.all false
set_option maxRecDepth 100000
set_option maxHeartbeats 4000000
set_option Elab.async false
set_option linter.all false
set_option maxRecDepth 100000
set_option maxHeartbeats 4000000
/-! A layer of data: what an expression is worth, a def at a time, over the hand layer. -/
namespace DL
open PySem PySem.Spec PyProof.Rows L2

/-! ### what a value is worth, by a heap that only grows -/
structure Rep where
  P : Hp → V → Prop
  mono : ∀ {F F' : Hp} {v : V}, Same F F' → P F v → P F' v
def RL (F : Hp) (l : List Rep) (vs : List V) : Prop := Paired (fun (r : Rep) v => r.P F v) l vs
theorem RL.mono {F F' : Hp} (s : Same F F') : ∀ {l : List Rep} {vs : List V}, RL F l vs → RL F' l vs
  | _, _, .nil => .nil
  | _, _, .cons h t => .cons (Rep.mono _ s h) (RL.mono s t)
theorem RL.len {F : Hp} {l : List Rep} {vs : List V} (h : RL F l vs) : l.length = vs.length := Paired.length h
theorem RL.get {F : Hp} : ∀ {l : List Rep} {vs : List V} {i : Nat} {r : Rep}, RL F l vs → l[i]? = some r → ∃ v, vs[i]? = some v ∧ r.P F v
  | _, _, _, _, .nil, e => by simp at e
  | _, _, 0, _, .cons h _, e => by simp at e; subst e; exact ⟨_, rfl, h⟩
  | _, _, i + 1, r, .cons _ t, e => by
    obtain ⟨v, h1, h2⟩ := RL.get (i := i) (r := r) t (by simpa using e)
    exact ⟨v, by simpa using h1, h2⟩
theorem RL.got {F : Hp} : ∀ {l : List Rep} {vs : List V} {i : Nat} {v : V}, RL F l vs → vs[i]? = some v → ∃ r, l[i]? = some r ∧ r.P F v
  | _, _, _, _, .nil, e => by simp at e
  | _, _, 0, _, .cons h _, e => by simp at e; subst e; exact ⟨_, rfl, h⟩
  | _, _, i + 1, v, .cons _ t, e => by
    obtain ⟨r, h1, h2⟩ := RL.got (i := i) (v := v) t (by simpa using e)
    exact ⟨r, by simpa using h1, h2⟩
theorem RL.app {F : Hp} : ∀ {l m : List Rep} {vs ws : List V}, RL F l vs → RL F m ws → RL F (l ++ m) (vs ++ ws)
  | _, _, _, _, .nil, s => s
  | _, _, _, _, .cons h t, s => .cons h (RL.app t s)
theorem RL.take {F : Hp} : ∀ {l : List Rep} {vs : List V} (n : Nat), RL F l vs → RL F (l.take n) (vs.take n)
  | _, _, 0, _ => .nil
  | _, _, _ + 1, .nil => .nil
  | _, _, n + 1, .cons h t => .cons h (RL.take n t)
theorem RL.drop {F : Hp} : ∀ {l : List Rep} {vs : List V} (n : Nat), RL F l vs → RL F (l.drop n) (vs.drop n)
  | _, _, 0, r => r
  | _, _, _ + 1, .nil => .nil
  | _, _, n + 1, .cons _ t => RL.drop n t
theorem RL.set {F : Hp} {r : Rep} {v : V} (h : r.P F v) : ∀ {l : List Rep} {vs : List V} (i : Nat), RL F l vs → RL F (l.set i r) (vs.set i v)
  | _, _, _, .nil => .nil
  | _, _, 0, .cons _ t => .cons h t
  | _, _, i + 1, .cons q t => .cons q (RL.set h i t)
theorem RL.snoc {F : Hp} {l : List Rep} {vs : List V} {r : Rep} {v : V} (h : RL F l vs) (q : r.P F v) : RL F (l ++ [r]) (vs ++ [v]) := h.app (.cons q .nil)

def rC (v : V) : Rep := ⟨fun _ x => x = v, fun _ h => h⟩
abbrev rInt (i : Int) : Rep := rC (.int i)
abbrev rBl (b : Bool) : Rep := rC (.bl b)
abbrev rStr (s : Str) : Rep := rC (.str s)
abbrev rNon : Rep := rC .non
theorem sqt_mono {K : PySem.W.Frag} {H H' : Hp} {a : Addr} {xs : List V} (e : Same H H') (h : SqT K H a xs) : SqT K H' a xs := by
  rcases h with (h | ⟨o, h⟩) | h
  · exact .inl (.inl (e _ _ h))
  · exact .inl (.inr ⟨o, e _ _ h⟩)
  · exact .inr h
def rTup (K : PySem.W.Frag) (l : List Rep) : Rep := ⟨fun F x => ∃ a vs, x = .ref a ∧ SqT K F a vs ∧ RL F l vs, fun s ⟨a, vs, e, h, q⟩ => ⟨a, vs, e, sqt_mono s h, q.mono s⟩⟩
def rLst (K : PySem.W.Frag) (l : List Rep) : Rep := ⟨fun F x => ∃ a vs, x = .ref a ∧ SqL K F a vs ∧ RL F l vs, fun s ⟨a, vs, e, h, q⟩ => ⟨a, vs, e, s.seq h, q.mono s⟩⟩
/-- a number: a whole one, or a pair in lowest terms -/
def rNum (K : PySem.W.Frag) (q : Rat) : Rep := if q.den = 1 then rInt q.num else rTup K [rInt q.num, rInt (q.den : Int)]
/-- one is worth what the other is worth -/
def Sub (r r' : Rep) : Prop := ∀ F v, r.P F v → r'.P F v
theorem Sub.rfl {r : Rep} : Sub r r := fun _ _ h => h
theorem Sub.of {r r' : Rep} (e : r = r') : Sub r r' := e ▸ Sub.rfl
/-! ### growth: F the part that stands still, H the heap -/
structure Gr (F H F' H' : Hp) : Prop where
  f : Same F F'
  h : Same H H'
  s : Same F' H'
  n : ∀ a, H a ≠ none → F a = none → F' a = none
theorem Gr.refl {F H : Hp} (s : Same F H) : Gr F H F H := ⟨Same.refl _, Same.refl _, s, fun _ _ h => h⟩
theorem Gr.trans {F H F1 H1 F2 H2 : Hp} (a : Gr F H F1 H1) (b : Gr F1 H1 F2 H2) : Gr F H F2 H2 :=
  ⟨a.f.trans b.f, a.h.trans b.h, b.s, fun x h e => b.n x (fun z => h (a.h.free z)) (a.n x h e)⟩
theorem same_new {H : Hp} {p : Addr} {o : HO} (h : H p = none) : Same H (upd H p o) := fun b x e => by
  rw [upd_ne (ne_of_none e h)]
  exact e
theorem same_upd2 {F H : Hp} {p : Addr} {o : HO} (s : Same F H) : Same (upd F p o) (upd H p o) := fun b x e => by
  by_cases hb : b = p
  · subst hb
    rw [upd_same] at e ⊢
    exact e
  · rw [upd_ne hb] at e ⊢
    exact s _ _ e
theorem same_out {F H : Hp} {p : Addr} {o : HO} (s : Same F H) (h : F p = none) : Same F (upd H p o) := fun b x e => by
  rw [upd_ne (ne_of_none e h)]
  exact s _ _ e
/-- a new thing that stands still -/
theorem Gr.new {F H : Hp} {p : Addr} {o : HO} (s : Same F H) (h : H p = none) : Gr F H (upd F p o) (upd H p o) :=
  ⟨same_new (s.free h), same_new h, same_upd2 s, fun a ha e => by
    have hp : a ≠ p := fun z => ha (z ▸ h)
    rw [upd_ne hp]
    exact e⟩
/-- a new thing of one's own -/
theorem Gr.newOwn {F H : Hp} {p : Addr} {o : HO} (s : Same F H) (h : H p = none) : Gr F H F (upd H p o) :=
  ⟨Same.refl _, same_new h, same_out s (s.free h), fun _ _ e => e⟩

/-! ### what the slots hold -/
inductive Sl where
  | any
  | im (r : Rep)
  | ow (l : List Rep)
def Sl.ok (F H : Hp) : Sl → Option V → Prop
  | .any, _ => True
  | .im r, x => ∃ v, x = some v ∧ r.P F v
  | .ow l, x => ∃ p vs, x = some (.ref p) ∧ F p = none ∧ H p = some (.lst vs) ∧ RL F l vs
structure En (F0 H0 F H : Hp) (σ : L2.St) (Γ : List Sl) : Prop where
  gr : Gr F0 H0 F H
  len : Γ.length = σ.length
  ok : ∀ (i : Nat) (s : Sl) (x : Option V), Γ[i]? = some s → σ[i]? = some x → s.ok F H x
  own : ∀ (i : Nat) (p : Addr) (l : List Rep), Γ[i]? = some (.ow l) → σ[i]? = some (some (.ref p)) → H0 p = none
  sep : ∀ (i j : Nat) (p : Addr) (l l' : List Rep), Γ[i]? = some (.ow l) → Γ[j]? = some (.ow l') → σ[i]? = some (some (.ref p)) → σ[j]? = some (some (.ref p)) → i = j
section
variable {F0 H0 F H F' H' : Hp} {σ : L2.St} {Γ : List Sl} {i : Nat} {r : Rep} {l : List Rep} {v : V} {vs : List V} {p : Addr}
theorem En.at (e : En F0 H0 F H σ Γ) {s : Sl} (h : Γ[i]? = some s) : ∃ x, σ[i]? = some x ∧ s.ok F H x := by
  have hi : i < Γ.length := (List.getElem?_eq_some_iff.mp h).1
  have hj : i < σ.length := e.len ▸ hi
  exact ⟨σ[i], List.getElem?_eq_getElem hj, e.ok i s _ h (List.getElem?_eq_getElem hj)⟩
theorem En.im (e : En F0 H0 F H σ Γ) (h : Γ[i]? = some (.im r)) : ∃ v, σ[i]? = some (some v) ∧ r.P F v := by
  obtain ⟨x, h1, v, h2, h3⟩ := e.at h
  exact ⟨v, h2 ▸ h1, h3⟩
theorem En.ow (e : En F0 H0 F H σ Γ) (h : Γ[i]? = some (.ow l)) : ∃ p vs, σ[i]? = some (some (.ref p)) ∧ F p = none ∧ H p = some (.lst vs) ∧ RL F l vs ∧ H0 p = none := by
  obtain ⟨x, h1, p, vs, h2, h3, h4, h5⟩ := e.at h
  subst h2
  exact ⟨p, vs, h1, h3, h4, h5, e.own i p l h h1⟩
theorem En.grow (e : En F0 H0 F H σ Γ) (g : Gr F H F' H') : En F0 H0 F' H' σ Γ where
  gr := e.gr.trans g
  len := e.len
  ok i s x h1 h2 := by
    have q := e.ok i s x h1 h2
    cases s with
    | any => trivial
    | im r =>
      obtain ⟨v, a, b⟩ := q
      exact ⟨v, a, r.mono g.f b⟩
    | ow l =>
      obtain ⟨p, vs, a, b, c, d⟩ := q
      exact ⟨p, vs, a, g.n p (by rw [c]; exact fun z => nomatch z) b, g.h _ _ c, d.mono g.f⟩
  own := e.own
  sep := e.sep
theorem get_set {α : Type} {l : List α} {i j : Nat} {x y : α} (h : (l.set i x)[j]? = some y) : (i = j ∧ y = x) ∨ (i ≠ j ∧ l[j]? = some y) := by
  by_cases hi : i = j
  · subst hi
    have hl : i < l.length := by
      have := (List.getElem?_eq_some_iff.mp h).1
      simpa using this
    rw [List.getElem?_set_self hl] at h
    exact .inl ⟨rfl, (Option.some.inj h).symm⟩
  · rw [List.getElem?_set_ne hi] at h
    exact .inr ⟨hi, h⟩
theorem En.setIm (e : En F0 H0 F H σ Γ) (h : r.P F v) : En F0 H0 F H (σ.set i (some v)) (Γ.set i (.im r)) where
  gr := e.gr
  len := by simpa using e.len
  ok j s x h1 h2 := by
    rcases get_set h1 with ⟨rfl, rfl⟩ | ⟨n, h1⟩
    · rcases get_set h2 with ⟨_, rfl⟩ | ⟨n, _⟩
      · exact ⟨v, rfl, h⟩
      · exact absurd rfl n
    · rcases get_set h2 with ⟨z, _⟩ | ⟨_, h2⟩
      · exact absurd z n
      · exact e.ok j s x h1 h2
  own j p l h1 h2 := by
    rcases get_set h1 with ⟨_, z⟩ | ⟨n, h1⟩
    · cases z
    · rcases get_set h2 with ⟨z, _⟩ | ⟨_, h2⟩
      · exact absurd z n
      · exact e.own j p l h1 h2
  sep j k p l l' h1 h1' h2 h2' := by
    rcases get_set h1 with ⟨_, z⟩ | ⟨n, h1⟩
    · cases z
    rcases get_set h1' with ⟨_, z⟩ | ⟨n', h1'⟩
    · cases z
    rw [List.getElem?_set_ne n] at h2
    rw [List.getElem?_set_ne n'] at h2'
    exact e.sep j k p l l' h1 h1' h2 h2'
theorem En.setAny (e : En F0 H0 F H σ Γ) (x : Option V) : En F0 H0 F H (σ.set i x) (Γ.set i .any) where
  gr := e.gr
  len := by simpa using e.len
  ok j s y h1 h2 := by
    rcases get_set h1 with ⟨rfl, rfl⟩ | ⟨n, h1⟩
    · trivial
    · rcases get_set h2 with ⟨z, _⟩ | ⟨_, h2⟩
      · exact absurd z n
      · exact e.ok j s y h1 h2
  own j p l h1 h2 := by
    rcases get_set h1 with ⟨_, z⟩ | ⟨n, h1⟩
    · cases z
    · rcases get_set h2 with ⟨z, _⟩ | ⟨_, h2⟩
      · exact absurd z n
      · exact e.own j p l h1 h2
  sep j k p l l' h1 h1' h2 h2' := by
    rcases get_set h1 with ⟨_, z⟩ | ⟨n, h1⟩
    · cases z
    rcases get_set h1' with ⟨_, z⟩ | ⟨n', h1'⟩
    · cases z
    rw [List.getElem?_set_ne n] at h2
    rw [List.getElem?_set_ne n'] at h2'
    exact e.sep j k p l l' h1 h1' h2 h2'
/-- a list of one's own, that no slot holds -/
theorem En.setOw (e : En F0 H0 F H σ Γ) (hF : F p = none) (hH : H p = some (.lst vs)) (hr : RL F l vs) (h0 : H0 p = none) (hn : ∀ (j : Nat) (l' : List Rep), Γ[j]? = some (.ow l') → σ[j]? ≠ some (some (.ref p))) :
    En F0 H0 F H (σ.set i (some (.ref p))) (Γ.set i (.ow l)) where
  gr := e.gr
  len := by simpa using e.len
  ok j s x h1 h2 := by
    rcases get_set h1 with ⟨rfl, rfl⟩ | ⟨n, h1⟩
    · rcases get_set h2 with ⟨_, rfl⟩ | ⟨n, _⟩
      · exact ⟨p, vs, rfl, hF, hH, hr⟩
      · exact absurd rfl n
    · rcases get_set h2 with ⟨z, _⟩ | ⟨_, h2⟩
      · exact absurd z n
      · exact e.ok j s x h1 h2
  own j q l h1 h2 := by
    rcases get_set h2 with ⟨rfl, z⟩ | ⟨n, h2⟩
    · cases z
      exact h0
    · rcases get_set h1 with ⟨z, _⟩ | ⟨_, h1⟩
      · exact absurd z n
      · exact e.own j q l h1 h2
  sep j k q l1 l2 h1 h1' h2 h2' := by
    rcases get_set h2 with ⟨rfl, z⟩ | ⟨n, h2⟩
    · cases z
      rcases get_set h2' with ⟨rfl, _⟩ | ⟨n', h2'⟩
      · rfl
      · rcases get_set h1' with ⟨z, _⟩ | ⟨_, h1'⟩
        · exact z
        · exact absurd h2' (hn k l2 h1')
    · rcases get_set h1 with ⟨z, _⟩ | ⟨_, h1⟩
      · exact absurd z n
      rcases get_set h2' with ⟨rfl, z⟩ | ⟨n', h2'⟩
      · cases z
        exact absurd h2 (hn j l1 h1)
      · rcases get_set h1' with ⟨z, _⟩ | ⟨_, h1'⟩
        · exact absurd z n'
        · exact e.sep j k q l1 l2 h1 h1' h2 h2'
/-- a list of one's own is written anew -/
theorem En.put (e : En F0 H0 F H σ Γ) (h : Γ[i]? = some (.ow l)) (hs : σ[i]? = some (some (.ref p))) {l' : List Rep} {ws : List V} (hr : RL F l' ws) : En F0 H0 F (upd H p (.lst ws)) σ (Γ.set i (.ow l')) := by
  obtain ⟨p', vs', h1, h2, h3, h4, h5⟩ := e.ow h
  rw [hs] at h1
  cases h1
  exact {
    gr := ⟨e.gr.f, fun b o z => by rw [upd_ne (ne_of_none z h5)]; exact e.gr.h b o z, same_out e.gr.s h2, e.gr.n⟩
    len := by simpa using e.len
    ok := fun j s x k1 k2 => by
      rcases get_set k1 with ⟨rfl, rfl⟩ | ⟨n, k1⟩
      · rw [hs] at k2
        cases k2
        exact ⟨p, ws, rfl, h2, upd_same, hr⟩
      · have q := e.ok j s x k1 k2
        cases s with
        | any => trivial
        | im r => exact q
        | ow m =>
          obtain ⟨p2, ws2, a, b, c, d⟩ := q
          subst a
          refine ⟨p2, ws2, rfl, b, ?_, d⟩
          have hp : p2 ≠ p := fun z => n (e.sep i j p l m h k1 hs (z ▸ k2))
          rw [upd_ne hp]
          exact c
    own := fun j q m k1 k2 => by
      rcases get_set k1 with ⟨rfl, _⟩ | ⟨n, k1⟩
      · rw [hs] at k2
        cases k2
        exact h5
      · exact e.own j q m k1 k2
    sep := fun j k q m m' k1 k1' k2 k2' => by
      have g : ∀ {j : Nat} {m : List Rep}, (Γ.set i (.ow l'))[j]? = some (.ow m) → ∃ m1, Γ[j]? = some (.ow m1) := fun {j m} k1 => by
        rcases get_set k1 with ⟨rfl, _⟩ | ⟨n, k1⟩
        · exact ⟨l, h⟩
        · exact ⟨m, k1⟩
      obtain ⟨m1, k1⟩ := g k1
      obtain ⟨m2, k1'⟩ := g k1'
      exact e.sep j k q m1 m2 k1 k1' k2 k2' }
/-- a list of one's own stands still from now on -/
theorem En.freeze {K : PySem.W.Frag} (e : En F0 H0 F H σ Γ) (h : Γ[i]? = some (.ow l)) : ∃ F', Same F F' ∧ Same F' H ∧ En F0 H0 F' H σ (Γ.set i (.im (rLst K l))) := by
  obtain ⟨p, vs, h1, h2, h3, h4, h5⟩ := e.ow h
  have s1 : Same F (upd F p (.lst vs)) := same_new h2
  have s2 : Same (upd F p (.lst vs)) H := fun b o z => by
    by_cases hb : b = p
    · subst hb
      rw [upd_same] at z
      rw [h3, ← z]
    · rw [upd_ne hb] at z
      exact e.gr.s b o z
  have nn : ∀ {j : Nat} {q : Addr} {m : List Rep}, j ≠ i → Γ[j]? = some (.ow m) → σ[j]? = some (some (.ref q)) → q ≠ p := fun {j q m} hj k1 k2 z => hj (e.sep j i p m l k1 h (z ▸ k2) h1)
  refine ⟨upd F p (.lst vs), s1, s2, ?_⟩
  exact {
    gr := ⟨e.gr.f.trans s1, e.gr.h, s2, fun a ha z => by
      have hp : a ≠ p := fun y => ha (y ▸ h5)
      rw [upd_ne hp]
      exact e.gr.n a ha z⟩
    len := by simpa using e.len
    ok := fun j s x k1 k2 => by
      rcases get_set k1 with ⟨rfl, rfl⟩ | ⟨n, k1⟩
      · rw [h1] at k2
        cases k2
        exact ⟨.ref p, rfl, p, vs, rfl, SqL.of upd_same, h4.mono s1⟩
      · have q := e.ok j s x k1 k2
        cases s with
        | any => trivial
        | im r =>
          obtain ⟨v, a, b⟩ := q
          exact ⟨v, a, r.mono s1 b⟩
        | ow m =>
          obtain ⟨p2, ws2, a, b, c, d⟩ := q
          subst a
          refine ⟨p2, ws2, rfl, ?_, c, d.mono s1⟩
          rw [upd_ne (nn (Ne.symm n) k1 k2)]
          exact b
    own := fun j q m k1 k2 => by
      rcases get_set k1 with ⟨_, z⟩ | ⟨n, k1⟩
      · cases z
      · exact e.own j q m k1 k2
    sep := fun j k q m m' k1 k1' k2 k2' => by
      rcases get_set k1 with ⟨_, z⟩ | ⟨n, k1⟩
      · cases z
      rcases get_set k1' with ⟨_, z⟩ | ⟨n', k1'⟩
      · cases z
      exact e.sep j k q m m' k1 k1' k2 k2' }
end
/-! ### slots of which less is known -/
inductive SlLe : List Sl → List Sl → Prop
  | nil : SlLe [] []
  | any {s : Sl} {Γ Γ' : List Sl} : SlLe Γ Γ' → SlLe (s :: Γ) (.any :: Γ')
  | same {s : Sl} {Γ Γ' : List Sl} : SlLe Γ Γ' → SlLe (s :: Γ) (s :: Γ')
  | im {r r' : Rep} {Γ Γ' : List Sl} (h : Sub r r') : SlLe Γ Γ' → SlLe (.im r :: Γ) (.im r' :: Γ')
  | ow {l l' : List Rep} {Γ Γ' : List Sl} (h : l = l') : SlLe Γ Γ' → SlLe (.ow l :: Γ) (.ow l' :: Γ')
theorem SlLe.len : ∀ {Γ Γ' : List Sl}, SlLe Γ Γ' → Γ.length = Γ'.length
  | _, _, .nil => rfl
  | _, _, .any h => congrArg (· + 1) h.len
  | _, _, .same h => congrArg (· + 1) h.len
  | _, _, .im _ h => congrArg (· + 1) h.len
  | _, _, .ow _ h => congrArg (· + 1) h.len
theorem SlLe.rfl : ∀ {Γ : List Sl}, SlLe Γ Γ
  | [] => .nil
  | _ :: _ => .same SlLe.rfl
theorem SlLe.at : ∀ {Γ Γ' : List Sl}, SlLe Γ Γ' → ∀ {i : Nat} {s' : Sl}, Γ'[i]? = some s' → ∃ s, Γ[i]? = some s ∧ (s = s' ∨ s' = .any ∨ (∃ r r', s = .im r ∧ s' = .im r' ∧ Sub r r'))
  | _, _, .nil, i, s', h => by simp at h
  | _, _, .any h, 0, s', e => by simp at e; subst e; exact ⟨_, _root_.rfl, .inr (.inl _root_.rfl)⟩
  | _, _, .same h, 0, s', e => by simp at e; subst e; exact ⟨_, _root_.rfl, .inl _root_.rfl⟩
  | _, _, .im k h, 0, s', e => by simp at e; subst e; exact ⟨_, _root_.rfl, .inr (.inr ⟨_, _, _root_.rfl, _root_.rfl, k⟩)⟩
  | _, _, .ow k h, 0, s', e => by simp at e; subst e; exact ⟨_, _root_.rfl, .inl (by rw [k])⟩
  | _, _, .any h, i + 1, s', e => by simpa using h.at (i := i) (by simpa using e)
  | _, _, .same h, i + 1, s', e => by simpa using h.at (i := i) (by simpa using e)
  | _, _, .im k h, i + 1, s', e => by simpa using h.at (i := i) (by simpa using e)
  | _, _, .ow k h, i + 1, s', e => by simpa using h.at (i := i) (by simpa using e)
theorem En.le {F0 H0 F H : Hp} {σ : L2.St} {Γ Γ' : List Sl} (e : En F0 H0 F H σ Γ) (h : SlLe Γ Γ') : En F0 H0 F H σ Γ' where
  gr := e.gr
  len := by rw [← h.len]; exact e.len
  ok i s' x h1 h2 := by
    obtain ⟨s, k1, k2⟩ := h.at h1
    have q := e.ok i s x k1 h2
    rcases k2 with rfl | rfl | ⟨r, r', rfl, rfl, hs⟩
    · exact q
    · trivial
    · obtain ⟨v, a, b⟩ := q
      exact ⟨v, a, hs F v b⟩
  own i p l h1 h2 := by
    obtain ⟨s, k1, k2⟩ := h.at h1
    rcases k2 with rfl | z | ⟨r, r', rfl, z, hs⟩
    · exact e.own i p l k1 h2
    · cases z
    · cases z
  sep i j p l l' h1 h1' h2 h2' := by
    obtain ⟨s, k1, k2⟩ := h.at h1
    obtain ⟨s', k1', k2'⟩ := h.at h1'
    rcases k2 with rfl | z | ⟨r, r', rfl, z, hs⟩
    · rcases k2' with rfl | z | ⟨r, r', rfl, z, hs⟩
      · exact e.sep i j p l l' k1 k1' h2 h2'
      · cases z
      · cases z
    · cases z
    · cases z
end DL

set_option Elab.async false
set_option linter.all false
set_option maxRecDepth 100000
set_option maxHeartbeats 4000000
namespace DL
open PySem PySem.Spec PyProof.Rows L2

/-! ### what is asked of an expression, a test, an argument list, a block -/
def EV (X : Cx) (e : Expr) (σ : L2.St) (H : Hp) (Q : VK) : Prop := ∀ (pins : List (Addr × Obj)) (s : Shared), Inv X pins σ H s → wpAny (model X.prog X.w) X.A (eval e X.env) (EP X pins σ Q) X.xe s
def TV (X : Cx) (e : Expr) (σ : L2.St) (H : Hp) (Q : Bool → Hp → Prop) : Prop := ∀ (pins : List (Addr × Obj)) (s : Shared), Inv X pins σ H s → wpAny (model X.prog X.w) X.A (isTrue e X.env (eval e X.env)) (TP X pins σ Q) X.xe s
def WV (X : Cx) (e : Expr) (σ : L2.St) (H : Hp) (Q : Bool → Hp → Prop) : Prop := ∀ (whole : Sem Value) (pins : List (Addr × Obj)) (s : Shared), Inv X pins σ H s → wpAny (model X.prog X.w) X.A (isTrue e X.env whole) (TP X pins σ Q) X.xe s
def AV (X : Cx) (es : List Expr) (σ : L2.St) (H : Hp) (Q : List V → Hp → Prop) : Prop := ∀ (pos : Pos) (pins : List (Addr × Obj)) (s : Shared), Inv X pins σ H s → wpAny (model X.prog X.w) X.A (spliced (backTo pos (starEach es X.env))) (AP X pins σ Q) X.xe s
def XS (X : Cx) (st : List Stmt) (D : Ends) (σ : L2.St) (H : Hp) : Prop := ∀ (pins : List (Addr × Obj)) (s : Shared), Inv X pins σ H s → wpAny (model X.prog X.w) X.A (execs st X.env) (SP X pins D) X.xe s
section
variable {X : Cx} {e : Expr} {es : List Expr} {st : List Stmt} {σ : L2.St} {H : Hp}
theorem pe_ev : PE X e (EV X e) := ⟨fun pins s σ H Q I h => h pins s I⟩
theorem pt_ev : PT X e (TV X e) := ⟨fun pins s σ H Q I h => h pins s I⟩
theorem pw_ev : PW X e (WV X e) := ⟨fun whole pins s σ H Q I h => h whole pins s I⟩
theorem pa_ev : PA X es (AV X es) := ⟨fun pos pins s σ H Q I h => h pos pins s I⟩
theorem pss_ev : PSs X st (XS X st) := ⟨fun pins s σ H D I h => h pins s I⟩
theorem EV.of {te : TE} {Q : VK} (h : PE X e te) (q : te σ H Q) : EV X e σ H Q := fun pins s I => h.run pins s σ H Q I q
theorem TV.of {te : TT} {Q : Bool → Hp → Prop} (h : PT X e te) (q : te σ H Q) : TV X e σ H Q := fun pins s I => h.run pins s σ H Q I q
theorem WV.of {te : TT} {Q : Bool → Hp → Prop} (h : PW X e te) (q : te σ H Q) : WV X e σ H Q := fun whole pins s I => h.run whole pins s σ H Q I q
theorem AV.of {te : TA} {Q : List V → Hp → Prop} (h : PA X es te) (q : te σ H Q) : AV X es σ H Q := fun pos pins s I => h.run pos pins s σ H Q I q
theorem XS.of {te : TS} {D : Ends} (h : PSs X st te) (q : te D σ H) : XS X st D σ H := fun pins s I => h.run pins s σ H D I q
end

/-- where a def's body runs: its names, its scope, the room -/
structure BX (X : Cx) (N : List Str) (sc : Scope) (k : Nat) : Prop where
  hN : X.N = N
  hsc : X.env.scope = sc
  nd : N.Nodup
  room : Room k X.A
  calm : X.calm = true
  own : PassesOwn (model X.prog X.w) X.A X.env X.xe

/-- the values -/
def DE (X : Cx) (Γ : List Sl) (e : Expr) (r : Rep) : Prop := ∀ F0 H0 F H σ, En F0 H0 F H σ Γ → ∀ Q : VK, (∀ v F' H', Gr F H F' H' → r.P F' v → Q v H') → EV X e σ H Q
def DA (X : Cx) (Γ : List Sl) (es : List Expr) (rs : List Rep) : Prop := ∀ F0 H0 F H σ, En F0 H0 F H σ Γ → ∀ Q : List V → Hp → Prop, (∀ vs F' H', Gr F H F' H' → RL F' rs vs → Q vs H') → AV X es σ H Q
/-- a new list of one's own -/
def DL (X : Cx) (Γ : List Sl) (e : Expr) (l : List Rep) : Prop := ∀ F0 H0 F H σ, En F0 H0 F H σ Γ → ∀ Q : VK, (∀ p vs F' H', Gr F H F' H' → H p = none → F' p = none → H' p = some (.lst vs) → RL F' l vs → Q (.ref p) H') → EV X e σ H Q
def DT (X : Cx) (Γ : List Sl) (e : Expr) (b : Bool) : Prop := ∀ F0 H0 F H σ, En F0 H0 F H σ Γ → ∀ Q : Bool → Hp → Prop, (∀ F' H', Gr F H F' H' → Q b H') → TV X e σ H Q
def DW (X : Cx) (Γ : List Sl) (e : Expr) (b : Bool) : Prop := ∀ F0 H0 F H σ, En F0 H0 F H σ Γ → ∀ Q : Bool → Hp → Prop, (∀ F' H', Gr F H F' H' → Q b H') → WV X e σ H Q

section
variable {X : Cx} {N : List Str} {sc : Scope} {k : Nat} {Γ : List Sl} {a b c e : Expr} {es rest : List Expr} {r ra rb rc r' : Rep} {rs l : List Rep} {pos p : Pos} {x : Str}
theorem DE.sub (h : DE X Γ e r) (s : Sub r r') : DE X Γ e r' := fun F0 H0 F H σ en Q q => h F0 H0 F H σ en Q fun v F' H' g hv => q v F' H' g (s F' v hv)
theorem DE.to (h : DE X Γ e r) (s : r = r') : DE X Γ e r' := s ▸ h
theorem DT.to {b b' : Bool} (h : DT X Γ e b) (s : b = b') : DT X Γ e b' := s ▸ h
theorem DL.to {l l' : List Rep} (h : DL X Γ e l) (s : l = l') : DL X Γ e l' := s ▸ h
theorem DL.froz (h : DL X Γ e l) : DE X Γ e (rLst X.K l) := fun F0 H0 F H σ en Q q => h F0 H0 F H σ en Q fun p vs F' H' g h1 h2 h3 h4 =>
  q (.ref p) (upd F' p (.lst vs)) H' ⟨g.f.trans (same_new h2), g.h, fun b o z => by
    by_cases hb : b = p
    · subst hb
      rw [upd_same] at z
      rw [h3, ← z]
    · rw [upd_ne hb] at z
      exact g.s b o z, fun a ha z => by
    have hp : a ≠ p := fun y => ha (y ▸ h1)
    rw [upd_ne hp]
    exact g.n a ha z⟩ ⟨p, vs, rfl, SqL.of upd_same, h4.mono (same_new h2)⟩
theorem de_var (B : BX X N sc k) {i : Nat} (hΓ : Γ[i]? = some (.im r)) (hN : N[i]? = some x) (hv : Vis sc x) (hd : (x == ("__debug__" : Str)) = false := by decide) (hcd : (x == ("__classdict__" : Str)) = false := by decide) : DE X Γ (.Name x pos) r := fun F0 H0 F H σ en Q q => by
  obtain ⟨v, h1, h2⟩ := en.im hΓ
  exact .of (pe_var (i := i) (B.hN ▸ hN) (B.hsc ▸ hv) hd hcd) ⟨v, h1, q v F H (.refl en.gr.s) h2⟩
theorem de_int {i : Int} {j : Nat} : DE X Γ (.Constant (.int i) j pos) (rInt i) := fun F0 H0 F H σ en Q q => .of pe_int (q _ F H (.refl en.gr.s) rfl)
theorem de_bl {i : Bool} {j : Nat} : DE X Γ (.Constant (.bool i) j pos) (rBl i) := fun F0 H0 F H σ en Q q => .of pe_bl (q _ F H (.refl en.gr.s) rfl)
theorem de_non {j : Nat} : DE X Γ (.Constant .none j pos) rNon := fun F0 H0 F H σ en Q q => .of pe_non (q _ F H (.refl en.gr.s) rfl)
theorem de_str {s : Str} {j : Nat} : DE X Γ (.Constant (.str s) j pos) (rStr s) := fun F0 H0 F H σ en Q q => .of pe_str (q _ F H (.refl en.gr.s) rfl)
/-- an operator by values -/
def B2 (r2 : R2) (ra rb rc : Rep) : Prop := ∀ F H x y, Same F H → ra.P F x → rb.P F y → ∀ Q : VK, (∀ v F' H', Gr F H F' H' → rc.P F' v → Q v H') → r2 x y H Q
theorem two {r2 : R2} (ha : DE X Γ a ra) (hb : DE X Γ b rb) (h2 : B2 r2 ra rb rc) {F0 H0 F H : Hp} {σ : L2.St} (en : En F0 H0 F H σ Γ) {Q : VK} (q : ∀ v F' H', Gr F H F' H' → rc.P F' v → Q v H') :
    tOp r2 (EV X a) (EV X b) σ H Q :=
  ha F0 H0 F H σ en _ fun v F1 H1 g1 h1 => hb F0 H0 F1 H1 σ (en.grow g1) _ fun u F2 H2 g2 k2 => h2 F2 H2 v u g2.s (ra.mono g2.f h1) k2 Q fun z F3 H3 g3 h3 => q z F3 H3 ((g1.trans g2).trans g3) h3
theorem de_op {op : Operator} {r2 : R2} (ho : OpR X (binaryOp op) r2) (h2 : B2 r2 ra rb rc) (ha : DE X Γ a ra) (hb : DE X Γ b rb) : DE X Γ (.BinOp a op b pos) rc := fun F0 H0 F H σ en Q q =>
  .of (pe_op ho pe_ev pe_ev) (two ha hb h2 en q)
theorem de_cmp {op : CmpOp} {r2 : R2} (ho : OpR X (compareOp op) r2) (h2 : B2 r2 ra rb rc) (ha : DE X Γ a ra) (hb : DE X Γ b rb) (hm : behindInMarks op b = false) : DE X Γ (.Compare a [op] [b] pos) rc := fun F0 H0 F H σ en Q q =>
  .of (pe_cmpR ho pe_ev pe_ev hm) (two ha hb h2 en q)
theorem dt_cmp {op : CmpOp} {r2 : R2} {t : Bool} (ho : OpR X (compareOp op) r2) (h2 : B2 r2 ra rb (rBl t)) (ha : DE X Γ a ra) (hb : DE X Γ b rb) (hm : behindInMarks op b = false) : DT X Γ (.Compare a [op] [b] pos) t := fun F0 H0 F H σ en Q q =>
  .of (pt_cmpR ho pe_ev pe_ev hm) (two ha hb h2 en fun v F' H' g hv => ⟨t, hv, q F' H' g⟩)
theorem b2_I0 {g : Int → Int → V} {i j : Int} : B2 (rI0 g) (rInt i) (rInt j) (rC (g i j)) := fun F H x y s h1 h2 Q q => ⟨i, j, h1, h2, q _ F H (.refl s) rfl⟩
theorem b2_I {C : Int → Int → Prop} {g : Int → Int → V} {i j : Int} (hc : C i j) : B2 (rI C g) (rInt i) (rInt j) (rC (g i j)) := fun F H x y s h1 h2 Q q => ⟨i, j, h1, h2, hc, q _ F H (.refl s) rfl⟩
theorem b2_eq {x y : V} (h : scal x y = true) : B2 rEq (rC x) (rC y) (rBl (decide (x = y))) := fun F H x y s h1 h2 Q q => by cases h1; cases h2; exact ⟨h, q _ F H (.refl s) rfl⟩
theorem b2_ne {x y : V} (h : scal x y = true) : B2 rNe (rC x) (rC y) (rBl (!decide (x = y))) := fun F H x y s h1 h2 Q q => by cases h1; cases h2; exact ⟨h, q _ F H (.refl s) rfl⟩
/-! ints -/
section
variable {i j : Int}
theorem de_add (ha : DE X Γ a (rInt i)) (hb : DE X Γ b (rInt j)) : DE X Γ (.BinOp a .Add b pos) (rInt (i + j)) := de_op op_add b2_I0 ha hb
theorem de_sub (ha : DE X Γ a (rInt i)) (hb : DE X Γ b (rInt j)) : DE X Γ (.BinOp a .Sub b pos) (rInt (i - j)) := de_op op_sub b2_I0 ha hb
theorem de_mul (hc : CMulW i j) (ha : DE X Γ a (rInt i)) (hb : DE X Γ b (rInt j)) : DE X Γ (.BinOp a .Mult b pos) (rInt (i * j)) := de_op op_mulW (b2_I hc) ha hb
def CDivX (_ j : Int) : Prop := j ≠ 0 ∧ j.natAbs.log2 < 9000
theorem op_fdivX : OpR X (binaryOp .FloorDiv) (rI CDivX fun i j => .int (i.fdiv j)) := opI fun i j _ _ _ _ _ hc q => floordiv_int hc.1 q (.inl (PyProof.noPylong_of_log2 hc.2))
theorem de_fdiv (hc : CDivX i j) (ha : DE X Γ a (rInt i)) (hb : DE X Γ b (rInt j)) : DE X Γ (.BinOp a .FloorDiv b pos) (rInt (i.fdiv j)) := de_op op_fdivX (b2_I hc) ha hb
theorem de_mod (hc : j ≠ 0) (ha : DE X Γ a (rInt i)) (hb : DE X Γ b (rInt j)) : DE X Γ (.BinOp a .Mod b pos) (rInt (i.fmod j)) := de_op op_modN (b2_I hc) ha hb
theorem de_pow (hc : CPow i j) (ha : DE X Γ a (rInt i)) (hb : DE X Γ b (rInt j)) : DE X Γ (.BinOp a .Pow b pos) (rInt (i ^ j.toNat)) := de_op op_pow (b2_I hc) ha hb
def U1 (f : V → Hp → VK → Prop) (ra rc : Rep) : Prop := ∀ F H x, Same F H → ra.P F x → ∀ Q : VK, (∀ v F' H', Gr F H F' H' → rc.P F' v → Q v H') → f x H Q
theorem de_un {op : UnaryOp} {f : V → Hp → VK → Prop} (ho : UnR X (unaryOp op) f) (h2 : U1 f ra rc) (ha : DE X Γ a ra) : DE X Γ (.UnaryOp op a pos) rc := fun F0 H0 F H σ en Q q =>
  .of (pe_un ho pe_ev) (ha F0 H0 F H σ en _ fun v F1 H1 g1 h1 => h2 F1 H1 v g1.s h1 Q fun z F3 H3 g3 h3 => q z F3 H3 (g1.trans g3) h3)
theorem de_neg (ha : DE X Γ a (rInt i)) : DE X Γ (.UnaryOp .USub a pos) (rInt (-i)) := de_un un_neg (fun F H x s h1 Q q => ⟨i, h1, q _ F H (.refl s) rfl⟩) ha
theorem dt_lt (ha : DE X Γ a (rInt i)) (hb : DE X Γ b (rInt j)) : DT X Γ (.Compare a [.Lt] [b] pos) (decide (i < j)) := dt_cmp op_lt b2_I0 ha hb (nomark _)
theorem dt_gt (ha : DE X Γ a (rInt i)) (hb : DE X Γ b (rInt j)) : DT X Γ (.Compare a [.Gt] [b] pos) (decide (j < i)) := dt_cmp op_gt b2_I0 ha hb (nomark _)
theorem dt_ge (ha : DE X Γ a (rInt i)) (hb : DE X Γ b (rInt j)) : DT X Γ (.Compare a [.GtE] [b] pos) (decide (j ≤ i)) := dt_cmp op_ge b2_I0 ha hb (nomark _)
theorem vint_dec : decide (V.int i = V.int j) = decide (i = j) := by
  by_cases h : i = j
  · rw [decide_eq_true h, h, decide_eq_true rfl]
  · rw [decide_eq_false h, decide_eq_false fun z => h (V.int.inj z)]
theorem b2_eqI : B2 rEq (rInt i) (rInt j) (rBl (decide (i = j))) := by
  have h := b2_eq (x := .int i) (y := .int j) rfl
  rw [vint_dec] at h
  exact h
theorem b2_neI : B2 rNe (rInt i) (rInt j) (rBl (!decide (i = j))) := by
  have h := b2_ne (x := .int i) (y := .int j) rfl
  rw [vint_dec] at h
  exact h
theorem dt_eqI (ha : DE X Γ a (rInt i)) (hb : DE X Γ b (rInt j)) : DT X Γ (.Compare a [.Eq] [b] pos) (decide (i = j)) := dt_cmp op_eq b2_eqI ha hb (nomark _)
theorem dt_neI (ha : DE X Γ a (rInt i)) (hb : DE X Γ b (rInt j)) : DT X Γ (.Compare a [.NotEq] [b] pos) (!decide (i = j)) := dt_cmp op_ne b2_neI ha hb (nomark _)
theorem de_ltI (ha : DE X Γ a (rInt i)) (hb : DE X Γ b (rInt j)) : DE X Γ (.Compare a [.Lt] [b] pos) (rBl (decide (i < j))) := de_cmp op_lt b2_I0 ha hb (nomark _)
theorem de_geI (ha : DE X Γ a (rInt i)) (hb : DE X Γ b (rInt j)) : DE X Γ (.Compare a [.GtE] [b] pos) (rBl (decide (j ≤ i))) := de_cmp op_ge b2_I0 ha hb (nomark _)
theorem de_eqI (ha : DE X Γ a (rInt i)) (hb : DE X Γ b (rInt j)) : DE X Γ (.Compare a [.Eq] [b] pos) (rBl (decide (i = j))) := de_cmp op_eq b2_eqI ha hb (nomark _)
end
/-! truth values -/
section
variable {u v : Bool}
theorem dt_val (h : DE X Γ e (rBl u)) (he : ∀ whole, isTrue e X.env whole = (do let v ← whole; standAt e.pos; holding [v] (truthy v)) := by intro _; rfl) : DT X Γ e u := fun F0 H0 F H σ en Q q =>
  .of (pt_val pe_ev he) (h F0 H0 F H σ en _ fun v F' H' g hv => ⟨u, hv, q F' H' g⟩)
theorem dt_not (h : DT X Γ a u) : DT X Γ (.UnaryOp .Not a pos) (!u) := fun F0 H0 F H σ en Q q => .of (pt_not pt_ev) (h F0 H0 F H σ en _ fun F' H' g => q F' H' g)
theorem de_not (h : DE X Γ a (rBl u)) : DE X Γ (.UnaryOp .Not a pos) (rBl (!u)) := fun F0 H0 F H σ en Q q => .of (pe_not pe_ev) (h F0 H0 F H σ en _ fun v F' H' g hv => ⟨u, hv, q _ F' H' g rfl⟩)
theorem DW.t (h : DW X Γ e u) : DT X Γ e u := fun F0 H0 F H σ en Q q => .of (pw_ev.pt) (h F0 H0 F H σ en Q q)
theorem dw_and1 (h : DT X Γ a u) : DW X Γ (.BoolOp .And [a] pos) u := fun F0 H0 F H σ en Q q => .of (pw_and1 pt_ev) (h F0 H0 F H σ en Q q)
theorem dw_or1 (h : DT X Γ a u) : DW X Γ (.BoolOp .Or [a] pos) u := fun F0 H0 F H σ en Q q => .of (pw_or1 pt_ev) (h F0 H0 F H σ en Q q)
theorem dw_and (h : DT X Γ a u) (h2 : u = true → DW X Γ (.BoolOp .And (b :: rest) pos) v) : DW X Γ (.BoolOp .And (a :: b :: rest) pos) (u && v) := fun F0 H0 F H σ en Q q =>
  .of (pw_and pt_ev pw_ev) (h F0 H0 F H σ en _ fun F' H' g => by
    cases u with
    | true => rw [if_pos rfl]; exact h2 rfl F0 H0 F' H' σ (en.grow g) Q fun F2 H2 g2 => q F2 H2 (g.trans g2)
    | false => rw [if_neg Bool.false_ne_true]; exact q F' H' g)
theorem dw_or (h : DT X Γ a u) (h2 : u = false → DW X Γ (.BoolOp .Or (b :: rest) pos) v) : DW X Γ (.BoolOp .Or (a :: b :: rest) pos) (u || v) := fun F0 H0 F H σ en Q q =>
  .of (pw_or pt_ev pw_ev) (h F0 H0 F H σ en _ fun F' H' g => by
    cases u with
    | true => rw [if_pos rfl]; exact q F' H' g
    | false => rw [if_neg Bool.false_ne_true]; exact h2 rfl F0 H0 F' H' σ (en.grow g) Q fun F2 H2 g2 => q F2 H2 (g.trans g2))
theorem de_one {op} (h : DE X Γ a r) : DE X Γ (.BoolOp op [a] pos) r := fun F0 H0 F H σ en Q q => .of (pe_one pe_ev) (h F0 H0 F H σ en Q q)
theorem de_and (h : DE X Γ a (rBl u)) (h2 : u = true → DE X Γ (.BoolOp .And (b :: rest) pos) (rBl v)) : DE X Γ (.BoolOp .And (a :: b :: rest) pos) (rBl (u && v)) := fun F0 H0 F H σ en Q q =>
  .of (pe_and pe_ev pe_ev) (h F0 H0 F H σ en _ fun x F' H' g hx => ⟨u, hx, by
    cases u with
    | true => rw [if_pos rfl]; exact h2 rfl F0 H0 F' H' σ (en.grow g) Q fun y F2 H2 g2 hy => q y F2 H2 (g.trans g2) hy
    | false => rw [if_neg Bool.false_ne_true]; exact q _ F' H' g rfl⟩)
theorem de_if (h : DT X Γ c u) (h1 : u = true → DE X Γ a r) (h2 : u = false → DE X Γ b r) : DE X Γ (.IfExp c a b pos) r := fun F0 H0 F H σ en Q q =>
  .of (pe_ifExp pt_ev pe_ev pe_ev) (h F0 H0 F H σ en _ fun F' H' g => by
    cases u with
    | true => rw [if_pos rfl]; exact h1 rfl F0 H0 F' H' σ (en.grow g) Q fun y F2 H2 g2 hy => q y F2 H2 (g.trans g2) hy
    | false => rw [if_neg Bool.false_ne_true]; exact h2 rfl F0 H0 F' H' σ (en.grow g) Q fun y F2 H2 g2 hy => q y F2 H2 (g.trans g2) hy)
theorem vbl_dec : decide (V.bl u = V.bl v) = (u == v) := by cases u <;> cases v <;> rfl
theorem b2_neB : B2 rNe (rBl u) (rBl v) (rBl (u != v)) := by
  have h := b2_ne (x := .bl u) (y := .bl v) rfl
  rw [vbl_dec] at h
  exact h
theorem b2_isB : B2 rIsB (rBl u) (rBl v) (rBl (u == v)) := fun F H x y s h1 h2 Q q => ⟨u, v, h1, h2, q _ F H (.refl s) (by show V.bl _ = V.bl _; cases u <;> cases v <;> rfl)⟩
end
/-! argument lists, displays -/
theorem da_nil : DA X Γ [] [] := fun F0 H0 F H σ en Q q => .of pa_nil (q [] F H (.refl en.gr.s) .nil)
theorem da_cons (h : DE X Γ e r) (h2 : DA X Γ es rs) (hs : starEach (e :: es) X.env = (false, eval e X.env) :: starEach es X.env := by rfl) : DA X Γ (e :: es) (r :: rs) := fun F0 H0 F H σ en Q q =>
  .of (pa_cons pe_ev pa_ev hs) (h F0 H0 F H σ en _ fun v F1 H1 g1 h1 => h2 F0 H0 F1 H1 σ (en.grow g1) _ fun vs F2 H2 g2 k2 => q (v :: vs) F2 H2 (g1.trans g2) (.cons (r.mono g2.f h1) k2))
theorem de_tup {x1} (h : DA X Γ es rs) (hl : rs.length ≤ sizeLine) : DE X Γ (.Tuple es x1 pos) (rTup X.K rs) := fun F0 H0 F H σ en Q q =>
  .of (pe_tup pa_ev) (h F0 H0 F H σ en _ fun vs F1 H1 g1 h1 => ⟨h1.len ▸ hl, fun p hp => q (.ref p) _ _ (g1.trans (.new g1.s hp)) ⟨p, vs, rfl, SqT.of upd_same, h1.mono (same_new (g1.s.free hp))⟩⟩)
theorem dl_lst (h : DA X Γ es rs) (hl : rs.length ≤ sizeLine) : DL X Γ (.List es pos) rs := fun F0 H0 F H σ en Q q =>
  .of (pe_lst pa_ev) (h F0 H0 F H σ en _ fun vs F1 H1 g1 h1 => ⟨h1.len ▸ hl, fun p hp => q p vs F1 _ (g1.trans (.newOwn g1.s hp)) (g1.h.free hp) (g1.s.free hp) upd_same h1⟩)
end
end DL

set_option Elab.async false
set_option linter.all false
set_option maxRecDepth 100000
set_option maxHeartbeats 4000000
namespace DL
open PySem PySem.Spec PyProof.Rows L2

/-! ### a def that may be called by its name -/
structure Cal (P : Program) (w : World) (K : PySem.W.Frag) (mg : Str → Option Value) (base : Heap) (k : Nat) (x : Str) (sp : Sp) : Prop where
  ex : ∃ (f : Addr) (fd : FuncData) (ps : List Str), FnOk P w K mg base (L2.CX P w) k f fd ps sp ∧ mg x = some (.ref f) ∧ PySem.W.keepIn K (.ref f) = true ∧ Binds K fd ps []
theorem FnOk.wide {P : Program} {w : World} {K : PySem.W.Frag} {mg : Str → Option Value} {base : Heap} {k : Nat} {f : Addr} {fd : FuncData} {ps : List Str} {sp : Sp} (F : FnOk P w K mg base CX0 k f fd ps sp) : FnOk P w K mg base (L2.CX P w) k f fd ps sp :=
  ⟨F.len, fun A outer s H args us vs Q E hr he hb hv hs => codeAny_mono (F.run A outer s H args us vs Q E hr he hb hv hs) fun r s' h => by
    cases r with
    | error e => exact False.elim h
    | ok fl => cases fl <;> exact h⟩
/-- the end of a call: a value, a new list of one's own, or an error without a field of the class named -/
inductive Ret where
  | val (r : Rep)
  | lst (l : List Rep)
def Ret.P (F0 H0 F H : Hp) : Ret → V → Prop
  | .val r, v => r.P F v
  | .lst l, v => ∃ p vs, v = .ref p ∧ H0 p = none ∧ F p = none ∧ H p = some (.lst vs) ∧ RL F l vs
/-- from the arguments' worth to the answer's -/
def Pr (F H : Hp) (res : Ret) (Q : VK) : Prop := ∀ v F' H', Gr F H F' H' → res.P F H F' H' v → Q v H'
def Pm {ι : Type} (pre : ι → Prop) (args : ι → List Rep) (res : ι → Ret) : Sp := fun vs H Q _ => ∃ (x : ι) (F : Hp), pre x ∧ Same F H ∧ RL F (args x) vs ∧ Pr F H (res x) Q
section
variable {X : Cx} {N : List Str} {sc : Scope} {k j : Nat} {Γ : List Sl} {a b c e : Expr} {es rest : List Expr} {r ra rb rc r' : Rep} {rs l : List Rep} {pos p : Pos} {x : Str}
variable {ι : Type} {pre : ι → Prop} {args : ι → List Rep} {res : ι → Ret}
def CA (X : Cx) (Γ : List Sl) (e : Expr) (ret : Ret) : Prop := ∀ F0 H0 F H σ, En F0 H0 F H σ Γ → ∀ Q : VK, (∀ v F' H' F1 H1, Gr F H F1 H1 → Gr F1 H1 F' H' → ret.P F1 H1 F' H' v → Q v H') → EV X e σ H Q
theorem ca_call (B : BX X N sc k) (C : Cal X.prog X.w X.K X.mg X.base j x (Pm pre args res)) (hk : j ≤ k) (g : ι) (hp : pre g) (ha : DA X Γ (e :: es) (args g)) (hg : sc.names.lookup x = some .globalImplicit)
    (hdb : (x == ("__debug__" : Str)) = false := by decide) (he : starEach (e :: es) X.env = (false, eval e X.env) :: starEach es X.env := by rfl) (hpl : (backTo pos (starEach es X.env)).any (·.1) = false := by rfl) :
    CA X Γ (.Call (.Name x p) (e :: es) [] pos) (res g) := fun F0 H0 F H σ en Q q => by
  obtain ⟨f, fd, ps, G, hm, kp, hb⟩ := C.ex
  have hgl : Gl X x := by
    show X.env.scope.names.lookup x = _
    rw [B.hsc]
    exact hg
  refine .of (pe_call (E := E0) G (B.room.mono hk) hgl hm kp hb .nil passL pa_ev hdb he hpl) ?_
  refine ha F0 H0 F H σ en _ fun vs F1 H1 g1 h1 => ?_
  show Pm pre args res (vs ++ []) H1 Q E0
  rw [List.append_nil]
  exact ⟨g, F1, hp, g1.s, h1, fun v F' H' g2 hv => q v F' H' F1 H1 g1 g2 hv⟩
theorem CA.val (h : CA X Γ e (.val r)) : DE X Γ e r := fun F0 H0 F H σ en Q q => h F0 H0 F H σ en Q fun v F' H' F1 H1 g1 g2 hv => q v F' H' (g1.trans g2) hv
theorem CA.lst (h : CA X Γ e (.lst l)) : DL X Γ e l := fun F0 H0 F H σ en Q q => h F0 H0 F H σ en Q fun v F' H' F1 H1 g1 g2 hv => by
  obtain ⟨p, vs, rfl, h1, h2, h3, h4⟩ := hv
  exact q p vs F' H' (g1.trans g2) (g1.h.free h1) h2 h3 h4

/-! ### built-ins by name -/
def CB (f : List V → Hp → VK → Prop) (rs : List Rep) (r : Rep) : Prop := ∀ F H vs, Same F H → RL F rs vs → ∀ Q : VK, (∀ v F' H', Gr F H F' H' → r.P F' v → Q v H') → f vs H Q
theorem de_blt {id : String} {f : List V → Hp → VK → Prop} (B : BX X N sc k) (hc : CallR X (.builtin id) f) (h2 : CB f rs r) (hm : X.mg x = none) (hv : bootBuiltins x = some (.builtin id)) (ha : DA X Γ (e :: es) rs) (hg : sc.names.lookup x = some .globalImplicit)
    (hn : x ≠ "__name__" := by decide) (hdb : (x == ("__debug__" : Str)) = false := by decide) (he : starEach (e :: es) X.env = (false, eval e X.env) :: starEach es X.env := by rfl) (hpl : (backTo pos (starEach es X.env)).any (·.1) = false := by rfl) :
    DE X Γ (.Call (.Name x p) (e :: es) [] pos) r := fun F0 H0 F H σ en Q q => by
  have hgl : Gl X x := by
    show X.env.scope.names.lookup x = _
    rw [B.hsc]
    exact hg
  exact .of (pe_callB hc hgl hm hv pa_ev hn hdb he hpl) (ha F0 H0 F H σ en _ fun vs F1 H1 g1 h1 => h2 F1 H1 vs g1.s h1 Q fun v F' H' g2 hv => q v F' H' (g1.trans g2) hv)
theorem de_bty {id : String} {f : List V → Hp → VK → Prop} (B : BX X N sc k) (hc : CallR X (.type id) f) (h2 : CB f rs r) (hm : X.mg x = none) (hv : bootBuiltins x = some (.type id)) (ha : DA X Γ (e :: es) rs) (hg : sc.names.lookup x = some .globalImplicit)
    (hn : x ≠ "__name__" := by decide) (hdb : (x == ("__debug__" : Str)) = false := by decide) (he : starEach (e :: es) X.env = (false, eval e X.env) :: starEach es X.env := by rfl) (hpl : (backTo pos (starEach es X.env)).any (·.1) = false := by rfl) :
    DE X Γ (.Call (.Name x p) (e :: es) [] pos) r := fun F0 H0 F H σ en Q q => by
  have hgl : Gl X x := by
    show X.env.scope.names.lookup x = _
    rw [B.hsc]
    exact hg
  exact .of (pe_callTy hc hgl hm hv pa_ev hn hdb he hpl) (ha F0 H0 F H σ en _ fun vs F1 H1 g1 h1 => h2 F1 H1 vs g1.s h1 Q fun v F' H' g2 hv => q v F' H' (g1.trans g2) hv)
/-- a built-in function under a module's own name (from math import ..) -/
theorem de_bfun {id : String} {f : List V → Hp → VK → Prop} (B : BX X N sc k) (hc : CallR X (.builtin id) f) (h2 : CB f rs r) (hm : X.mg x = some (.builtin id)) (ha : DA X Γ (e :: es) rs) (hg : sc.names.lookup x = some .globalImplicit)
    (hdb : (x == ("__debug__" : Str)) = false := by decide) (he : starEach (e :: es) X.env = (false, eval e X.env) :: starEach es X.env := by rfl) (hpl : (backTo pos (starEach es X.env)).any (·.1) = false := by rfl) :
    DE X Γ (.Call (.Name x p) (e :: es) [] pos) r := fun F0 H0 F H σ en Q q => by
  have hgl : Gl X x := by
    show X.env.scope.names.lookup x = _
    rw [B.hsc]
    exact hg
  exact .of (pe_callBfun hc hgl hm pa_ev hdb he hpl) (ha F0 H0 F H σ en _ fun vs F1 H1 g1 h1 => h2 F1 H1 vs g1.s h1 Q fun v F' H' g2 hv => q v F' H' (g1.trans g2) hv)
theorem rl1 {F : Hp} {r : Rep} {vs : List V} (h : RL F [r] vs) : ∃ v, vs = [v] ∧ r.P F v := by
  cases h with
  | cons a t => cases t; exact ⟨_, rfl, a⟩
theorem rl2 {F : Hp} {r s : Rep} {vs : List V} (h : RL F [r, s] vs) : ∃ v w, vs = [v, w] ∧ r.P F v ∧ s.P F w := by
  cases h with
  | cons a t =>
    obtain ⟨w, rfl, b⟩ := rl1 t
    exact ⟨_, _, rfl, a, b⟩

/-- a name that the body may store -/
def LocX (X : Cx) (sc : Scope) (x : Str) : Prop := sc.names.lookup x = some .local ∨ (sc.names.lookup x = some .cell ∧ X.fn x = true)
/-! ### statements -/
def GO (X : Cx) (F0 H0 : Hp) (st : List Stmt) (D : Ends) (Γ : List Sl) : Prop := ∀ F H σ, En F0 H0 F H σ Γ → XS X st D σ H
variable {F0 H0 : Hp} {st body orelse : List Stmt} {D : Ends} {i : Nat} {tpos : Pos}
theorem go_nil (h : ∀ F H σ, En F0 H0 F H σ Γ → D.nx σ H) : GO X F0 H0 [] D Γ := fun F H σ en => .of pss_nil (h F H σ en)
theorem go_then (h : GO X F0 H0 st D Γ) : GO X F0 H0 [] { D with nx := XS X st D } Γ := go_nil fun F H σ en => h F H σ en
theorem go_set (B : BX X N sc k) (he : DE X Γ e r) (hN : N[i]? = some x) (hx : LocX X sc x) (h : GO X F0 H0 st D (Γ.set i (.im r))) (hs : swapsWith e (some (.Name x tpos)) pos.line X.env = pure false := by rfl) :
    GO X F0 H0 (.Assign [.Name x tpos] e pos :: st) D Γ := fun F H σ en => by
  have hf : X.fn x = true ∨ X.env.scope.names.lookup x = some .local := by
    rcases hx with hx | hx
    · exact .inr (by rw [B.hsc]; exact hx)
    · exact .inl hx.2
  have hx : Loc sc x := hx.elim .inl fun z => .inr z.1
  refine .of (pss_cons (ps_set (i := i) (by rw [B.hN]; exact B.nd) (by rw [B.hN]; exact hN) (by rw [B.hsc]; exact hx) pe_ev hs hf) pss_ev) ?_
  exact he F0 H0 F H σ en _ fun v F' H' g hv => h F' H' _ ((en.grow g).setIm hv)
theorem go_setL (B : BX X N sc k) (he : DL X Γ e l) (hN : N[i]? = some x) (hx : LocX X sc x) (h : GO X F0 H0 st D (Γ.set i (.ow l))) (hs : swapsWith e (some (.Name x tpos)) pos.line X.env = pure false := by rfl) :
    GO X F0 H0 (.Assign [.Name x tpos] e pos :: st) D Γ := fun F H σ en => by
  have hf : X.fn x = true ∨ X.env.scope.names.lookup x = some .local := by
    rcases hx with hx | hx
    · exact .inr (by rw [B.hsc]; exact hx)
    · exact .inl hx.2
  have hx : Loc sc x := hx.elim .inl fun z => .inr z.1
  refine .of (pss_cons (ps_set (i := i) (by rw [B.hN]; exact B.nd) (by rw [B.hN]; exact hN) (by rw [B.hsc]; exact hx) pe_ev hs hf) pss_ev) ?_
  refine he F0 H0 F H σ en _ fun p vs F' H' g h1 h2 h3 h4 => h F' H' _ ((en.grow g).setOw h2 h3 h4 (en.gr.h.free h1) fun j l' k1 k2 => ?_)
  obtain ⟨p', vs', a1, a2, a3, a4, a5⟩ := en.ow k1
  rw [a1] at k2
  have e2 : p' = p := V.ref.inj (Option.some.inj (Option.some.inj k2))
  rw [e2, h1] at a3
  cases a3
theorem go_expr (he : DE X Γ e r) (h : GO X F0 H0 st D Γ) (hs : swapsWith e none pos.line X.env = pure false := by rfl) : GO X F0 H0 (.Expr e pos :: st) D Γ := fun F H σ en =>
  .of (pss_cons (ps_expr pe_ev hs) pss_ev) (he F0 H0 F H σ en _ fun v F' H' g _ => h F' H' σ (en.grow g))
theorem go_if {t : Bool} (hc : DT X Γ c t) (h1 : t = true → GO X F0 H0 body { D with nx := XS X st D } Γ) (h2 : t = false → GO X F0 H0 orelse { D with nx := XS X st D } Γ) : GO X F0 H0 (.If c body orelse pos :: st) D Γ := fun F H σ en =>
  .of (pss_cons (ps_if pt_ev pss_ev pss_ev) pss_ev) (hc F0 H0 F H σ en _ fun F' H' g => by
    cases t with
    | true => rw [if_pos rfl]; exact h1 rfl F' H' σ (en.grow g)
    | false => rw [if_neg Bool.false_ne_true]; exact h2 rfl F' H' σ (en.grow g))
/-- what a return gives -/
def RT (F0 H0 : Hp) (ret : Ret) (D : Ends) : Prop := ∀ v F' H', Gr F0 H0 F' H' → ret.P F0 H0 F' H' v → D.rt v H'
theorem go_ret (R : RT F0 H0 (.val r') D) (he : DE X Γ e r) (hs : Sub r r') : GO X F0 H0 (.Return (some e) pos :: st) D Γ := fun F H σ en =>
  .of (pss_cons (ps_ret pe_ev) (pss_ev (st := st))) (he F0 H0 F H σ en _ fun v F' H' g hv => R v F' H' (en.gr.trans g) (hs F' v hv))
theorem go_retL {l' : List Rep} (R : RT F0 H0 (.lst l') D) (he : DL X Γ e l) (hs : l = l') : GO X F0 H0 (.Return (some e) pos :: st) D Γ := fun F H σ en =>
  .of (pss_cons (ps_ret pe_ev) (pss_ev (st := st))) (he F0 H0 F H σ en _ fun p vs F' H' g h1 h2 h3 h4 => R _ F' H' (en.gr.trans g) ⟨p, vs, rfl, en.gr.h.free h1, h2, h3, hs ▸ h4⟩)
/-- return of a list of one's own by its name -/
theorem go_retV {l' : List Rep} (B : BX X N sc k) (R : RT F0 H0 (.lst l') D) (hΓ : Γ[i]? = some (.ow l)) (hs : l = l') (hN : N[i]? = some x) (hv : Vis sc x) (hd : (x == ("__debug__" : Str)) = false := by decide) (hcd : (x == ("__classdict__" : Str)) = false := by decide) :
    GO X F0 H0 (.Return (some (.Name x p)) pos :: st) D Γ := fun F H σ en => by
  obtain ⟨q, vs, h1, h2, h3, h4, h5⟩ := en.ow hΓ
  exact .of (pss_cons (ps_ret (pe_var (i := i) (B.hN ▸ hN) (B.hsc ▸ hv) hd hcd)) (pss_ev (st := st))) ⟨_, h1, R _ F H en.gr ⟨q, vs, rfl, h5, h2, h3, hs ▸ h4⟩⟩
theorem go_break (h : ∀ F H σ, En F0 H0 F H σ Γ → D.bk σ H) : GO X F0 H0 (.Break pos :: st) D Γ := fun F H σ en => .of (pss_cons ps_break (pss_ev (st := st))) (h F H σ en)
/-- a list of one's own stands still from here on -/
theorem go_froz (i : Nat) (hΓ : Γ[i]? = some (.ow l)) (h : GO X F0 H0 st D (Γ.set i (.im (rLst X.K l)))) : GO X F0 H0 st D Γ := fun F H σ en => by
  obtain ⟨F', s1, s2, en'⟩ := en.freeze (K := X.K) hΓ
  exact h F' H σ en'
/-- x.append(e), x a list of one's own -/
theorem go_append {apos ps2 : Pos} (B : BX X N sc k) (hΓ : Γ[i]? = some (.ow l)) (he : DE X Γ e r) (hl : l.length < sizeLine) (hN : N[i]? = some x) (hv : Vis sc x) (h : GO X F0 H0 st D (Γ.set i (.ow (l ++ [r]))))
    (hd : (x == ("__debug__" : Str)) = false := by decide) (hcd : (x == ("__classdict__" : Str)) = false := by decide)
    (hbase : attributeBase (.Name x p) "append" X.env (eval (.Name x p) X.env) = eval (.Name x p) X.env := by rfl)
    (hfew : ((backTo pos (starEach (e :: []) X.env)).all (fun x => !x.1) && (backToKw pos (keywordEach [] X.env)).all (fun x => x.1.isSome)
      && decide ((e :: []).length + ([] : List Keyword).length + (if ([] : List Keyword).isEmpty then 0 else 1) < 30)) = true := by rfl)
    (hline : (apos.endLine == pos.line) = true := by rfl) (hs : starEach (e :: []) X.env = (false, eval e X.env) :: starEach [] X.env := by rfl) (hplain : (backTo pos (starEach [] X.env)).any (·.1) = false := by rfl)
    (hsw : swapsWith (.Call (.Attribute (.Name x p) "append" apos) [e] [] pos) none ps2.line X.env = pure false := by rfl) :
    GO X F0 H0 (.Expr (.Call (.Attribute (.Name x p) "append" apos) [e] [] pos) ps2 :: st) D Γ := fun F H σ en => by
  obtain ⟨q, vs, h1, h2, h3, h4, h5⟩ := en.ow hΓ
  refine .of (pss_cons (ps_expr (pe_bm PySem.F.plainAttrs_list PySem.F.slot_list_append PySem.F.type_list_append mt_append (pe_var (i := i) (B.hN ▸ hN) (B.hsc ▸ hv) hd hcd) (pa_cons pe_ev pa_nil hs) hbase hfew hline hs hplain) hsw) pss_ev) ?_
  refine ⟨.ref q, h1, .inl ⟨rfl, vs, SqL.of h3⟩, ?_⟩
  refine he F0 H0 F H σ en _ fun v F' H' g hv => ?_
  have en' := en.grow g
  refine ⟨q, vs, v, rfl, rfl, g.h _ _ h3, by rw [← h4.len]; exact hl, ?_⟩
  exact h F' _ σ (en'.put hΓ h1 ((h4.mono g.f).snoc hv))
end

/-! ### a def keeps its promise -/
/-- the def st, under the name x -/
structure TD (K : PySem.W.Frag) (mg : Str → Option Value) (x : Str) (st : Stmt) : Prop where
  ex : ∃ f fd, Fun K x x st f fd ∧ mg x = some (.ref f)
theorem en_start {F H : Hp} {N : List Str} {rs : List Rep} {vs : List V} (s : Same F H) (h : RL F rs vs) (hl : rs.length ≤ N.length) : En F H F H (L2.start N vs) (rs.map Sl.im ++ List.replicate (N.length - rs.length) .any) where
  gr := .refl s
  len := by
    unfold L2.start
    have := h.len
    simp
    omega
  ok i t x h1 h2 := by
    have hlen := h.len
    by_cases hi : i < rs.length
    · rw [List.getElem?_append_left (by simpa using hi), List.getElem?_map] at h1
      unfold L2.start at h2
      rw [List.getElem?_append_left (by simp; omega), List.getElem?_map] at h2
      cases e : rs[i]? with
      | none => rw [e] at h1; cases h1
      | some r =>
        rw [e] at h1
        cases h1
        obtain ⟨v, k1, k2⟩ := h.get e
        rw [k1] at h2
        cases h2
        exact ⟨v, rfl, k2⟩
    · rw [List.getElem?_append_right (by simpa using hi), List.getElem?_replicate] at h1
      split at h1
      · cases h1
        trivial
      · cases h1
  own i p l h1 h2 := by
    by_cases hi : i < rs.length
    · rw [List.getElem?_append_left (by simpa using hi), List.getElem?_map] at h1
      cases e : rs[i]? with
      | none => rw [e] at h1; cases h1
      | some r => rw [e] at h1; cases h1
    · rw [List.getElem?_append_right (by simpa using hi), List.getElem?_replicate] at h1
      split at h1 <;> cases h1
  sep i j p l l' h1 := by
    by_cases hi : i < rs.length
    · rw [List.getElem?_append_left (by simpa using hi), List.getElem?_map] at h1
      cases e : rs[i]? with
      | none => rw [e] at h1; cases h1
      | some r => rw [e] at h1; cases h1
    · rw [List.getElem?_append_right (by simpa using hi), List.getElem?_replicate] at h1
      split at h1 <;> cases h1
section
variable {P : Program} {w : World} {K : PySem.W.Frag} {mg : Str → Option Value} {base : Heap} {k : Nat} {x : Str} {st : Stmt} {N ps : List Str} {ι : Type} {pre : ι → Prop} {args : ι → List Rep} {res : ι → Ret}
/-- a def that raises nothing -/
theorem cal_ok (T : TD K mg x st) (S : FnScope N ps (defScope st)) (hn : ∀ g, (args g).length = ps.length)
    (hb : ∀ (kV doc pm : Value) (an : Option Addr) (cdv ct : Value) (us : List Value), us.length = ps.length → bindArgs (PySem.W.fnOf x x (defArgs st) (defBody st) (defScope st) .none kV doc pm an cdv ct) ⟨us, []⟩ = pure (ps.zip us))
    (body : ∀ (X : Cx), X.prog = P → X.w = w → X.K = K → X.mg = mg → X.base = base → BX X N (defScope st) k → (∀ x : Str, X.fn x = true) → ∀ (g : ι) (F0 H0 : Hp) (D : Ends), pre g → RT F0 H0 (res g) D → (∀ σ H', D.nx σ H' = D.rt .non H') →
      GO X F0 H0 (defBody st) D ((args g).map Sl.im ++ List.replicate (N.length - ps.length) .any)) : Cal P w K mg base (k + 1) x (Pm pre args res) := by
  obtain ⟨f, fd, F, hm⟩ := T.ex
  refine ⟨f, fd, ps, ?_, hm, F.kp, F.binds hb⟩
  refine FnOk.wide (F.ok S (fun vs H Q E h => ?_) (fun cdv A outer s H vs Q E hr h => ?_))
  · obtain ⟨g, F1, _, _, h1, _⟩ := h
    rw [← h1.len, hn]
  · obtain ⟨g, F1, hp, hs, h1, q⟩ := h
    refine ⟨_, pss_ev, ?_⟩
    have hpl : ps.length ≤ N.length := by have := congrArg List.length S.pre; rw [List.length_take] at this; omega
    have en := en_start (N := N) hs h1 (by rw [hn]; exact hpl)
    rw [hn] at en
    exact body _ rfl rfl rfl rfl rfl ⟨rfl, rfl, S.nd, hr, rfl, PassesOwn.never⟩ (fun _ => rfl) g F1 H { nx := fun _ H' => Q .non H', rt := Q } hp q (fun _ _ => rfl) F1 H _ en
end
end DL

set_option Elab.async false
set_option linter.all false
set_option maxRecDepth 100000
set_option maxHeartbeats 4000000
namespace DL
open PySem PySem.Spec PyProof.Rows L2

/-! ### targets -/
def GV (X : Cx) (tg : Expr) (v : V) (σ : L2.St) (H : Hp) (Q : L2.St → Hp → Prop) : Prop := ∀ (pins : List (Addr × Obj)) (s : Shared) (u : Value), Inv X pins σ H s → RelV v u → wpAny (model X.prog X.w) X.A (assign tg X.env u) (fun _ s' => ∃ σ' H', Inv X pins σ' H' s' ∧ Q σ' H') X.xe s
theorem pg_ev {X : Cx} {tg : Expr} : PG X tg (GV X tg) := ⟨fun pins s σ H v u Q I r h => h pins s u I r⟩
theorem GV.of {X : Cx} {tg : Expr} {t : TG} {v : V} {σ : L2.St} {H : Hp} {Q : L2.St → Hp → Prop} (h : PG X tg t) (q : t v σ H Q) : GV X tg v σ H Q := fun pins s u I r => h.run pins s σ H v u Q I r q
def GVs (X : Cx) (ts : List Expr) (vs : List V) (σ : L2.St) (H : Hp) (Q : L2.St → Hp → Prop) : Prop := ∀ (pins : List (Addr × Obj)) (s : Shared) (us : List Value), Inv X pins σ H s → Vals vs us → wpAny (model X.prog X.w) X.A (assignInOrder ((assignEach ts X.env).map (·.2)) us) (fun _ s' => ∃ σ' H', Inv X pins σ' H' s' ∧ Q σ' H') X.xe s
/-- two states of the slots that part at ws alone -/
def Off (ws : List Nat) (σ σ' : L2.St) : Prop := ∀ us : List Nat, (∀ i ∈ ws, i ∈ us) → wipe σ' us = wipe σ us
theorem wipe_get : ∀ (us : List Nat) (σ : L2.St) (j : Nat), (wipe σ us)[j]? = if j ∈ us ∧ j < σ.length then some none else σ[j]?
  | [], σ, j => by simp [wipe]
  | u :: us, σ, j => by
    unfold wipe
    by_cases h : u = j
    · subst h
      by_cases hl : u < σ.length
      · rw [List.getElem?_set_self (by rw [wipe_length]; exact hl), if_pos ⟨List.mem_cons_self, hl⟩]
      · rw [List.getElem?_eq_none (by rw [List.length_set, wipe_length]; omega), if_neg (fun z => hl z.2), List.getElem?_eq_none (by omega)]
    · rw [List.getElem?_set_ne h, wipe_get us σ j]
      by_cases hm : j ∈ us ∧ j < σ.length
      · rw [if_pos hm, if_pos ⟨List.mem_cons_of_mem _ hm.1, hm.2⟩]
      · rw [if_neg hm, if_neg]
        rintro ⟨z, z2⟩
        rcases List.mem_cons.mp z with z | z
        · exact h z.symm
        · exact hm ⟨z, z2⟩
theorem off_set {σ : L2.St} {i : Nat} {x : Option V} : Off [i] σ (σ.set i x) := fun us h => by
  apply List.ext_getElem?
  intro j
  rw [wipe_get, wipe_get, List.length_set]
  by_cases hj : j ∈ us ∧ j < σ.length
  · rw [if_pos hj, if_pos hj]
  · rw [if_neg hj, if_neg hj]
    by_cases hi : i = j
    · subst hi
      have : ¬ i < σ.length := fun z => hj ⟨h i (by simp), z⟩
      rw [List.getElem?_eq_none (by simpa using this), List.getElem?_eq_none (by omega)]
    · rw [List.getElem?_set_ne hi]
theorem Off.trans {a b : List Nat} {σ σ1 σ2 : L2.St} (h : Off a σ σ1) (k : Off b σ1 σ2) : Off (a ++ b) σ σ2 := fun us z =>
  (k us fun i hi => z i (List.mem_append_right _ hi)).trans (h us fun i hi => z i (List.mem_append_left _ hi))
def DG (X : Cx) (Γ : List Sl) (tg : Expr) (r : Rep) (Γ' : List Sl) (ws : List Nat) : Prop := ∀ F0 H0 F H σ v, En F0 H0 F H σ Γ → r.P F v → ∀ Q : L2.St → Hp → Prop, (∀ F' H' σ', Gr F H F' H' → En F0 H0 F' H' σ' Γ' → Off ws σ σ' → Q σ' H') → GV X tg v σ H Q
def DGs (X : Cx) (Γ : List Sl) (ts : List Expr) (rs : List Rep) (Γ' : List Sl) (ws : List Nat) : Prop := ∀ F0 H0 F H σ vs, En F0 H0 F H σ Γ → RL F rs vs → ∀ Q : L2.St → Hp → Prop, (∀ F' H' σ', Gr F H F' H' → En F0 H0 F' H' σ' Γ' → Off ws σ σ' → Q σ' H') → GVs X ts vs σ H Q
section
variable {X : Cx} {N : List Str} {sc : Scope} {k j : Nat} {Γ Γ' Γ1 : List Sl} {a b c e : Expr} {es rest : List Expr} {r ra rb rc r' : Rep} {rs l : List Rep} {pos p : Pos} {x : Str} {i : Nat} {ws ws' : List Nat}
theorem dg_name (B : BX X N sc k) (hN : N[i]? = some x) (hx : LocX X sc x) : DG X Γ (.Name x pos) r (Γ.set i (.im r)) [i] := fun F0 H0 F H σ v en hv Q q => by
  have hf : X.fn x = true ∨ X.env.scope.names.lookup x = some .local := by
    rcases hx with hx | hx
    · exact .inr (by rw [B.hsc]; exact hx)
    · exact .inl hx.2
  have hx : Loc sc x := hx.elim .inl fun z => .inr z.1
  exact .of (pg_name (i := i) (by rw [B.hN]; exact B.nd) (by rw [B.hN]; exact hN) (by rw [B.hsc]; exact hx) hf) (q F H _ (.refl en.gr.s) (en.setIm hv) off_set)
theorem dgs_nil : DGs X Γ [] [] Γ [] := fun F0 H0 F H σ vs en hv Q q pins s us I r => by
  cases hv
  cases r
  exact assignInOrder_nil ⟨σ, H, I, q F H σ (.refl en.gr.s) en fun _ _ => rfl⟩
theorem dgs_cons (h1 : DG X Γ e r Γ1 ws) (h2 : DGs X Γ1 es rs Γ' ws') (hs : (assignEach (e :: es) X.env).map (·.2) = assign e X.env :: (assignEach es X.env).map (·.2) := by rfl) : DGs X Γ (e :: es) (r :: rs) Γ' (ws ++ ws') := fun F0 H0 F H σ vs en hv Q q pins s us I rr => by
  cases hv with
  | cons v1 vt =>
    cases rr with
    | cons r1 rt =>
      rw [hs]
      refine assignInOrder_cons (thn (h1 F0 H0 F H σ _ en v1 (fun σ1 H1 => ∃ F1, Gr F H F1 H1 ∧ En F0 H0 F1 H1 σ1 Γ1 ∧ Off ws σ σ1) (fun F' H' σ' g en' o => ⟨F', g, en', o⟩) pins s _ I r1) fun _ s1 ⟨σ1, H1, I1, F1, g1, en1, o1⟩ => ?_)
      exact h2 F0 H0 F1 H1 σ1 _ en1 (RL.mono g1.f vt) Q (fun F' H' σ' g en' o => q F' H' σ' (g1.trans g) en' (o1.trans o)) pins s1 _ I1 rt
theorem dg_tup {n : Nat} (B : BX X N sc k) (h : DGs X Γ es rs Γ' ws) (hn : (assignEach es X.env).length = n := by rfl) (hl : rs.length = n := by rfl) (hst : (assignEach es X.env).findIdx? (·.1) = none := by rfl) : DG X Γ (.Tuple es j pos) (rTup X.K rs) Γ' ws := fun F0 H0 F H σ v en hv Q q => by
  obtain ⟨p, vs, rfl, h1, h2⟩ := hv
  refine .of (pg_tup (n := n) (t := GVs X es) B.calm ⟨fun pins s σ H vs us Q I r h => h pins s us I r⟩ hn hst) ?_
  exact ⟨p, vs, rfl, sqt_mono en.gr.s h1, by rw [← h2.len]; exact hl, h F0 H0 F H σ vs en h2 Q q⟩
end
/-! ### what a for or a comprehension walks -/
def IV (X : Cx) (tg it : Expr) (σ : L2.St) (H : Hp) (R : It → Hp → Prop) : Prop := ∀ (pins : List (Addr × Obj)) (s : Shared), Inv X pins σ H s → wpAny (model X.prog X.w) X.A (eval it X.env) (fun v s1 => wpAny (model X.prog X.w) X.A (pyIter v) (PIE X pins σ tg R) X.xe s1) X.xe s
theorem pi_ev {X : Cx} {tg it : Expr} : PI X tg it (IV X tg it) := ⟨fun pins s σ H R I h => h pins s I⟩
theorem IV.of {X : Cx} {tg it : Expr} {wi : TI} {σ : L2.St} {H : Hp} {R : It → Hp → Prop} (h : PI X tg it wi) (q : wi σ H R) : IV X tg it σ H R := fun pins s I => h.run pins s σ H R I q
/-- n turns, the i-th brings what is worth rr i -/
structure Wk (J : It) (F1 H1 : Hp) (n : Nat) (rr : Nat → Rep) : Prop where
  stop : ∀ i H, Same F1 H → n ≤ i → J.stop i H
  go : ∀ i H, Same F1 H → i < n → J.go i H
  yld : ∀ i F H x H', Same F1 F → Same F H → i < n → J.yld i H x H' → ∃ F', Gr F H F' H' ∧ (rr i).P F' x
def SR (X : Cx) (Γ : List Sl) (tg it : Expr) (n : Nat) (rr : Nat → Rep) : Prop := ∀ F0 H0 F H σ, En F0 H0 F H σ Γ → ∀ R : It → Hp → Prop, (∀ J F1 H1, Gr F H F1 H1 → Wk J F1 H1 n rr → R J H1) → IV X tg it σ H R
section
variable {X : Cx} {N : List Str} {sc : Scope} {k j : Nat} {Γ Γ' Γ1 : List Sl} {tg it it2 a b c e : Expr} {es rest : List Expr} {r ra rb rc r' : Rep} {rs l l2 : List Rep} {pos p : Pos} {x : Str} {i : Nat} {ws ws' : List Nat}
theorem sr_list (h : DE X Γ it (rLst X.K l)) : SR X Γ tg it l.length (fun i => l.getD i rNon) := fun F0 H0 F H σ en R q =>
  .of (pi_list pe_ev) (h F0 H0 F H σ en _ fun v F1 H1 g hv => by
    obtain ⟨p, vs, rfl, hs, hl⟩ := hv
    refine ⟨p, rfl, ⟨vs, g.s.seq hs⟩, q _ F1 H1 g ⟨fun i H2 s hi => ⟨vs, s.seq hs, by rw [← hl.len]; exact hi⟩, fun i H2 s hi => ?_, fun i F2 H2 x H' s s2 hi hy => ?_⟩⟩
    · have hi' : i < vs.length := hl.len ▸ hi
      exact ⟨vs, vs[i], s.seq hs, List.getElem?_eq_getElem hi'⟩
    · obtain ⟨rfl, hx⟩ := hy
      have hx' := hx vs (s2.seq (s.seq hs))
      obtain ⟨r, e, hr⟩ := hl.got hx'
      refine ⟨F2, .refl s2, ?_⟩
      show (l.getD i rNon).P F2 x
      rw [List.getD_eq_getElem?_getD, e]
      exact r.mono s hr)
theorem sr_range1 {n : Int} (B : BX X N sc k) (hm : X.mg "range" = none) (h : DE X Γ a (rInt n)) (hg : sc.names.lookup ("range" : Str) = some NameKind.globalImplicit) (hb : n < 2 ^ 62) (hb2 : -(2 ^ 62) ≤ n) (hs : starEach [a] X.env = [(false, eval a X.env)] := by rfl) :
    SR X Γ tg (.Call (.Name "range" p) [a] [] pos) n.toNat (fun i => rInt (i : Nat)) := fun F0 H0 F H σ en R q => by
  have hgl : Gl X "range" := by
    show X.env.scope.names.lookup _ = _
    rw [B.hsc]
    exact hg
  refine .of (pi_range1 hgl hm (pa_cons pe_ev pa_nil hs) hs) (h F0 H0 F H σ en _ fun v F1 H1 g hv => ?_)
  cases hv
  refine ⟨n, rfl, hb2, hb, q _ F1 H1 g ⟨fun i H2 s hi => hi, fun i H2 s hi => hi, fun i F2 H2 x H' s s2 hi hy => ?_⟩⟩
  obtain ⟨rfl, rfl⟩ := hy
  exact ⟨F2, .refl s2, by show V.int _ = V.int _; rw [Int.zero_add]⟩
theorem sr_range2 {m n : Int} (B : BX X N sc k) (hm : X.mg "range" = none) (h : DE X Γ a (rInt m)) (h2 : DE X Γ b (rInt n)) (hg : sc.names.lookup ("range" : Str) = some NameKind.globalImplicit) (hb : -(2 ^ 62) ≤ m ∧ m < 2 ^ 62 ∧ -(2 ^ 62) ≤ n ∧ n < 2 ^ 62)
    (hs : starEach [a, b] X.env = [(false, eval a X.env), (false, eval b X.env)] := by rfl) (hs2 : starEach [b] X.env = [(false, eval b X.env)] := by rfl) (hs3 : starEach [a, b] X.env = (false, eval a X.env) :: starEach [b] X.env := by rfl) :
    SR X Γ tg (.Call (.Name "range" p) [a, b] [] pos) (n - m).toNat (fun i => rInt (m + (i : Nat))) := fun F0 H0 F H σ en R q => by
  have hgl : Gl X "range" := by
    show X.env.scope.names.lookup _ = _
    rw [B.hsc]
    exact hg
  refine .of (pi_range2 hgl hm (pa_cons pe_ev (pa_cons pe_ev pa_nil hs2) hs3) hs hs2) (h F0 H0 F H σ en _ fun v F1 H1 g hv => h2 F0 H0 F1 H1 σ (en.grow g) _ fun v2 F3 H3 g3 hv2 => ?_)
  cases hv
  cases hv2
  refine ⟨m, n, rfl, hb, q _ F3 H3 (g.trans g3) ⟨fun i H2 s hi => hi, fun i H2 s hi => hi, fun i F2 H2 x H' s s2 hi hy => ?_⟩⟩
  obtain ⟨rfl, rfl⟩ := hy
  exact ⟨F2, .refl s2, rfl⟩
theorem sr_zip {jj : Nat} {tpos : Pos} (B : BX X N sc k) (hm : X.mg "zip" = none) (h : DE X Γ it (rLst X.K l)) (h2 : DE X Γ it2 (rLst X.K l2)) (hg : sc.names.lookup ("zip" : Str) = some NameKind.globalImplicit)
    (hs : starEach [it, it2] X.env = (false, eval it X.env) :: starEach [it2] X.env := by rfl) (hs2 : starEach [it2] X.env = (false, eval it2 X.env) :: starEach [] X.env := by rfl) (hpl : (backTo pos (starEach [it2] X.env)).any (·.1) = false := by rfl) :
    SR X Γ (.Tuple es jj tpos) (.Call (.Name "zip" p) [it, it2] [] pos) (min l.length l2.length) (fun i => rTup X.K [l.getD i rNon, l2.getD i rNon]) := fun F0 H0 F H σ en R q => by
  have hgl : Gl X "zip" := by
    show X.env.scope.names.lookup _ = _
    rw [B.hsc]
    exact hg
  refine .of (pi_zip hgl hm (pa_cons pe_ev (pa_cons pe_ev pa_nil hs2) hs) hs hpl) (h F0 H0 F H σ en _ fun v F1 H1 g hv => h2 F0 H0 F1 H1 σ (en.grow g) _ fun v2 F3 H3 g3 hv2 => ?_)
  obtain ⟨p, vs, rfl, hsq, hl⟩ := hv
  obtain ⟨p2, vs2, rfl, hsq2, hl2⟩ := hv2
  have hsq := g3.f.seq hsq
  have hl := hl.mono g3.f
  refine ⟨p, p2, vs, vs2, rfl, g3.s.seq hsq, g3.s.seq hsq2, q _ F3 H3 (g.trans g3) ⟨fun i H2 s hi => ⟨vs, vs2, s.seq hsq, s.seq hsq2, ?_⟩, fun i H2 s hi => ?_, fun i F2 H2 x H' s s2 hi hy => ?_⟩⟩
  · rw [← hl.len, ← hl2.len]
    omega
  · have h3 := hl.len
    have h4 := hl2.len
    have i1 : i < vs.length := by omega
    have i2 : i < vs2.length := by omega
    exact ⟨vs, vs2, vs[i], vs2[i], s.seq hsq, s.seq hsq2, List.getElem?_eq_getElem i1, List.getElem?_eq_getElem i2⟩
  · obtain ⟨T, y, z, rfl, nT, rfl, f1, f2⟩ := hy
    obtain ⟨r1, e1, k1⟩ := hl.got (f1 vs (s2.seq (s.seq hsq)))
    obtain ⟨r2, e2, k2⟩ := hl2.got (f2 vs2 (s2.seq (s.seq hsq2)))
    refine ⟨_, .new s2 nT, T, [y, z], rfl, SqT.of upd_same, ?_⟩
    have sn : Same F2 (upd F2 T (.tup [y, z])) := same_new (s2.free nT)
    rw [List.getD_eq_getElem?_getD, List.getD_eq_getElem?_getD, e1, e2]
    exact .cons (r1.mono (s.trans sn) k1) (.cons (r2.mono (s.trans sn) k2) .nil)
theorem sr_enum {jj : Nat} {tpos : Pos} (B : BX X N sc k) (hm : X.mg "enumerate" = none) (h : DE X Γ it (rLst X.K l)) (hg : sc.names.lookup ("enumerate" : Str) = some NameKind.globalImplicit) (hs : starEach [it] X.env = [(false, eval it X.env)] := by rfl) :
    SR X Γ (.Tuple es jj tpos) (.Call (.Name "enumerate" p) [it] [] pos) l.length (fun i => rTup X.K [rInt (i : Nat), l.getD i rNon]) := fun F0 H0 F H σ en R q => by
  have hgl : Gl X "enumerate" := by
    show X.env.scope.names.lookup _ = _
    rw [B.hsc]
    exact hg
  refine .of (pi_enum hgl hm (pa_cons pe_ev pa_nil hs) hs) (h F0 H0 F H σ en _ fun v F1 H1 g hv => ?_)
  obtain ⟨p, vs, rfl, hsq, hl⟩ := hv
  refine ⟨p, vs, rfl, g.s.seq hsq, q _ F1 H1 g ⟨fun i H2 s hi => ⟨vs, s.seq hsq, ?_⟩, fun i H2 s hi => ?_, fun i F2 H2 x H' s s2 hi hy => ?_⟩⟩
  · rw [← hl.len]
    exact hi
  · have i1 : i < vs.length := hl.len ▸ hi
    exact ⟨vs, vs[i], s.seq hsq, List.getElem?_eq_getElem i1⟩
  · obtain ⟨T, y, rfl, nT, rfl, f1⟩ := hy
    obtain ⟨r1, e1, k1⟩ := hl.got (f1 vs (s2.seq (s.seq hsq)))
    refine ⟨_, .new s2 nT, T, _, rfl, SqT.of upd_same, ?_⟩
    have sn : Same F2 (upd F2 T (.tup [.int (i : Nat), y])) := same_new (s2.free nT)
    rw [List.getD_eq_getElem?_getD, e1]
    exact .cons rfl (.cons (r1.mono (s.trans sn) k1) .nil)

/-! ### for -/
structure Up (F0 F1 H0 : Hp) : Prop where
  up : ∀ F H, Gr F1 H0 F H → Gr F0 H0 F H
variable {F0 H0 F1 F H : Hp} {σ : L2.St} {st body : List Stmt} {D : Ends} {n : Nat} {rr : Nat → Rep}
theorem Up.en (u : Up F0 F1 H0) (en : En F1 H0 F H σ Γ) : En F0 H0 F H σ Γ := ⟨u.up _ _ en.gr, en.len, en.ok, en.own, en.sep⟩
theorem Up.rt {ret : Ret} (u : Up F0 F1 H0) (h : RT F0 H0 ret D) : RT F1 H0 ret D := fun v F' H' g hv => h v F' H' (u.up _ _ g) (by
  cases ret with
  | val r => exact hv
  | lst l => exact hv)
/-- what is wanted behind a turn -/
def LN (F1 H0 : Hp) (Iv : Nat → List Sl → Prop) (j : Nat) : L2.St → Hp → Prop := fun σ H => ∃ F Γ, En F1 H0 F H σ Γ ∧ Iv j Γ
theorem go_brk (u : Up F0 F1 H0) {D0 : Ends} (h : GO X F0 H0 body D0 Γ) (e : D.bk = XS X body D0 := by rfl) : GO X F1 H0 (.Break pos :: st) D Γ := go_break fun F H σ en => by rw [e]; exact h F H σ (u.en en)
theorem go_for {ws : List Nat} (B : BX X N sc k) (Iv : Nat → List Sl → Prop) (hi : SR X Γ tg it n rr) {Γ0 : List Sl} (hle : SlLe Γ Γ0) (h0 : Iv 0 Γ0) (G1 : Nat → List Sl → List Sl)
    (hg : ∀ i Γ', i < n → Iv i Γ' → DG X Γ' tg (rr i) (G1 i Γ') ws)
    (hb : ∀ F1, Up F0 F1 H0 → ∀ i Γ', i < n → Iv i Γ' → GO X F1 H0 body { D with nx := LN F1 H0 Iv (i + 1), ct := LN F1 H0 Iv (i + 1), bk := XS X st D } (G1 i Γ'))
    (he : ∀ Γ', Iv n Γ' → GO X F0 H0 st D Γ') (hs : ∀ x, foldedSetIterable it X.env x = pure x := by intro _; rfl) : GO X F0 H0 (.For tg it body [] pos :: st) D Γ := fun F H σ en => by
  refine .of (pss_cons (ps_for B.own B.calm pi_ev pg_ev pss_ev hs) pss_ev) ?_
  refine hi F0 H0 F H σ en _ fun J F1 H1 g wk => ?_
  have en1 := en.grow g
  have u : Up F0 F1 H0 := ⟨fun F2 H2 g2 => ⟨en1.gr.f.trans g2.f, g2.h, g2.s, fun a ha z => g2.n a ha (en1.gr.n a ha z)⟩⟩
  have start : En F1 H0 F1 H1 σ Γ := ⟨⟨Same.refl _, en1.gr.h, g.s, fun _ _ z => z⟩, en1.len, en1.ok, en1.own, en1.sep⟩
  refine ⟨fun i m σ H => m = n - i ∧ i ≤ n ∧ LN F1 H0 Iv i σ H, ⟨n, by simp, Nat.zero_le _, F1, Γ0, start.le hle, h0⟩, fun i m σ2 H2 hw => ?_⟩
  obtain ⟨rfl, hle, F2, Γ2, en2, iv⟩ := hw
  have s2 : Same F1 H2 := en2.gr.f.trans en2.gr.s
  by_cases hlt : i < n
  · refine .inr ⟨wk.go i H2 s2 hlt, LN F1 H0 Iv (i + 1), fun σ' H' h => ⟨n - (i + 1), by omega, rfl, hlt, h⟩, fun x H' hy => ?_⟩
    obtain ⟨F3, g3, hx⟩ := wk.yld i F2 H2 x H' en2.gr.f en2.gr.s hlt hy
    exact hg i Γ2 hlt iv F1 H0 F3 H' σ2 x (en2.grow g3) hx _ fun F4 H4 σ4 g4 en4 _ => hb F1 u i Γ2 hlt iv F4 H4 σ4 en4
  · have e : i = n := by omega
    subst e
    exact .inl ⟨wk.stop i H2 s2 (Nat.le_refl _), he Γ2 iv F2 H2 σ2 (u.en en2)⟩
/-- a, b = x, y -/
theorem go_par {i j : Nat} {y : Str} {px py pt : Pos} {kt k2 : Nat} {pt2 : Pos} (B : BX X N sc k) (ha : DE X Γ a ra) (hb : DE X Γ b rb) (hi : N[i]? = some x) (hj : N[j]? = some y) (hij : i ≠ j) (hx : sc.names.lookup x = some .local) (hy : sc.names.lookup y = some .local)
    (h : GO X F0 H0 st D ((Γ.set i (.im ra)).set j (.im rb))) (hw : ∀ env : Env, env.scope = sc → swappedStores [.Tuple [.Name x px, .Name y py] kt pt] (.Tuple [a, b] k2 pt2) env = pure (some [x, y]))
    (hs : swapsWithSole [.Tuple [.Name x px, .Name y py] kt pt] (.Tuple [a, b] k2 pt2) pos.line X.env = pure false := by rfl)
    (hs1 : starEach [a, b] X.env = (false, eval a X.env) :: starEach [b] X.env := by rfl) (hs2 : starEach [b] X.env = (false, eval b X.env) :: starEach [] X.env := by rfl) :
    GO X F0 H0 (.Assign [.Tuple [.Name x px, .Name y py] kt pt] (.Tuple [a, b] k2 pt2) pos :: st) D Γ := fun F H σ en => by
  refine .of (pss_cons (ps_par (i := i) (j := j) B.calm (by rw [B.hN]; exact B.nd) (by rw [B.hN]; exact hi) (by rw [B.hN]; exact hj) hij (by rw [B.hsc]; exact hx) (by rw [B.hsc]; exact hy) (pa_cons pe_ev (pa_cons pe_ev pa_nil hs2) hs1) (hw X.env B.hsc) hs) pss_ev) ?_
  exact ha F0 H0 F H σ en _ fun v F1 H1 g1 h1 => hb F0 H0 F1 H1 σ (en.grow g1) _ fun u F2 H2 g2 h2 => ⟨v, u, rfl, h F2 H2 _ (((en.grow g1).grow g2).setIm (ra.mono g2.f h1) |>.setIm h2)⟩
end
end DL

set_option Elab.async false
set_option linter.all false
set_option maxRecDepth 100000
set_option maxHeartbeats 4000000
namespace DL
open PySem PySem.Spec PyProof.Rows L2
theorem RL.atI {F : Hp} {l : List Rep} {vs : List V} {i : Int} {r : Rep} (h : RL F l vs) (e : L2.atI l i = some r) : ∃ v, L2.atI vs i = some v ∧ r.P F v := by
  unfold L2.atI at e ⊢
  rw [h.len] at e
  cases q : ixN vs.length i with
  | none => rw [q] at e; cases e
  | some j =>
    rw [q] at e
    exact h.get e
def cutR {α : Type} (xs : List α) (lo hi : Option Int) : List α := (xs.drop (HT.sIx xs.length 0 lo)).take (HT.sIx xs.length xs.length hi - HT.sIx xs.length 0 lo)
theorem RL.cut {F : Hp} {l : List Rep} {vs : List V} {lo hi : Option Int} (h : RL F l vs) : RL F (cutR l lo hi) (cutV vs lo hi) := by
  unfold cutR cutV
  rw [h.len]
  exact (h.drop _).take _
theorem cutR_map {α β : Type} (f : α → β) (xs : List α) (lo hi : Option Int) : cutR (xs.map f) lo hi = (cutR xs lo hi).map f := by
  unfold cutR
  rw [List.length_map, List.map_take, List.map_drop]
theorem cutR_to {α : Type} (xs : List α) (n : Nat) : cutR xs none (some (n : Int)) = xs.take n := by
  unfold cutR
  rw [HT.sIx_none, HT.sIx_nat, List.drop_zero, Nat.sub_zero]
  by_cases h : n ≤ xs.length
  · rw [Nat.min_eq_left h]
  · rw [Nat.min_eq_right (by omega), List.take_of_length_le (Nat.le_refl _), List.take_of_length_le (by omega)]
theorem cutR_from {α : Type} (xs : List α) (n : Nat) : cutR xs (some (n : Int)) none = xs.drop n := by
  unfold cutR
  rw [HT.sIx_none, HT.sIx_nat]
  by_cases h : n ≤ xs.length
  · rw [Nat.min_eq_left h, List.take_of_length_le (by rw [List.length_drop]; omega)]
  · rw [Nat.min_eq_right (by omega), Nat.sub_self, List.take_zero, List.drop_eq_nil_of_le (by omega)]
section
variable {X : Cx} {N : List Str} {sc : Scope} {k j : Nat} {Γ Γ' Γ1 : List Sl} {tg it a b c e : Expr} {es rest : List Expr} {r ra rb rc r' : Rep} {rs l l2 : List Rep} {pos p p2 : Pos} {x : Str} {i : Nat} {ws ws' : List Nat} {F0 H0 F1 F H : Hp} {σ : L2.St} {st body : List Stmt} {D : Ends}
/-! places -/
theorem de_ixr {r2 : R2} (hr : IxR X r2) (h2 : B2 r2 ra rb rc) (ha : DE X Γ a ra) (hb : DE X Γ b rb) (hs : PlainIx b := by exact fun _ _ => rfl) : DE X Γ (.Subscript a b pos) rc := fun F0 H0 F H σ en Q q =>
  .of (pe_ix hr pe_ev pe_ev hs) (two ha hb h2 en q)
theorem de_ixL {n : Int} (h : atI l n = some r) (ha : DE X Γ a (rLst X.K l)) (hb : DE X Γ b (rInt n)) (hs : PlainIx b := by exact fun _ _ => rfl) : DE X Γ (.Subscript a b pos) r :=
  de_ixr ix_list (fun F H x y s h1 h2 Q q => by
    obtain ⟨p, vs, rfl, k1, k2⟩ := h1
    cases h2
    obtain ⟨v, k3, k4⟩ := k2.atI h
    exact ⟨p, vs, n, v, rfl, rfl, s.seq k1, k3, q v F H (.refl s) k4⟩) ha hb hs
theorem de_ixT {n : Int} (h : atI l n = some r) (ha : DE X Γ a (rTup X.K l)) (hb : DE X Γ b (rInt n)) (hs : PlainIx b := by exact fun _ _ => rfl) : DE X Γ (.Subscript a b pos) r :=
  de_ixr ix_tup (fun F H x y s h1 h2 Q q => by
    obtain ⟨p, vs, rfl, k1, k2⟩ := h1
    cases h2
    obtain ⟨v, k3, k4⟩ := k2.atI h
    exact ⟨p, vs, n, v, rfl, rfl, sqt_mono s k1, k3, q v F H (.refl s) k4⟩) ha hb hs
/-- x[i] = e, x a list of one's own -/
theorem go_put {n : Int} {jj : Nat} {tpos : Pos} (B : BX X N sc k) (he : DE X Γ e r) (hb : DE X Γ b (rInt n)) (hj : ixN l.length n = some jj) (hΓ : Γ[i]? = some (.ow l)) (hN : N[i]? = some x) (hv : Vis sc x) (h : GO X F0 H0 st D (Γ.set i (.ow (l.set jj r))))
    (hd : (x == ("__debug__" : Str)) = false := by decide) (hcd : (x == ("__classdict__" : Str)) = false := by decide)
    (ha : ∀ v, assign (.Subscript (.Name x p) b tpos) X.env v = (do
      let ov ← holding [v] (eval (.Name x p) X.env)
      let iv ← holding [v, ov] (eval b X.env)
      standAt tpos
      holding [v, ov, iv] (setItem ov iv v)
      release [v, ov, iv] []) := by intro _; rfl)
    (hs : swapsWithSole [.Subscript (.Name x p) b tpos] e pos.line X.env = pure false := by rfl) (hw : swappedStores [.Subscript (.Name x p) b tpos] e X.env = pure none := by rfl)
    (h1 : (assignEach [.Subscript (.Name x p) b tpos] X.env).map (·.2) = [assign (.Subscript (.Name x p) b tpos) X.env] := by rfl) :
    GO X F0 H0 (.Assign [.Subscript (.Name x p) b tpos] e pos :: st) D Γ := fun F H σ en => by
  refine .of (pss_cons (ps_asg pe_ev (pg_sub (pe_var (i := i) (B.hN ▸ hN) (B.hsc ▸ hv) hd hcd) pe_ev set_list ha) hs hw h1) pss_ev) ?_
  refine he F0 H0 F H σ en _ fun v F1 H1 g1 hv1 => ?_
  have en1 := en.grow g1
  obtain ⟨q, vs, k1, k2, k3, k4, k5⟩ := en1.ow hΓ
  refine ⟨_, k1, hb F0 H0 F1 H1 σ en1 _ fun v2 F2 H2 g2 hv2 => ?_⟩
  cases hv2
  have en2 := en1.grow g2
  refine ⟨q, vs, n, jj, rfl, rfl, g2.h _ _ k3, by rw [← k4.len]; exact hj, ?_⟩
  exact h F2 _ σ (en2.put hΓ k1 ((k4.mono g2.f).set (r.mono g2.f hv1) jj))
/-! lengths -/
theorem cb_lenL : CB (fun xs H Q => ∃ p ys, xs = [V.ref p] ∧ (SqL X.K H p ys ∨ SqT X.K H p ys) ∧ Q (.int ys.length) H) [rLst X.K l] (rInt l.length) := fun F H vs s h Q q => by
  obtain ⟨v, rfl, p, ys, rfl, k1, k2⟩ := rl1 h
  exact ⟨p, ys, rfl, .inl (s.seq k1), q _ F H (.refl s) (by rw [k2.len]; rfl)⟩
theorem cb_lenT : CB (fun xs H Q => ∃ p ys, xs = [V.ref p] ∧ (SqL X.K H p ys ∨ SqT X.K H p ys) ∧ Q (.int ys.length) H) [rTup X.K l] (rInt l.length) := fun F H vs s h Q q => by
  obtain ⟨v, rfl, p, ys, rfl, k1, k2⟩ := rl1 h
  exact ⟨p, ys, rfl, .inr (sqt_mono s k1), q _ F H (.refl s) (by rw [k2.len]; rfl)⟩
theorem de_lenL (B : BX X N sc k) (hm : X.mg "len" = none) (h : DE X Γ e (rLst X.K l)) (hg : sc.names.lookup ("len" : Str) = some NameKind.globalImplicit) (he : starEach (e :: []) X.env = (false, eval e X.env) :: starEach [] X.env := by rfl) : DE X Γ (.Call (.Name "len" p) [e] [] pos) (rInt l.length) :=
  de_blt B call_len_seq cb_lenL hm PySem.boot_len (da_cons h da_nil he) hg (he := he)
theorem de_lenT (B : BX X N sc k) (hm : X.mg "len" = none) (h : DE X Γ e (rTup X.K l)) (hg : sc.names.lookup ("len" : Str) = some NameKind.globalImplicit) (he : starEach (e :: []) X.env = (false, eval e X.env) :: starEach [] X.env := by rfl) : DE X Γ (.Call (.Name "len" p) [e] [] pos) (rInt l.length) :=
  de_blt B call_len_seq cb_lenT hm PySem.boot_len (da_cons h da_nil he) hg (he := he)
/-! list(xs), xs[a:b]: new lists -/
theorem dl_list (B : BX X N sc k) (hm : X.mg "list" = none) (h : DE X Γ e (rLst X.K l)) (hg : sc.names.lookup ("list" : Str) = some NameKind.globalImplicit) (he : starEach (e :: []) X.env = (false, eval e X.env) :: starEach [] X.env := by rfl) : DL X Γ (.Call (.Name "list" p) [e] [] pos) l := fun F0 H0 F H σ en Q q => by
  have hgl : Gl X "list" := by
    show X.env.scope.names.lookup _ = _
    rw [B.hsc]
    exact hg
  refine .of (pe_callTy call_list_of hgl hm (by decide +kernel) (pa_cons pe_ev pa_nil he) (he := he)) (h F0 H0 F H σ en _ fun v F1 H1 g hv => ?_)
  obtain ⟨p, vs, rfl, k1, k2⟩ := hv
  exact ⟨p, vs, rfl, .inl (g.s.seq k1), fun q' hq => q q' vs F1 _ (g.trans (.newOwn g.s hq)) (g.h.free hq) (g.s.free hq) upd_same k2⟩
theorem dl_listT (B : BX X N sc k) (hm : X.mg "list" = none) (h : DE X Γ e (rTup X.K l)) (hg : sc.names.lookup ("list" : Str) = some NameKind.globalImplicit) (he : starEach (e :: []) X.env = (false, eval e X.env) :: starEach [] X.env := by rfl) : DL X Γ (.Call (.Name "list" p) [e] [] pos) l := fun F0 H0 F H σ en Q q => by
  have hgl : Gl X "list" := by
    show X.env.scope.names.lookup _ = _
    rw [B.hsc]
    exact hg
  refine .of (pe_callTy call_list_of hgl hm (by decide +kernel) (pa_cons pe_ev pa_nil he) (he := he)) (h F0 H0 F H σ en _ fun v F1 H1 g hv => ?_)
  obtain ⟨p, vs, rfl, k1, k2⟩ := hv
  exact ⟨p, vs, rfl, .inr (sqt_mono g.s k1), fun q' hq => q q' vs F1 _ (g.trans (.newOwn g.s hq)) (g.h.free hq) (g.s.free hq) upd_same k2⟩
def DO (X : Cx) (Γ : List Sl) (e : Option Expr) (o : Option Int) : Prop := match e, o with
  | none, none => True
  | some e, some n => DE X Γ e (rInt n)
  | _, _ => False
theorem dl_slice {lo hi : Option Expr} {ol oh : Option Int} (h : DE X Γ e (rLst X.K l)) (h1 : DO X Γ lo ol) (h2 : DO X Γ hi oh) : DL X Γ (.Subscript e (.Slice lo hi none p2) pos) (cutR l ol oh) := fun F0 H0 F H σ en Q q => by
  have part : ∀ {o : Option Expr} {w : Option Int}, DO X Γ o w → ∃ t, PO X o t ∧ ∀ F H, En F0 H0 F H σ Γ → ∀ R : Option Int → Hp → Prop, (∀ F' H', Gr F H F' H' → R w H') → t σ H R := fun {o w} hd => by
    match o, w, hd with
    | none, none, _ => exact ⟨_, po_none, fun F H en R q => q F H (.refl en.gr.s)⟩
    | some e, some n, hd => exact ⟨_, po_some pe_ev, fun F H en R q => hd F0 H0 F H σ en _ fun v F' H' g hv => ⟨n, hv, q F' H' g⟩⟩
    | none, some _, hd => exact hd.elim
    | some _, none, hd => exact hd.elim
  obtain ⟨t1, q1, w1⟩ := part h1
  obtain ⟨t2, q2, w2⟩ := part h2
  refine .of (pe_slice sl_list pe_ev q1 q2) (h F0 H0 F H σ en _ fun v F1 H1 g hv => w1 F1 H1 (en.grow g) _ fun F2 H2 g2 => w2 F2 H2 ((en.grow g).grow g2) _ fun F3 H3 g3 => ?_)
  obtain ⟨p, vs, rfl, k1, k2⟩ := hv
  have gg := (g.trans g2).trans g3
  exact ⟨p, vs, rfl, g3.s.seq ((g2.f.trans g3.f).seq k1), fun q' hq => q q' _ F3 _ (gg.trans (.newOwn gg.s hq)) (gg.h.free hq) (gg.s.free hq) upd_same (k2.cut.mono (g2.f.trans g3.f))⟩
/-! kinds -/
def RTy (K : PySem.W.Frag) (r : Rep) (t : Value) : Prop := ∀ F H v, Same F H → r.P F v → TyX K H v t
theorem rty_int {K : PySem.W.Frag} {n : Int} : RTy K (rInt n) (.type "int") := fun F H v s h => by cases h; exact .base (.int n)
theorem rty_tup {K : PySem.W.Frag} : RTy K (rTup K l) (.type "tuple") := fun F H v s h => by
  obtain ⟨p, vs, rfl, h1, h2⟩ := h
  rcases sqt_mono s h1 with (h | ⟨o, h⟩) | h
  · exact .base (.tup h)
  · exact .fTuple h
  · obtain ⟨_, _, _, hk, hc, _⟩ := h
    exact .kTuple hk hc
theorem rty_lst {K : PySem.W.Frag} : RTy K (rLst K l) (.type "list") := fun F H v s h => by
  obtain ⟨p, vs, rfl, h1, h2⟩ := h
  rcases s.seq h1 with (h | ⟨o, h⟩) | h
  · exact .base (.lst h)
  · exact .base (.frz h)
  · obtain ⟨_, _, _, hk, hc, _⟩ := h
    exact .kList hk hc
theorem cb_isi {t : Value} {T : String} {u : Bool} (h : RTy X.K r t) (hk : PySem.W.kitOne X.K t (.type T) = some u) : CB (rIsi X.K) [r, rC (.ty T)] (rBl u) := fun F H vs s hv Q q => by
  obtain ⟨v, w, rfl, h1, h2⟩ := rl2 hv
  cases h2
  exact ⟨v, .ty T, t, .type T, u, rfl, .ty T, h F H v s h1, hk, q _ F H (.refl s) rfl⟩
theorem de_ty {T : String} (B : BX X N sc k) (hm : X.mg x = none) (hv : bootBuiltins x = some (.type T)) (hg : sc.names.lookup x = some .globalImplicit) (hn : x ≠ "__name__" := by decide) (hdb : (x == ("__debug__" : Str)) = false := by decide) : DE X Γ (.Name x pos) (rC (.ty T)) := fun F0 H0 F H σ en Q q => by
  have hgl : Gl X x := by
    show X.env.scope.names.lookup x = _
    rw [B.hsc]
    exact hg
  exact .of (pe_bltn (v := .ty T) hgl hm hv rfl hn hdb) (q _ F H (.refl en.gr.s) rfl)
theorem de_isi {t : Value} {T : String} {u : Bool} (B : BX X N sc k) (hm : X.mg "isinstance" = none) (h : RTy X.K r t) (hk : PySem.W.kitOne X.K t (.type T) = some u) (ha : DE X Γ a r) (hb : DE X Γ b (rC (.ty T))) (hg : sc.names.lookup ("isinstance" : Str) = some NameKind.globalImplicit)
    (he : starEach (a :: [b]) X.env = (false, eval a X.env) :: starEach [b] X.env := by rfl) (he2 : starEach (b :: []) X.env = (false, eval b X.env) :: starEach [] X.env := by rfl) (hpl : (backTo pos (starEach [b] X.env)).any (·.1) = false := by rfl) : DE X Γ (.Call (.Name "isinstance" p) [a, b] [] pos) (rBl u) :=
  de_blt B call_isi (cb_isi h hk) hm (by decide +kernel) (da_cons ha (da_cons hb da_nil he2) he) hg (he := he) (hpl := hpl)
/-! equal data -/
mutual
theorem dp_mono {K : PySem.W.Frag} {F H : Hp} (s : Same F H) : ∀ (d : PyData) (v : V), Dp K F v d → Dp K H v d
  | _, _, .non => .non
  | _, _, .bl b => .bl b
  | _, _, .int i => .int i
  | _, _, .str x => .str x
  | _, _, .lst h a => .lst (s.seq h) (dpa_mono s _ _ a)
  | _, _, .tup h a => .tup (sqt_mono s h) (dpa_mono s _ _ a)
theorem dpa_mono {K : PySem.W.Frag} {F H : Hp} (s : Same F H) : ∀ (ds : List PyData) (vs : List V), DpAll K F vs ds → DpAll K H vs ds
  | _, _, .nil => .nil
  | _, _, .cons h t => .cons (dp_mono s _ _ h) (dpa_mono s _ _ t)
end
def DpL (K : PySem.W.Frag) (r : Rep) (d : PyData) : Prop := ∀ F v, r.P F v → Dp K F v d
theorem dpl_int {K : PySem.W.Frag} {n : Int} : DpL K (rInt n) (.int n) := fun F v h => by cases h; exact .int n
theorem dpl_str {K : PySem.W.Frag} {n : Str} : DpL K (rStr n) (.str n) := fun F v h => by cases h; exact .str n
theorem dpl_non {K : PySem.W.Frag} : DpL K rNon .none := fun F v h => by cases h; exact .non
theorem dpa_of {K : PySem.W.Frag} {F : Hp} {α : Type} {R : α → Rep} {d : α → PyData} : ∀ {xs : List α} {vs : List V}, (∀ x ∈ xs, DpL K (R x) (d x)) → RL F (xs.map R) vs → DpAll K F vs (xs.map d)
  | [], _, _, h => by cases h; exact .nil
  | x :: xs, _, hd, h => by
    cases h with
    | cons a t => exact .cons (hd x List.mem_cons_self F _ a) (dpa_of (fun y hy => hd y (List.mem_cons_of_mem _ hy)) t)
theorem dpl_lst {K : PySem.W.Frag} {α : Type} {R : α → Rep} {d : α → PyData} {xs : List α} (h : ∀ x ∈ xs, DpL K (R x) (d x)) : DpL K (rLst K (xs.map R)) (.list (xs.map d)) := fun F v hv => by
  obtain ⟨p, vs, rfl, h1, h2⟩ := hv
  exact .lst h1 (dpa_of h h2)
theorem dpl_tup2 {K : PySem.W.Frag} {d1 d2 : PyData} (h1 : DpL K ra d1) (h2 : DpL K rb d2) : DpL K (rTup K [ra, rb]) (.tuple [d1, d2]) := fun F v hv => by
  obtain ⟨p, vs, rfl, k1, k2⟩ := hv
  obtain ⟨v, w, rfl, a, b⟩ := rl2 k2
  exact .tup k1 (.cons (h1 F v a) (.cons (h2 F w b) .nil))
theorem b2_eqD {d1 d2 : PyData} (h1 : DpL X.K ra d1) (h2 : DpL X.K rb d2) (s1 : SeqAt.shaped d1 = true) (s2 : SeqAt.shaped d2 = true) : B2 (rEqD X.K) ra rb (rBl (PyData.eqv d1 d2)) := fun F H x y s k1 k2 Q q =>
  ⟨d1, d2, dp_mono s _ _ (h1 F x k1), dp_mono s _ _ (h2 F y k2), s1, s2, q _ F H (.refl s) rfl⟩
theorem b2_neD {d1 d2 : PyData} (h1 : DpL X.K ra d1) (h2 : DpL X.K rb d2) (s1 : SeqAt.shaped d1 = true) (s2 : SeqAt.shaped d2 = true) : B2 (rNeD X.K) ra rb (rBl (!PyData.eqv d1 d2)) := fun F H x y s k1 k2 Q q =>
  ⟨d1, d2, dp_mono s _ _ (h1 F x k1), dp_mono s _ _ (h2 F y k2), s1, s2, q _ F H (.refl s) rfl⟩
theorem BX.hu (B : BX X N sc k) : X.A.units + 64 < cLine := B.room.units
/-! gcd, lcm, abs, int -/
theorem de_gcd {m n : Int} (B : BX X N sc k) (hm : X.mg x = some (.builtin "math.gcd")) (ha : DE X Γ a (rInt m)) (hb : DE X Γ b (rInt n)) (hg : sc.names.lookup x = some .globalImplicit) (hdb : (x == ("__debug__" : Str)) = false := by decide)
    (he : starEach (a :: [b]) X.env = (false, eval a X.env) :: starEach [b] X.env := by rfl) (he2 : starEach (b :: []) X.env = (false, eval b X.env) :: starEach [] X.env := by rfl) (hpl : (backTo pos (starEach [b] X.env)).any (·.1) = false := by rfl) : DE X Γ (.Call (.Name x p) [a, b] [] pos) (rInt (Int.gcd m n : Nat)) :=
  de_bfun B cr_gcd (fun F H vs s hv Q q => by
    obtain ⟨v, w, rfl, h1, h2⟩ := rl2 hv
    cases h1
    cases h2
    exact ⟨m, n, rfl, q _ F H (.refl s) rfl⟩) hm (da_cons ha (da_cons hb da_nil he2) he) hg hdb (he := he) (hpl := hpl)
theorem de_abs {m : Int} (B : BX X N sc k) (hm : X.mg "abs" = none) (ha : DE X Γ a (rInt m)) (hg : sc.names.lookup ("abs" : Str) = some NameKind.globalImplicit)
    (he : starEach (a :: []) X.env = (false, eval a X.env) :: starEach [] X.env := by rfl) : DE X Γ (.Call (.Name "abs" p) [a] [] pos) (rInt (m.natAbs : Nat)) :=
  de_blt B call_abs (fun F H vs s hv Q q => by
    obtain ⟨v, rfl, k1⟩ := rl1 hv
    cases k1
    exact ⟨m, rfl, q _ F H (.refl s) (by show V.int _ = V.int _; congr 1; split <;> omega)⟩) hm (by decide +kernel) (da_cons ha da_nil he) hg (he := he)
theorem de_toInt {m : Int} (B : BX X N sc k) (hm : X.mg "int" = none) (ha : DE X Γ a (rInt m)) (hg : sc.names.lookup ("int" : Str) = some NameKind.globalImplicit)
    (he : starEach (a :: []) X.env = (false, eval a X.env) :: starEach [] X.env := by rfl) : DE X Γ (.Call (.Name "int" p) [a] [] pos) (rInt m) :=
  de_bty B call_int1 (fun F H vs s hv Q q => by
    obtain ⟨v, rfl, k1⟩ := rl1 hv
    cases k1
    exact .inl ⟨m, rfl, q _ F H (.refl s) rfl⟩) hm (by decide +kernel) (da_cons ha da_nil he) hg (he := he)
/-! is None -/
def NotNon (r : Rep) : Prop := ∀ F v, r.P F v → v ≠ .non
theorem de_isN (ha : DE X Γ a rNon) : DE X Γ (.Compare a [.Is] [.Constant .none j p] pos) (rBl true) := de_cmp op_isN (fun F H x y s h1 h2 Q q => by cases h1; cases h2; exact ⟨rfl, q _ F H (.refl s) rfl⟩) ha de_non (nomark _)
theorem de_isN0 (hn : NotNon r) (ha : DE X Γ a r) : DE X Γ (.Compare a [.Is] [.Constant .none j p] pos) (rBl false) := de_cmp op_isN (fun F H x y s h1 h2 Q q => by
  cases h2
  exact ⟨rfl, q _ F H (.refl s) (by show V.bl _ = V.bl _; rw [decide_eq_false (hn F x h1)])⟩) ha de_non (nomark _)
theorem notNon_num {K : PySem.W.Frag} {q : Rat} : NotNon (rNum K q) := fun F v h => by
  unfold rNum at h
  split at h
  · cases h; exact fun z => nomatch z
  · obtain ⟨p, vs, rfl, _⟩ := h
    exact fun z => nomatch z
end
end DL

set_option Elab.async false
set_option linter.all false
set_option maxRecDepth 100000
set_option maxHeartbeats 4000000
namespace DL
open PySem PySem.Spec PyProof.Rows L2
/-- the slots after some stores -/
def sets (Γ : List Sl) : List (Nat × Sl) → List Sl
  | [] => Γ
  | (i, s) :: r => sets (Γ.set i s) r
section
variable {X : Cx} {N : List Str} {sc : Scope} {k j : Nat} {Γ Γ' Γ1 : List Sl} {tg it a b c e : Expr} {es rest : List Expr} {r ra rb rc r' : Rep} {rs l l2 : List Rep} {pos p p2 : Pos} {x : Str} {i : Nat} {ws ws' : List Nat} {F0 H0 F1 F H : Hp} {σ : L2.St} {st body : List Stmt} {D : Ends} {n : Nat} {rr : Nat → Rep}
/-- a loop whose slots are known at each turn: chg tells those that change -/
def IvS (Γ : List Sl) (chg : Nat → List (Nat × Sl)) (J : Nat → Prop) : Nat → List Sl → Prop := fun i Γ' => Γ' = sets Γ (chg i) ∧ J i
theorem go_forS {ws : List Nat} (B : BX X N sc k) (chg : Nat → List (Nat × Sl)) (J : Nat → Prop) (hi : SR X Γ tg it n rr) (G1 : Nat → List Sl) (hg : ∀ i, i < n → DG X (sets Γ (chg i)) tg (rr i) (G1 i) ws) (h0 : SlLe Γ (sets Γ (chg 0))) (j0 : J 0)
    (hb : ∀ F1, Up F0 F1 H0 → ∀ i, i < n → J i → GO X F1 H0 body { D with nx := LN F1 H0 (IvS Γ chg J) (i + 1), ct := LN F1 H0 (IvS Γ chg J) (i + 1), bk := XS X st D } (G1 i))
    (he : J n → GO X F0 H0 st D (sets Γ (chg n))) (hs : ∀ x, foldedSetIterable it X.env x = pure x := by intro _; rfl) : GO X F0 H0 (.For tg it body [] pos :: st) D Γ :=
  go_for B (IvS Γ chg J) hi h0 ⟨rfl, j0⟩ (fun i _ => G1 i) (fun i Γ' hlt hv => by rw [hv.1]; exact hg i hlt) (fun F1 u i Γ' hlt hv => hb F1 u i hlt hv.2) (fun Γ' hv => by rw [hv.1]; exact he hv.2) hs
theorem go_turnS {chg : Nat → List (Nat × Sl)} {J : Nat → Prop} {Γ0 : List Sl} (hj : J j) (h : SlLe Γ (sets Γ0 (chg j))) (e : D.nx = LN F1 H0 (IvS Γ0 chg J) j := by rfl) : GO X F1 H0 [] D Γ := go_nil fun F H σ en => by rw [e]; exact ⟨F, _, en.le h, rfl, hj⟩
/-! ### numbers -/
section
variable {q : Rat} {K : PySem.W.Frag}
theorem num_whole (h : q.den = 1) : rNum K q = rInt q.num := if_pos h
theorem num_pair (h : q.den ≠ 1) : rNum K q = rTup K [rInt q.num, rInt (q.den : Int)] := if_neg h
theorem num_int (n : Int) : rNum K (n : Rat) = rInt n := num_whole (Rat.den_intCast n)
theorem de_i2n {n : Int} (h : DE X Γ e (rInt n)) : DE X Γ e (rNum X.K (n : Rat)) := h.to (num_int n).symm
theorem de_n2i (hq : q.den = 1) (h : DE X Γ e (rNum X.K q)) : DE X Γ e (rInt q.num) := h.to (num_whole hq)
theorem de_n2t (hq : q.den ≠ 1) (h : DE X Γ e (rNum X.K q)) : DE X Γ e (rTup X.K [rInt q.num, rInt (q.den : Int)]) := h.to (num_pair hq)
theorem de_num0 (hq : q.den ≠ 1) (h : DE X Γ a (rNum X.K q)) {jj : Nat} : DE X Γ (.Subscript a (.Constant (.int 0) jj p) pos) (rInt q.num) := de_ixT rfl (de_n2t hq h) de_int
theorem de_num1 (hq : q.den ≠ 1) (h : DE X Γ a (rNum X.K q)) {jj : Nat} : DE X Γ (.Subscript a (.Constant (.int 1) jj p) pos) (rInt (q.den : Int)) := de_ixT rfl (de_n2t hq h) de_int
def numT (q : Rat) : Value := if q.den = 1 then .type "int" else .type "tuple"
theorem rty_num : RTy K (rNum K q) (numT q) := by
  unfold numT
  by_cases h : q.den = 1
  · rw [num_whole h, if_pos h]; exact rty_int
  · rw [num_pair h, if_neg h]; exact rty_tup
theorem kit_numT {K : PySem.W.Frag} : PySem.W.kitOne K (numT q) (.type "tuple") = some (decide (q.den ≠ 1)) := by
  unfold numT
  by_cases h : q.den = 1
  · rw [if_pos h, h]; exact kit_ty (by decide +kernel)
  · rw [if_neg h, decide_eq_true h]; exact kit_ty (by decide +kernel)
theorem kit_numI {K : PySem.W.Frag} : PySem.W.kitOne K (numT q) (.type "int") = some (decide (q.den = 1)) := by
  unfold numT
  by_cases h : q.den = 1
  · rw [if_pos h, h]; exact kit_ty (by decide +kernel)
  · rw [if_neg h, decide_eq_false h]; exact kit_ty (by decide +kernel)
theorem kit_numB {K : PySem.W.Frag} : PySem.W.kitOne K (numT q) (.type "bool") = some false := by
  unfold numT
  by_cases h : q.den = 1
  · rw [if_pos h]; exact kit_ty (by decide +kernel)
  · rw [if_neg h]; exact kit_ty (by decide +kernel)
/-- a pair of whole numbers is a number -/
theorem sub_pair {t b : Int} (h : (b : Int) ≠ 1) (h1 : q.num = t) (h2 : (q.den : Int) = b) : Sub (rTup K [rInt t, rInt b]) (rNum K q) := .of (by rw [num_pair (by omega), h1, h2])
theorem sub_whole {t : Int} (h : q.den = 1) (h1 : q.num = t) : Sub (rInt t) (rNum K q) := .of (by rw [num_whole h, h1])
def numD (q : Rat) : PyData := if q.den = 1 then .int q.num else .tuple [.int q.num, .int (q.den : Int)]
theorem dpl_num : DpL K (rNum K q) (numD q) := by
  unfold numD
  by_cases h : q.den = 1
  · rw [num_whole h, if_pos h]; exact dpl_int
  · rw [num_pair h, if_neg h]; exact dpl_tup2 dpl_int dpl_int
theorem numD_eq {q r : Rat} : PyData.eqv (numD q) (numD r) = decide (q = r) := by
  unfold numD
  by_cases h : q.den = 1 <;> by_cases k : r.den = 1
  · rw [if_pos h, if_pos k]
    show (q.num == r.num) = _
    by_cases e : q = r
    · subst e; simp
    · rw [decide_eq_false e]
      have : q.num ≠ r.num := fun z => e (Rat.ext z (by rw [h, k]))
      simpa using this
  · rw [if_pos h, if_neg k]
    have : q ≠ r := fun z => k (z ▸ h)
    rw [decide_eq_false this]; rfl
  · rw [if_neg h, if_pos k]
    have : q ≠ r := fun z => h (z ▸ k)
    rw [decide_eq_false this]; rfl
  · rw [if_neg h, if_neg k]
    show (q.num == r.num && ((q.den : Int) == (r.den : Int) && true)) = _
    by_cases e : q = r
    · subst e; simp
    · rw [decide_eq_false e]
      by_cases n : q.num = r.num
      · have : q.den ≠ r.den := fun z => e (Rat.ext n z)
        have : (q.den : Int) ≠ r.den := by omega
        simp [this]
      · simp [n]
theorem shaped_num : SeqAt.shaped (numD q) = true := by
  unfold numD
  by_cases h : q.den = 1
  · rw [if_pos h]; rfl
  · rw [if_neg h]; rfl
theorem dt_neN {r : Rat} (B : BX X N sc k) (ha : DE X Γ a (rNum X.K q)) (hb : DE X Γ b (rNum X.K r)) : DT X Γ (.Compare a [.NotEq] [b] pos) (!decide (q = r)) := (dt_cmp (op_neD B.hu) (b2_neD dpl_num dpl_num shaped_num shaped_num) ha hb (nomark _)).to (by rw [numD_eq])
end
/-! ### sizes of ints -/
def Lg (i : Int) : Nat := i.natAbs.log2
theorem lg_lt {i : Int} {n : Nat} : Lg i < n → i.natAbs < 2 ^ n := fun h => by
  by_cases h0 : i.natAbs = 0
  · rw [h0]; exact Nat.pow_pos (by decide)
  · exact (Nat.log2_lt h0).mp h
theorem lg_of {i : Int} {n : Nat} (hn : 0 < n) (h : i.natAbs < 2 ^ n) : Lg i < n := by
  unfold Lg
  by_cases h0 : i.natAbs = 0
  · rw [h0, Nat.log2_zero]; exact hn
  · exact (Nat.log2_lt h0).mpr h
theorem lg_mul (i j : Int) : Lg (i * j) ≤ Lg i + Lg j + 1 := by
  have h1 := lg_lt (i := i) (Nat.lt_succ_self _)
  have h2 := lg_lt (i := j) (Nat.lt_succ_self _)
  have h3 : (i * j).natAbs < 2 ^ ((Lg i + 1) + (Lg j + 1)) := by
    rw [Int.natAbs_mul, Nat.pow_add]
    exact Nat.mul_lt_mul'' h1 h2
  have := lg_of (by omega) h3
  omega
theorem lg_add (i j : Int) : Lg (i + j) ≤ max (Lg i) (Lg j) + 1 := by
  have h1 := lg_lt (i := i) (Nat.lt_succ_self _)
  have h2 := lg_lt (i := j) (Nat.lt_succ_self _)
  have m1 : 2 ^ (Lg i + 1) ≤ 2 ^ (max (Lg i) (Lg j) + 1) := Nat.pow_le_pow_right (by decide) (by omega)
  have m2 : 2 ^ (Lg j + 1) ≤ 2 ^ (max (Lg i) (Lg j) + 1) := Nat.pow_le_pow_right (by decide) (by omega)
  have e : 2 ^ (max (Lg i) (Lg j) + 2) = 2 * 2 ^ (max (Lg i) (Lg j) + 1) := by rw [Nat.pow_succ]; omega
  have h3 : (i + j).natAbs < 2 ^ (max (Lg i) (Lg j) + 2) := by omega
  have := lg_of (by omega) h3
  omega
theorem lg_neg (i : Int) : Lg (-i) = Lg i := by unfold Lg; rw [Int.natAbs_neg]
theorem lg_sub (i j : Int) : Lg (i - j) ≤ max (Lg i) (Lg j) + 1 := by
  have := lg_add i (-j)
  rw [lg_neg] at this
  rw [Int.sub_eq_add_neg]
  exact this
theorem lg_le {i j : Int} (h : i.natAbs ≤ j.natAbs) : Lg i ≤ Lg j := by
  have h2 := lg_lt (i := j) (Nat.lt_succ_self _)
  have := lg_of (i := i) (n := Lg j + 1) (by omega) (by omega)
  omega
theorem de_mulG {m n : Int} (hc : Lg m + Lg n < 1000000) (ha : DE X Γ a (rInt m)) (hb : DE X Γ b (rInt n)) : DE X Γ (.BinOp a .Mult b pos) (rInt (m * n)) := de_mul hc ha hb
theorem de_divG {m n : Int} (h0 : n ≠ 0) (hc : Lg n < 9000) (ha : DE X Γ a (rInt m)) (hb : DE X Γ b (rInt n)) : DE X Γ (.BinOp a .FloorDiv b pos) (rInt (m.fdiv n)) := de_fdiv ⟨h0, hc⟩ ha hb
/-- a number of at most n bits above and below -/
def Sz (n : Nat) (q : Rat) : Prop := Lg q.num ≤ n ∧ Lg (q.den : Int) ≤ n
end
end DL

set_option Elab.async false
set_option linter.all false
set_option maxRecDepth 100000
set_option maxHeartbeats 4000000
namespace DL
open PySem PySem.Spec PyProof.Rows L2
/-! ### errors -/
inductive Out where
  | ok (r : Ret)
  | err (C : Addr)
  | errF (C : Addr) (fs : List (Str × V))
def PrX (F H : Hp) : Out → VK → XK → Prop
  | .ok ret, Q, _ => Pr F H ret Q
  | .err C, _, E => ∀ H', Same H H' → E (.ref C) none H'
  | .errF C fs, _, E => ∀ H' d, Same H H' → H d = none → H' d = some (.xd fs) → E (.ref C) (some d) H'
def PmX {ι : Type} (pre : ι → Prop) (args : ι → List Rep) (out : ι → Out) : Sp := fun vs H Q E => ∃ (x : ι) (F : Hp), pre x ∧ Same F H ∧ RL F (args x) vs ∧ PrX F H (out x) Q E
/-- an error class of the program's own, without fields -/
structure XCls (K : PySem.W.Frag) (mg : Str → Option Value) (x : Str) (C : Addr) : Prop where
  g : mg x = some (.ref C)
  ex : PySem.W.excIn K C [.type "ValueError", .type "Exception", .type "BaseException", .type "object"] "ValueError.__new__" = true
  kp : PySem.W.keepIn K (.ref C) = true
  bs : PySem.W.subIn K (.ref C) (.type "BaseException") = some true
  ty : PySem.W.typeIn K (.ref C) = some (.type "type")
  hd : PySem.W.hasDictIn K C = true
section
variable {X : Cx} {N : List Str} {sc : Scope} {k j : Nat} {Γ : List Sl} {a b c e : Expr} {es rest : List Expr} {r ra rb rc r' : Rep} {rs l : List Rep} {pos p : Pos} {x : Str} {i : Nat}
variable {ι : Type} {pre : ι → Prop} {args : ι → List Rep} {out : ι → Out} {ret : Ret} {F0 H0 : Hp} {st body : List Stmt} {D : Ends} {C : Addr} {W : WX}
theorem ca_callX (B : BX X N sc k) (G : Cal X.prog X.w X.K X.mg X.base j x (PmX pre args out)) (hk : j ≤ k) (g : ι) (hp : pre g) (ho : out g = .ok ret) (ha : DA X Γ (e :: es) (args g)) (hg : sc.names.lookup x = some .globalImplicit)
    (hdb : (x == ("__debug__" : Str)) = false := by decide) (he : starEach (e :: es) X.env = (false, eval e X.env) :: starEach es X.env := by rfl) (hpl : (backTo pos (starEach es X.env)).any (·.1) = false := by rfl) :
    CA X Γ (.Call (.Name x p) (e :: es) [] pos) ret := fun F0 H0 F H σ en Q q => by
  obtain ⟨f, fd, ps, G, hm, kp, hb⟩ := G.ex
  have hgl : Gl X x := by
    show X.env.scope.names.lookup x = _
    rw [B.hsc]
    exact hg
  refine .of (pe_call (E := E0) G (B.room.mono hk) hgl hm kp hb .nil passL pa_ev hdb he hpl) ?_
  refine ha F0 H0 F H σ en _ fun vs F1 H1 g1 h1 => ?_
  show PmX pre args out (vs ++ []) H1 Q E0
  rw [List.append_nil]
  refine ⟨g, F1, hp, g1.s, h1, ?_⟩
  rw [ho]
  exact fun v F' H' g2 hv => q v F' H' F1 H1 g1 g2 hv
theorem ca_callO (okr : ι → Ret) (B : BX X N sc k) (G : Cal X.prog X.w X.K X.mg X.base j x (PmX pre args out)) (hk : j ≤ k) (g : ι) (hp : pre g) (ho : out g = .ok (okr g)) (ha : DA X Γ (e :: es) (args g)) (hg : sc.names.lookup x = some .globalImplicit)
    (hdb : (x == ("__debug__" : Str)) = false := by decide) (he : starEach (e :: es) X.env = (false, eval e X.env) :: starEach es X.env := by rfl) (hpl : (backTo pos (starEach es X.env)).any (·.1) = false := by rfl) :
    CA X Γ (.Call (.Name x p) (e :: es) [] pos) (okr g) := ca_callX B G hk g hp ho ha hg hdb he hpl
/-- a call that raises: what is wanted of the error is wanted anyway -/
def EX (X : Cx) (Γ : List Sl) (e : Expr) (C : Addr) (W : WX) : Prop := ∀ F0 H0 F H σ, En F0 H0 F H σ Γ → (∀ H', Same H H' → W (.ref C) none σ H') → ∀ Q : VK, EV X e σ H Q
theorem ex_call (B : BX X N sc k) (tk : Takes X W) (G : Cal X.prog X.w X.K X.mg X.base j x (PmX pre args out)) (hk : j ≤ k) (g : ι) (hp : pre g) (ho : out g = .err C) (ha : DA X Γ (e :: es) (args g)) (hg : sc.names.lookup x = some .globalImplicit)
    (hdb : (x == ("__debug__" : Str)) = false := by decide) (he : starEach (e :: es) X.env = (false, eval e X.env) :: starEach es X.env := by rfl) (hpl : (backTo pos (starEach es X.env)).any (·.1) = false := by rfl) :
    EX X Γ (.Call (.Name x p) (e :: es) [] pos) C W := fun F0 H0 F H σ en w Q => by
  obtain ⟨f, fd, ps, G, hm, kp, hb⟩ := G.ex
  have hgl : Gl X x := by
    show X.env.scope.names.lookup x = _
    rw [B.hsc]
    exact hg
  refine .of (pe_callS (E := WE W) G (B.room.mono hk) hgl hm kp hb (fun σ => passAt tk σ) pa_ev hdb he hpl) ?_
  refine ha F0 H0 F H σ en _ fun vs F1 H1 g1 h1 => ?_
  refine ⟨g, F1, hp, g1.s, h1, ?_⟩
  rw [ho]
  exact fun H' s => w H' (g1.h.trans s)
/-- raise X('..') -/
theorem go_raise {m : Str} {jj : Nat} {p2 pos2 : Pos} (B : BX X N sc k) (tk : Takes X W) (Z : XCls X.K X.mg x C) (hg : sc.names.lookup x = some .globalImplicit) (h : ∀ F H σ, En F0 H0 F H σ Γ → W (.ref C) none σ H) (hdb : (x == ("__debug__" : Str)) = false := by decide) :
    GO X F0 H0 (.Raise (some (.Call (.Name x p) [.Constant (.str m) jj p2] [] pos)) none pos2 :: st) D Γ := fun F H σ en => by
  have hgl : Gl X x := by
    show X.env.scope.names.lookup x = _
    rw [B.hsc]
    exact hg
  exact .of (pss_cons (ps_raise B.calm tk (pmk_own PySem.F.excBase_ValueError Z.ex Z.g Z.kp (raises_own Z.bs Z.ty) hgl hdb)) (pss_ev (st := st))) (h F H σ en)
theorem go_exprE (he : EX X Γ e C W) (h : ∀ F H σ, En F0 H0 F H σ Γ → ∀ H', Same H H' → W (.ref C) none σ H') (hs : swapsWith e none pos.line X.env = pure false := by rfl) : GO X F0 H0 (.Expr e pos :: st) D Γ := fun F H σ en =>
  .of (pss_cons (ps_expr pe_ev hs) (pss_ev (st := st))) (he F0 H0 F H σ en (h F H σ en) _)
end
section
variable {P : Program} {w : World} {K : PySem.W.Frag} {mg : Str → Option Value} {base : Heap} {k : Nat} {x : Str} {st : Stmt} {N ps : List Str} {ι : Type} {pre : ι → Prop} {args : ι → List Rep} {out : ι → Out}
/-- a def that may raise -/
theorem cal_okX (T : TD K mg x st) (S : FnScope N ps (defScope st)) (hn : ∀ g, (args g).length = ps.length)
    (hb : ∀ (kV doc pm : Value) (an : Option Addr) (cdv ct : Value) (us : List Value), us.length = ps.length → bindArgs (PySem.W.fnOf x x (defArgs st) (defBody st) (defScope st) .none kV doc pm an cdv ct) ⟨us, []⟩ = pure (ps.zip us))
    (body : ∀ (X : Cx), X.prog = P → X.w = w → X.K = K → X.mg = mg → X.base = base → BX X N (defScope st) k → (∀ x : Str, X.fn x = true) → ∀ (g : ι) (F0 H0 : Hp) (D : Ends) (E : XK), Takes X (fun cls d _ H => E cls d H) → pre g → PrX F0 H0 (out g) D.rt E → (∀ σ H', D.nx σ H' = D.rt .non H') →
      GO X F0 H0 (defBody st) D ((args g).map Sl.im ++ List.replicate (N.length - ps.length) .any)) : Cal P w K mg base (k + 1) x (PmX pre args out) := by
  obtain ⟨f, fd, F, hm⟩ := T.ex
  refine ⟨f, fd, ps, ?_, hm, F.kp, F.binds hb⟩
  refine F.okX S (fun vs H Q E h => ?_) (fun cdv A outer s H vs Q E hr h => ?_)
  · obtain ⟨g, F1, _, _, h1, _⟩ := h
    rw [← h1.len, hn]
  · obtain ⟨g, F1, hp, hs, h1, q⟩ := h
    refine ⟨_, pss_ev, ?_⟩
    have hpl : ps.length ≤ N.length := by have := congrArg List.length S.pre; rw [List.length_take] at this; omega
    have en := en_start (N := N) hs h1 (by rw [hn]; exact hpl)
    rw [hn] at en
    exact body _ rfl rfl rfl rfl rfl ⟨rfl, rfl, S.nd, hr, rfl, passes_of rfl⟩ (fun _ => rfl) g F1 H { nx := fun _ H' => Q .non H', rt := Q } E (takes_of rfl rfl rfl rfl) hp q (fun _ _ => rfl) F1 H _ en
theorem PrX.rt {F H : Hp} {D : Ends} {E : XK} {o : Out} {ret : Ret} (h : PrX F H o D.rt E) (e : o = .ok ret) : RT F H ret D := by
  subst e
  exact h
theorem PrX.er {F0 H0 : Hp} {Q : VK} {E : XK} {o : Out} {C : Addr} (h : PrX F0 H0 o Q E) (e : o = .err C) : ∀ H', Same H0 H' → E (.ref C) none H' := by
  subst e
  exact h
theorem PrX.erF {F0 H0 : Hp} {Q : VK} {E : XK} {o : Out} {C : Addr} {fs : List (Str × V)} (h : PrX F0 H0 o Q E) (e : o = .errF C fs) : ∀ H' d, Same H0 H' → H0 d = none → H' d = some (.xd fs) → E (.ref C) (some d) H' := by
  subst e
  exact h
end
end DL

set_option linter.all false
set_option maxHeartbeats 4000000
namespace DL
theorem den_ne (q : Rat) : ((q.den : Int) : Rat) ≠ 0 := by
  have := q.den_nz
  simp [this]
theorem q_eq (q : Rat) : q = (q.num : Rat) / ((q.den : Int) : Rat) := by
  have h2 := Rat.mkRat_self q
  rw [Rat.mkRat_eq_div] at h2
  exact h2.symm
theorem aux_plus (a b c d : Rat) (hb : b ≠ 0) (hd : d ≠ 0) : (a * d + c * b) / (b * d) = a / b + c / d := by grind
theorem aux_minus (a b c d : Rat) (hb : b ≠ 0) (hd : d ≠ 0) : (a * d - c * b) / (b * d) = a / b - c / d := by grind
theorem aux_times (a b c d : Rat) (hb : b ≠ 0) (hd : d ≠ 0) : (a * c) / (b * d) = a / b * (c / d) := by grind
theorem r_plus (q r : Rat) : (((q.num * (r.den : Int) + r.num * (q.den : Int) : Int)) : Rat) / ((((q.den : Int) * (r.den : Int) : Int)) : Rat) = q + r := by
  conv => rhs; rw [q_eq q, q_eq r]
  rw [← aux_plus _ _ _ _ (den_ne q) (den_ne r), Rat.intCast_add, Rat.intCast_mul, Rat.intCast_mul, Rat.intCast_mul]
theorem r_minus (q r : Rat) : (((q.num * (r.den : Int) - r.num * (q.den : Int) : Int)) : Rat) / ((((q.den : Int) * (r.den : Int) : Int)) : Rat) = q - r := by
  conv => rhs; rw [q_eq q, q_eq r]
  rw [← aux_minus _ _ _ _ (den_ne q) (den_ne r), Rat.intCast_sub, Rat.intCast_mul, Rat.intCast_mul, Rat.intCast_mul]
theorem r_times (q r : Rat) : (((q.num * r.num : Int)) : Rat) / ((((q.den : Int) * (r.den : Int) : Int)) : Rat) = q * r := by
  conv => rhs; rw [q_eq q, q_eq r]
  rw [← aux_times _ _ _ _ (den_ne q) (den_ne r), Rat.intCast_mul, Rat.intCast_mul]
/-- lowest terms -/
def lowC (t b : Int) : Int := if b < 0 then -(Int.gcd t b : Int) else (Int.gcd t b : Int)
theorem gcd_pos {t b : Int} (hb : b ≠ 0) : 0 < (Int.gcd t b : Int) := by
  have : 0 < Int.gcd t b := Nat.pos_of_ne_zero fun z => hb (Int.gcd_eq_zero_iff.mp z).2
  omega
theorem lowC_ne {t b : Int} (hb : b ≠ 0) : lowC t b ≠ 0 := by
  have := gcd_pos (t := t) hb
  unfold lowC
  split <;> omega
theorem lowC_dvd (t b : Int) : lowC t b ∣ t ∧ lowC t b ∣ b := by
  have h1 := Int.gcd_dvd_left t b
  have h2 := Int.gcd_dvd_right t b
  unfold lowC
  split
  · exact ⟨Int.neg_dvd.mpr h1, Int.neg_dvd.mpr h2⟩
  · exact ⟨h1, h2⟩
theorem rat_num {t b : Int} (hb : b ≠ 0) : ((t : Rat) / (b : Rat)).num = t.fdiv (lowC t b) := by
  rw [← Rat.divInt_eq_div, Rat.num_divInt, Int.fdiv_eq_ediv_of_dvd (lowC_dvd t b).1, Int.gcd_comm]
  unfold lowC
  split
  · rename_i h
    rw [Int.sign_eq_neg_one_of_neg h, Int.ediv_neg, Int.neg_mul, Int.one_mul, Int.neg_ediv_of_dvd (Int.gcd_dvd_left t b)]
  · rename_i h
    rw [Int.sign_eq_one_of_pos (by omega), Int.one_mul]
theorem rat_den {t b : Int} (hb : b ≠ 0) : (((t : Rat) / (b : Rat)).den : Int) = b.fdiv (lowC t b) := by
  rw [← Rat.divInt_eq_div, Rat.den_divInt, if_neg hb, Int.fdiv_eq_ediv_of_dvd (lowC_dvd t b).2, Int.gcd_comm]
  unfold lowC
  have hd := Int.gcd_dvd_right t b
  split
  · rename_i h
    rw [Int.ediv_neg, ← Int.neg_ediv_of_dvd hd, Int.natCast_ediv]
    congr 1
    omega
  · rename_i h
    rw [Int.natCast_ediv]
    congr 1
    omega
theorem rat_den1 {t b : Int} (hb : b ≠ 0) (h : lowC t b = b) : ((t : Rat) / (b : Rat)).den = 1 := by
  have := rat_den (t := t) hb
  rw [h, Int.fdiv_self hb] at this
  omega
theorem rat_denN {t b : Int} (hb : b ≠ 0) (h : lowC t b ≠ b) : b.fdiv (lowC t b) ≠ 1 := by
  intro z
  rw [Int.fdiv_eq_ediv_of_dvd (lowC_dvd t b).2] at z
  have := Int.eq_mul_of_ediv_eq_right (lowC_dvd t b).2 z
  omega
end DL

set_option linter.all false
set_option maxHeartbeats 4000000
namespace DL
open PySem L2
theorem lg_lowC {t b : Int} (hb : b ≠ 0) : Lg (lowC t b) ≤ Lg b := lg_le (by
  have h : (Int.gcd t b) ≤ b.natAbs := Nat.le_of_dvd (by omega) (by have := Int.natAbs_dvd_natAbs.mpr (Int.gcd_dvd_right t b); simpa using this)
  unfold lowC
  split <;> omega)
theorem den_neI (q : Rat) : (q.den : Int) ≠ 0 := by
  have := q.den_nz
  omega
theorem dd_ne (q r : Rat) : (q.den : Int) * (r.den : Int) ≠ 0 := Int.mul_ne_zero (den_neI q) (den_neI r)
theorem r_less (q r : Rat) : decide (q.num * (r.den : Int) < r.num * (q.den : Int)) = decide (q < r) := by
  simp [Rat.lt_iff]
theorem r_floor (q : Rat) : q.num.fdiv (q.den : Int) = q.floor := by
  rw [Int.fdiv_eq_ediv_of_nonneg _ (by omega), Rat.floor_def]
theorem r_ceil (q : Rat) : -((-q.num).fdiv (q.den : Int)) = q.ceil := by
  rw [Int.fdiv_eq_ediv_of_nonneg _ (by omega), Rat.ceil_eq_neg_floor_neg, Rat.floor_def]
  rfl
end DL

set_option Elab.async false
set_option linter.all false
set_option maxRecDepth 100000
set_option maxHeartbeats 4000000
namespace DL
open PySem PySem.Spec PyProof.Rows L2
section
variable {X : Cx} {N : List Str} {sc : Scope} {k j : Nat} {Γ Γ' Γ1 : List Sl} {tg it a b c e : Expr} {es rest : List Expr} {r ra rb rc r' : Rep} {rs l l2 : List Rep} {pos p p2 : Pos} {x : Str} {i : Nat} {ws ws' : List Nat} {F0 H0 F1 F H : Hp} {σ : L2.St} {st body : List Stmt} {D : Ends} {n : Nat} {rr : Nat → Rep}
variable {α : Type} {R : α → Rep} {xs : List α}
theorem SR.to {rr' : Nat → Rep} (h : SR X Γ tg it n rr) (e : ∀ i, i < n → rr i = rr' i) : SR X Γ tg it n rr' := fun F0 H0 F H σ en Q q => h F0 H0 F H σ en Q fun J F1 H1 g wk => q J F1 H1 g ⟨wk.stop, wk.go, fun i F H x H' s s2 hi hy => by
  obtain ⟨F', g', hx⟩ := wk.yld i F H x H' s s2 hi hy
  exact ⟨F', g', e i hi ▸ hx⟩⟩
theorem getD_map (d : α) {i : Nat} (hi : i < xs.length) : (xs.map R).getD i rNon = R (xs.getD i d) := by
  rw [List.getD_eq_getElem?_getD, List.getD_eq_getElem?_getD, List.getElem?_map, List.getElem?_eq_getElem hi]
  rfl
theorem sr_listM (d : α) (h : DE X Γ it (rLst X.K (xs.map R))) : SR X Γ tg it xs.length (fun i => R (xs.getD i d)) := by
  have h2 := sr_list (tg := tg) h
  rw [List.length_map] at h2
  exact h2.to fun i hi => getD_map d hi
theorem atI_map (d : α) {n : Int} (h0 : 0 ≤ n) (h1 : n < xs.length) : atI (xs.map R) n = some (R (xs.getD n.toNat d)) := by
  obtain ⟨m, rfl⟩ : ∃ m : Nat, n = m := ⟨n.toNat, by omega⟩
  refine atI_nat ?_
  have hm : m < xs.length := by omega
  rw [List.getElem?_map, List.getElem?_eq_getElem hm, Int.toNat_natCast, List.getD_eq_getElem?_getD, List.getElem?_eq_getElem hm]
  rfl
theorem de_ixM {n : Int} (d : α) (h0 : 0 ≤ n) (h1 : n < xs.length) (ha : DE X Γ a (rLst X.K (xs.map R))) (hb : DE X Γ b (rInt n)) (hs : PlainIx b := by exact fun _ _ => rfl) : DE X Γ (.Subscript a b pos) (R (xs.getD n.toNat d)) :=
  de_ixL (atI_map d h0 h1) ha hb hs
theorem de_lenM (B : BX X N sc k) (hm : X.mg "len" = none) (h : DE X Γ e (rLst X.K (xs.map R))) (hg : sc.names.lookup ("len" : Str) = some NameKind.globalImplicit) (he : starEach (e :: []) X.env = (false, eval e X.env) :: starEach [] X.env := by rfl) : DE X Γ (.Call (.Name "len" p) [e] [] pos) (rInt xs.length) := by
  have := de_lenL B hm h hg he (p := p) (pos := pos)
  rwa [List.length_map] at this
/-! a number or None -/
def rOpt (K : PySem.W.Frag) : Option Rat → Rep
  | none => rNon
  | some q => rNum K q
theorem de_n2o {q : Rat} (h : DE X Γ e (rNum X.K q)) : DE X Γ e (rOpt X.K (some q)) := h
theorem de_e2o (h : DE X Γ e rNon) : DE X Γ e (rOpt X.K none) := h
theorem de_o2n {o : Option Rat} (hn : o.isNone = false) (h : DE X Γ e (rOpt X.K o)) : DE X Γ e (rNum X.K (o.getD 0)) := by
  cases o with
  | none => cases hn
  | some q => exact h
theorem de_isNo {o : Option Rat} (h : DE X Γ a (rOpt X.K o)) : DE X Γ (.Compare a [.Is] [.Constant .none j p] pos) (rBl o.isNone) := by
  cases o with
  | none => exact de_isN h
  | some q => exact de_isN0 notNon_num h
/-! is True, is False -/
theorem de_isBl {u v : Bool} {jj : Nat} (ha : DE X Γ a (rBl u)) : DE X Γ (.Compare a [.Is] [.Constant (.bool v) jj p] pos) (rBl (u == v)) := de_cmp op_isBl b2_isB ha de_bl (nomark _)
theorem dt_isN (ha : DE X Γ a rNon) {jj : Nat} : DT X Γ (.Compare a [.Is] [.Constant .none jj p] pos) true := dt_cmp op_isN (fun F H x y s h1 h2 Q q => by cases h1; cases h2; exact ⟨rfl, q _ F H (.refl s) rfl⟩) ha de_non (nomark _)
theorem dt_isN0 (hn : NotNon r) (ha : DE X Γ a r) {jj : Nat} : DT X Γ (.Compare a [.Is] [.Constant .none jj p] pos) false := dt_cmp op_isN (fun F H x y s h1 h2 Q q => by
  cases h2
  exact ⟨rfl, q _ F H (.refl s) (by show V.bl _ = V.bl _; rw [decide_eq_false (hn F x h1)])⟩) ha de_non (nomark _)
theorem dt_isNo {o : Option Rat} (h : DE X Γ a (rOpt X.K o)) {jj : Nat} : DT X Γ (.Compare a [.Is] [.Constant .none jj p] pos) o.isNone := by
  cases o with
  | none => exact dt_isN h
  | some q => exact dt_isN0 notNon_num h
/-! x in a list of numbers -/
end
end DL

set_option Elab.async false
set_option linter.all false
set_option maxRecDepth 100000
set_option maxHeartbeats 4000000
namespace DL
open PySem PySem.Spec PyProof.Rows L2
/-! ### comprehensions -/
def IsBlk (X : Cx) (scope : Scope) (X' : Cx) : Prop := ∃ (s : Shared) (H : Hp) (C : Addr) (cl : List (Str × Addr)) (fp : List Addr), X' = X.blk s H scope (compEnvC scope cl C X.env) fp
def TVs (X : Cx) (ifs : List Expr) (σ : L2.St) (H : Hp) (Q : Bool → Hp → Prop) : Prop := ∀ (pins : List (Addr × Obj)) (s : Shared), Inv X pins σ H s →
    wpAny (model X.prog X.w) X.A (forIn ifs true fun c r => if r = true then do let ok ← isTrue c X.env (eval c X.env); pure (ForInStep.yield ok) else pure (ForInStep.yield r)) (TP X pins σ Q) X.xe s
theorem TVs.of {X : Cx} {ifs : List Expr} {te : TT} {σ : L2.St} {H : Hp} {Q : Bool → Hp → Prop} (h : PTs X ifs te) (q : te σ H Q) : TVs X ifs σ H Q := fun pins s I => h.run pins s σ H Q I q
def DTs (X : Cx) (Γ : List Sl) (ifs : List Expr) (b : Bool) : Prop := ∀ F0 H0 F H σ, En F0 H0 F H σ Γ → ∀ Q : Bool → Hp → Prop, (∀ F' H', Gr F H F' H' → Q b H') → TVs X ifs σ H Q
theorem dts_nil {X : Cx} {Γ : List Sl} : DTs X Γ [] true := fun F0 H0 F H σ en Q q => .of pts_nil (q F H (.refl en.gr.s))
theorem dts_one {X : Cx} {Γ : List Sl} {c : Expr} {b : Bool} (h : DT X Γ c b) : DTs X Γ [c] b := fun F0 H0 F H σ en Q q => .of (pts_one pt_ev) (h F0 H0 F H σ en Q q)
def wipeG (Γ : List Sl) : List Nat → List Sl
  | [] => Γ
  | v :: vs => (wipeG Γ vs).set v .any
theorem En.wipe {F0 H0 F H : Hp} {σ : L2.St} {Γ : List Sl} (e : En F0 H0 F H σ Γ) : ∀ vs : List Nat, En F0 H0 F H (L2.wipe σ vs) (wipeG Γ vs)
  | [] => e
  | v :: vs => (En.wipe e vs).setAny none
section
variable {X : Cx} {N : List Str} {sc : Scope} {k j : Nat} {Γ Γ' Γ1 : List Sl} {tg it a b c e : Expr} {ifs es rest : List Expr} {r ra rb rc r' : Rep} {rs l l2 : List Rep} {pos p p2 : Pos} {x : Str} {i : Nat} {ws ws' : List Nat} {F0 H0 F1 F H : Hp} {σ : L2.St} {st body : List Stmt} {D : Ends} {n : Nat} {rr : Nat → Rep}
variable {scope : Scope} {own : List (Str × Nat)}
theorem BX.blk (B : BX X N sc k) {X' : Cx} (h : IsBlk X scope X') : BX X' N (relS scope sc) k := by
  obtain ⟨s, H, C, cl, fp, rfl⟩ := h
  exact ⟨B.hN, by show relS scope X.env.scope = _; rw [B.hsc], B.nd, B.room, B.calm, PassesOwn.never⟩
theorem wipe_wipe (σ : L2.St) (us : List Nat) : L2.wipe (L2.wipe σ us) us = L2.wipe σ us := by
  apply List.ext_getElem?
  intro j
  rw [wipe_get us (L2.wipe σ us) j, wipe_length]
  by_cases hj : j ∈ us ∧ j < σ.length
  · rw [if_pos hj, wipe_get us σ j, if_pos hj]
  · rw [if_neg hj]
theorem filter_snoc (tb : Nat → Bool) (f : Nat → Rep) (i : Nat) : ((List.range (i + 1)).filter tb).map f = ((List.range i).filter tb).map f ++ (if tb i = true then [f i] else []) := by
  rw [List.range_succ, List.filter_append, List.map_append]
  congr 1
  by_cases h : tb i = true
  · rw [if_pos h]; simp [h]
  · rw [if_neg h]; simp [h]
theorem dl_lc (B : BX X N sc k) (own : List (Str × Nat)) (hi : SR X Γ tg it n rr) (ok : BlkOk N sc scope own) (G1 : Nat → List Sl) (tb : Nat → Bool) (f : Nat → Rep) (hn : n < sizeLine) (hw : ∀ i ∈ ws, i ∈ own.map (·.2))
    (hg : ∀ (s : Shared) (H : Hp) (C : Addr) (cl : List (Str × Addr)) (fp : List Addr), BX (X.blk s H scope (compEnvC scope cl C X.env) fp) N (relS scope sc) k → ∀ i, i < n → DG (X.blk s H scope (compEnvC scope cl C X.env) fp) (wipeG Γ (own.map (·.2))) tg (rr i) (G1 i) ws)
    (ht : ∀ (s : Shared) (H : Hp) (C : Addr) (cl : List (Str × Addr)) (fp : List Addr), BX (X.blk s H scope (compEnvC scope cl C X.env) fp) N (relS scope sc) k → ∀ i, i < n → DTs (X.blk s H scope (compEnvC scope cl C X.env) fp) (G1 i) ifs (tb i))
    (he : ∀ (s : Shared) (H : Hp) (C : Addr) (cl : List (Str × Addr)) (fp : List Addr), BX (X.blk s H scope (compEnvC scope cl C X.env) fp) N (relS scope sc) k → ∀ i, i < n → tb i = true → DE (X.blk s H scope (compEnvC scope cl C X.env) fp) (G1 i) e (f i)) (hs : ∀ x, foldedSetIterable it X.env x = pure x := by intro _; rfl) :
    DL X Γ (.ListComp e [⟨tg, it, ifs, 0⟩] scope pos) (((List.range n).filter tb).map f) := fun F0 H0 F H σ en Q q => by
  replace hg : ∀ X', IsBlk X scope X' → BX X' N (relS scope sc) k → ∀ i, i < n → DG X' (wipeG Γ (own.map (·.2))) tg (rr i) (G1 i) ws := fun X' h B => by obtain ⟨s, H, C, cl, fp, rfl⟩ := h; exact hg s H C cl fp B
  replace ht : ∀ X', IsBlk X scope X' → BX X' N (relS scope sc) k → ∀ i, i < n → DTs X' (G1 i) ifs (tb i) := fun X' h B => by obtain ⟨s, H, C, cl, fp, rfl⟩ := h; exact ht s H C cl fp B
  replace he : ∀ X', IsBlk X scope X' → BX X' N (relS scope sc) k → ∀ i, i < n → tb i = true → DE X' (G1 i) e (f i) := fun X' h B => by obtain ⟨s, H, C, cl, fp, rfl⟩ := h; exact he s H C cl fp B
  let g : TG := fun v σ H Q => ∀ X', IsBlk X scope X' → GV X' tg v σ H Q
  let tt : TT := fun σ H Q => ∀ X', IsBlk X scope X' → TVs X' ifs σ H Q
  let te : TE := fun σ H Q => ∀ X', IsBlk X scope X' → EV X' e σ H Q
  have pg : ∀ (s : Shared) (H : Hp) (C : Addr) (cl : List (Str × Addr)) (fp : List Addr), PG (X.blk s H scope (compEnvC scope cl C X.env) fp) tg g := fun s H C cl fp => ⟨fun pins s' σ H v u Q I r h => h _ ⟨s, _, C, cl, fp, rfl⟩ pins s' u I r⟩
  have pt : ∀ (s : Shared) (H : Hp) (C : Addr) (cl : List (Str × Addr)) (fp : List Addr), PTs (X.blk s H scope (compEnvC scope cl C X.env) fp) ifs tt := fun s H C cl fp => ⟨fun pins s' σ H Q I h => h _ ⟨s, _, C, cl, fp, rfl⟩ pins s' I⟩
  have pe : ∀ (s : Shared) (H : Hp) (C : Addr) (cl : List (Str × Addr)) (fp : List Addr), PE (X.blk s H scope (compEnvC scope cl C X.env) fp) e te := fun s H C cl fp => ⟨fun pins s' σ H Q I h => h _ ⟨s, _, C, cl, fp, rfl⟩ pins s' I⟩
  refine .of (pe_lc B.calm (by rw [B.hN]; exact B.nd) pi_ev (by rw [B.hN, B.hsc]; exact ok) pg pt pe hs) ?_
  refine hi F0 H0 F H σ en _ fun J F1 H1 g1 wk => fun D hD => ?_
  have en1 := en.grow g1
  refine ⟨fun i m H => m = n - i ∧ i ≤ n ∧ ∃ F vs, Gr F1 H1 F H ∧ F D = none ∧ H D = some (.lst vs) ∧ RL F (((List.range i).filter tb).map f) vs, ⟨n, by simp, Nat.zero_le _, F1, [], .newOwn g1.s hD, g1.s.free hD, upd_same, .nil⟩, fun i m H2 hw2 => ?_⟩
  obtain ⟨rfl, hle, F2, vs, g2, d2, e2, l2⟩ := hw2
  have s2 : Same F1 H2 := g2.f.trans g2.s
  by_cases hlt : i < n
  · refine .inr ⟨wk.go i H2 s2 hlt, fun H => i + 1 ≤ n ∧ ∃ F vs, Gr F1 H1 F H ∧ F D = none ∧ H D = some (.lst vs) ∧ RL F (((List.range (i + 1)).filter tb).map f) vs, fun H' h => ⟨n - (i + 1), by omega, rfl, h.1, h.2⟩, fun x H3 hy => ?_⟩
    obtain ⟨F3, g3, hx⟩ := wk.yld i F2 H2 x H3 g2.f g2.s hlt hy
    have en3 := ((en1.grow (g2.trans g3)).wipe (own.map (·.2)))
    -- the target is stored
    have key : ∀ X', IsBlk X scope X' → ∀ Q : L2.St → Hp → Prop, (∀ F' H' σ', Gr F3 H3 F' H' → En F0 H0 F' H' σ' (G1 i) → Off ws (L2.wipe σ (own.map (·.2))) σ' → Q σ' H') → GV X' tg x (L2.wipe σ (own.map (·.2))) H3 Q := fun X' hX' Q hQ => hg X' hX' (B.blk hX') i hlt F0 H0 F3 H3 _ x en3 hx Q hQ
    intro X' hX'
    refine key X' hX' _ fun F4 H4 σ4 g4 en4 off => ⟨?_, fun X2 hX2 => ?_⟩
    · have := off (own.map (·.2)) hw
      rw [this]
      exact wipe_wipe _ _
    refine ht X2 hX2 (B.blk hX2) i hlt F0 H0 F4 H4 σ4 en4 _ fun F5 H5 g5 => ?_
    have gg5 := ((g2.trans g3).trans g4).trans g5
    have d5 : F5 D = none := (((g3.trans g4).trans g5).n D (by rw [e2]; exact fun z => nomatch z) d2)
    have h5 : H5 D = some (.lst vs) := ((g3.trans g4).trans g5).h _ _ e2
    have l5 := l2.mono ((g3.trans g4).trans g5).f
    cases hb : tb i with
    | false =>
      rw [if_neg Bool.false_ne_true]
      refine ⟨hlt, F5, vs, gg5, d5, h5, ?_⟩
      rw [filter_snoc, hb, if_neg Bool.false_ne_true, List.append_nil]
      exact l5
    | true =>
      rw [if_pos rfl]
      intro X3 hX3
      refine he X3 hX3 (B.blk hX3) i hlt hb F0 H0 F5 H5 σ4 (en4.grow g5) _ fun y F6 H6 g6 hy6 => ?_
      have h6 := g6.h _ _ h5
      have d6 := g6.n D (by rw [h5]; exact fun z => nomatch z) d5
      have hlen : vs.length < sizeLine := by
        rw [← l5.len, List.length_map]
        have := List.length_filter_le tb (List.range i)
        rw [List.length_range] at this
        omega
      refine ⟨vs, h6, hlen, hlt, F6, vs ++ [y], ?_, d6, upd_same, ?_⟩
      · have gg6 := gg5.trans g6
        exact ⟨gg6.f, fun b o z => by rw [upd_ne (ne_of_none z hD)]; exact gg6.h b o z, same_out gg6.s d6, gg6.n⟩
      · rw [filter_snoc, hb, if_pos rfl]
        exact (l5.mono g6.f).snoc hy6
  · have e : i = n := by omega
    subst e
    refine .inl ⟨wk.stop i H2 s2 (Nat.le_refl _), ?_⟩
    exact q D vs F2 H2 (g1.trans g2) (g1.h.free hD) d2 e2 l2
/-- over a list, without a test -/
theorem lc_all {α : Type} {R : α → Rep} {xs : List α} {d : α} {f : α → Rep} : ((List.range xs.length).filter fun _ => true).map (fun i => f (xs.getD i d)) = xs.map f := by
  rw [List.filter_eq_self.mpr (fun _ _ => rfl)]
  apply List.ext_getElem
  · simp
  · intro i h1 h2
    simp at h1 h2
    simp [List.getD_eq_getElem?_getD, List.getElem?_eq_getElem h2]
end
end DL

set_option linter.all false
set_option maxHeartbeats 4000000
namespace DL
open PySem L2
/-! sizes of numbers -/
theorem lg_dvd {a b : Int} (hb : b ≠ 0) (h : a ∣ b) : Lg a ≤ Lg b := lg_le (Nat.le_of_dvd (by omega) (Int.natAbs_dvd_natAbs.mpr h))
theorem fdiv_lg {a b : Int} (hb : b ≠ 0) (h : b ∣ a) : Lg (a.fdiv b) ≤ Lg a := by
  rw [Int.fdiv_eq_ediv_of_dvd h]
  by_cases h0 : a = 0
  · subst h0; simp
  · exact lg_dvd h0 (Int.ediv_dvd_of_dvd h)
theorem sz_ratio {t b : Int} {n : Nat} (hb : b ≠ 0) (h1 : Lg t ≤ n) (h2 : Lg b ≤ n) : Sz n ((t : Rat) / (b : Rat)) := by
  have hd := lowC_dvd t b
  refine ⟨?_, ?_⟩
  · rw [rat_num hb]
    exact Nat.le_trans (fdiv_lg (lowC_ne hb) hd.1) h1
  · rw [rat_den hb]
    exact Nat.le_trans (fdiv_lg (lowC_ne hb) hd.2) h2
theorem Sz.mono {m n : Nat} {q : Rat} (h : Sz m q) (k : m ≤ n) : Sz n q := ⟨Nat.le_trans h.1 k, Nat.le_trans h.2 k⟩
theorem sz_add {m n : Nat} {q r : Rat} (h : Sz m q) (k : Sz n r) : Sz (m + n + 2) (q + r) := by
  rw [← r_plus]
  refine sz_ratio (dd_ne q r) ?_ ?_ <;> grind [lg_mul, lg_add, Sz]
theorem sz_sub {m n : Nat} {q r : Rat} (h : Sz m q) (k : Sz n r) : Sz (m + n + 2) (q - r) := by
  rw [← r_minus]
  refine sz_ratio (dd_ne q r) ?_ ?_ <;> grind [lg_mul, lg_sub, Sz]
theorem sz_mul {m n : Nat} {q r : Rat} (h : Sz m q) (k : Sz n r) : Sz (m + n + 1) (q * r) := by
  rw [← r_times]
  refine sz_ratio (dd_ne q r) ?_ ?_ <;> grind [lg_mul, Sz]
theorem sz_int {n : Nat} {i : Int} (h : Lg i ≤ n) : Sz n (i : Rat) := by
  refine ⟨?_, ?_⟩
  · rw [Rat.num_intCast]; exact h
  · rw [Rat.den_intCast]
    have : Lg ((1 : Nat) : Int) = 0 := by decide
    omega
/-! the least common multiple of the bottoms -/
theorem take_snoc {α : Type} {xs : List α} {d : α} {i : Nat} (hi : i < xs.length) : xs.take (i + 1) = xs.take i ++ [xs.getD i d] := by
  rw [List.take_add_one, List.getElem?_eq_getElem hi, List.getD_eq_getElem?_getD, List.getElem?_eq_getElem hi]
  rfl
theorem getD_mem {α : Type} {xs : List α} {d : α} {i : Nat} (hi : i < xs.length) : xs.getD i d ∈ xs := by
  rw [List.getD_eq_getElem?_getD, List.getElem?_eq_getElem hi]
  exact List.getElem_mem hi
/-! the least and the greatest -/
def stepMin (o : Option Rat) (q : Rat) : Option Rat := if (o.isNone || decide (q < o.getD 0)) = true then some q else o
def stepMax (o : Option Rat) (q : Rat) : Option Rat := if (o.isNone || decide (o.getD 0 < q)) = true then some q else o
def minO (qs : List Rat) : Option Rat := qs.foldl stepMin none
def maxO (qs : List Rat) : Option Rat := qs.foldl stepMax none
theorem minO_step {qs : List Rat} {i : Nat} (hi : i < qs.length) : minO (qs.take (i + 1)) = stepMin (minO (qs.take i)) (qs.getD i 0) := by
  unfold minO
  rw [take_snoc (d := 0) hi, List.foldl_append]
  rfl
theorem maxO_step {qs : List Rat} {i : Nat} (hi : i < qs.length) : maxO (qs.take (i + 1)) = stepMax (maxO (qs.take i)) (qs.getD i 0) := by
  unfold maxO
  rw [take_snoc (d := 0) hi, List.foldl_append]
  rfl
theorem minO_mem : ∀ (qs : List Rat) (m : Rat), minO qs = some m → m ∈ qs ∧ ∀ q ∈ qs, ¬ q < m := by
  have key : ∀ (qs : List Rat) (o : Option Rat) (m : Rat), qs.foldl stepMin o = some m → (m ∈ qs ∨ o = some m) ∧ (∀ q ∈ qs, ¬ q < m) ∧ (∀ x, o = some x → ¬ x < m) := by
    intro qs
    induction qs with
    | nil => intro o m h; exact ⟨.inr h, fun _ z => by simp at z, fun x hx => by rw [show o = some m from h] at hx; cases hx; grind⟩
    | cons q qs ih =>
      intro o m h
      rw [List.foldl_cons] at h
      obtain ⟨h1, h2, h3⟩ := ih _ _ h
      unfold stepMin at h1 h3
      by_cases hc : (o.isNone || decide (q < o.getD 0)) = true
      · rw [if_pos hc] at h1 h3
        have hq := h3 q rfl
        refine ⟨.inl ?_, ?_, ?_⟩
        · rcases h1 with z | z
          · exact List.mem_cons_of_mem _ z
          · cases z; exact List.mem_cons_self
        · intro y hy
          rcases List.mem_cons.mp hy with rfl | z
          · exact hq
          · exact h2 y z
        · intro x hx
          subst hx
          simp at hc
          grind
      · rw [if_neg hc] at h1 h3
        refine ⟨?_, ?_, h3⟩
        · rcases h1 with z | z
          · exact .inl (List.mem_cons_of_mem _ z)
          · exact .inr z
        · intro y hy
          rcases List.mem_cons.mp hy with rfl | z
          · cases o with
            | none => simp at hc
            | some x =>
              have := h3 x rfl
              simp at hc
              grind
          · exact h2 y z
  intro qs m h
  obtain ⟨h1, h2, _⟩ := key qs none m h
  rcases h1 with z | z
  · exact ⟨z, h2⟩
  · cases z
theorem maxO_mem : ∀ (qs : List Rat) (m : Rat), maxO qs = some m → m ∈ qs ∧ ∀ q ∈ qs, ¬ m < q := by
  have key : ∀ (qs : List Rat) (o : Option Rat) (m : Rat), qs.foldl stepMax o = some m → (m ∈ qs ∨ o = some m) ∧ (∀ q ∈ qs, ¬ m < q) ∧ (∀ x, o = some x → ¬ m < x) := by
    intro qs
    induction qs with
    | nil => intro o m h; exact ⟨.inr h, fun _ z => by simp at z, fun x hx => by rw [show o = some m from h] at hx; cases hx; grind⟩
    | cons q qs ih =>
      intro o m h
      rw [List.foldl_cons] at h
      obtain ⟨h1, h2, h3⟩ := ih _ _ h
      unfold stepMax at h1 h3
      by_cases hc : (o.isNone || decide (o.getD 0 < q)) = true
      · rw [if_pos hc] at h1 h3
        have hq := h3 q rfl
        refine ⟨.inl ?_, ?_, ?_⟩
        · rcases h1 with z | z
          · exact List.mem_cons_of_mem _ z
          · cases z; exact List.mem_cons_self
        · intro y hy
          rcases List.mem_cons.mp hy with rfl | z
          · exact hq
          · exact h2 y z
        · intro x hx
          subst hx
          simp at hc
          grind
      · rw [if_neg hc] at h1 h3
        refine ⟨?_, ?_, h3⟩
        · rcases h1 with z | z
          · exact .inl (List.mem_cons_of_mem _ z)
          · exact .inr z
        · intro y hy
          rcases List.mem_cons.mp hy with rfl | z
          · cases o with
            | none => simp at hc
            | some x =>
              have := h3 x rfl
              simp at hc
              grind
          · exact h2 y z
  intro qs m h
  obtain ⟨h1, h2, _⟩ := key qs none m h
  rcases h1 with z | z
  · exact ⟨z, h2⟩
  · cases z
theorem sz_zero (n : Nat) : Sz n 0 := ⟨Nat.le_trans (show Lg 0 ≤ 0 by decide) (Nat.zero_le _), Nat.le_trans (show Lg ((1 : Nat) : Int) ≤ 0 by decide) (Nat.zero_le _)⟩
theorem minO_sz {qs : List Rat} {n i : Nat} (h : ∀ q ∈ qs, Sz n q) (hi : i < qs.length) : Sz n (qs.getD i 0) ∧ Sz n ((minO (qs.take i)).getD 0) := by
  refine ⟨h _ (getD_mem hi), ?_⟩
  cases e : minO (qs.take i) with
  | none => exact sz_zero n
  | some m => exact h m (List.mem_of_mem_take (minO_mem _ _ e).1)
theorem maxO_sz {qs : List Rat} {n i : Nat} (h : ∀ q ∈ qs, Sz n q) (hi : i < qs.length) : Sz n ((maxO (qs.take i)).getD 0) ∧ Sz n (qs.getD i 0) := by
  refine ⟨?_, h _ (getD_mem hi)⟩
  cases e : maxO (qs.take i) with
  | none => exact sz_zero n
  | some m => exact h m (List.mem_of_mem_take (maxO_mem _ _ e).1)
/-! the law's Euclid -/
def eu (i : Nat) (p : Int × Int) : Int × Int := match i with
  | 0 => p
  | i + 1 => let q := eu i p; (q.2, q.1.fmod q.2)
structure EuJ (a b : Int) (i : Nat) : Prop where
  g : Int.gcd (eu i (a, b)).1 (eu i (a, b)).2 = Int.gcd a b
  p1 : 0 ≤ (eu i (a, b)).1
  p2 : 0 ≤ (eu i (a, b)).2
  lt : 1 ≤ i → (eu i (a, b)).2 < (eu i (a, b)).1
  bd : 1 ≤ i → (eu i (a, b)).1 * (eu i (a, b)).2 * 2 ^ (i - 1) ≤ a * b
theorem euJ0 {a b : Int} (ha : 0 ≤ a) (hb : 0 ≤ b) : EuJ a b 0 := ⟨rfl, ha, hb, fun z => by omega, fun z => by omega⟩
theorem euJ_step {a b : Int} {i : Nat} (h : EuJ a b i) (hy : (eu i (a, b)).2 ≠ 0) : EuJ a b (i + 1) := by
  obtain ⟨g, p1, p2, lt, bd⟩ := h
  have e1 : (eu (i + 1) (a, b)).1 = (eu i (a, b)).2 := rfl
  have e2 : (eu (i + 1) (a, b)).2 = (eu i (a, b)).1.fmod (eu i (a, b)).2 := rfl
  generalize hx : (eu i (a, b)).1 = x at *
  generalize hyy : (eu i (a, b)).2 = y at *
  have hm : x.fmod y = x % y := Int.fmod_eq_emod_of_nonneg _ p2
  have m0 : 0 ≤ x % y := Int.emod_nonneg _ hy
  have m1 : x % y < y := Int.emod_lt_of_pos _ (by omega)
  refine ⟨?_, ?_, ?_, ?_, ?_⟩
  · rw [e1, e2, hm, ← g, Int.emod_def, Int.gcd_sub_mul_left_right, Int.gcd_comm]
  · rw [e1]; exact p2
  · rw [e2, hm]; exact m0
  · intro _; rw [e1, e2, hm]; exact m1
  · intro _
    rw [e1, e2, hm]
    by_cases h0 : i = 0
    · subst h0
      have hxa : x = a := hx.symm
      have hyb : y = b := hyy.symm
      subst hxa hyb
      have : x % y ≤ x := by
        have := Int.mul_ediv_add_emod x y
        have : 0 ≤ y * (x / y) := Int.mul_nonneg p2 (Int.ediv_nonneg p1 p2)
        omega
      simp only [Nat.zero_add, Nat.sub_self, Int.pow_zero, Int.mul_one]
      rw [Int.mul_comm x y]
      exact Int.mul_le_mul_of_nonneg_left this p2
    · have hlt := lt (by omega)
      have hbd := bd (by omega)
      have h2 : 2 * (x % y) ≤ x := by
        have e := Int.mul_ediv_add_emod x y
        have hq : 1 ≤ x / y := (Int.le_ediv_iff_mul_le (by omega)).mpr (by omega)
        have : y * 1 ≤ y * (x / y) := Int.mul_le_mul_of_nonneg_left hq p2
        omega
      obtain ⟨j, rfl⟩ : ∃ j, i = j + 1 := ⟨i - 1, by omega⟩
      simp only [Nat.add_sub_cancel] at hbd ⊢
      rw [Int.pow_succ]
      have hp : (0 : Int) ≤ 2 ^ j := Int.pow_nonneg (by decide)
      have : y * (x % y) * 2 ≤ x * y := by
        rw [Int.mul_assoc, Int.mul_comm x y]
        exact Int.mul_le_mul_of_nonneg_left (by omega) p2
      calc y * (x % y) * (2 ^ j * 2) = y * (x % y) * 2 * 2 ^ j := by grind
        _ ≤ x * y * 2 ^ j := Int.mul_le_mul_of_nonneg_right this hp
        _ ≤ a * b := hbd
theorem eu_end {a b : Int} (h : EuJ a b 2000) (ha : 0 ≤ a) (hb : 0 ≤ b) (la : a < 2 ^ 990) (lb : b < 2 ^ 990) : (eu 2000 (a, b)).2 = 0 := by
  have hlt := h.lt (by decide)
  have hbd := h.bd (by decide)
  have p2 := h.p2
  rcases Int.lt_or_le 0 (eu 2000 (a, b)).2 with hy | hy
  · exfalso
    have h1 : (1 : Int) * 1 ≤ (eu 2000 (a, b)).1 * (eu 2000 (a, b)).2 := Int.mul_le_mul (by omega) (by omega) (by decide) (by omega)
    have hp : (0 : Int) ≤ 2 ^ (2000 - 1) := Int.pow_nonneg (by decide)
    have h2 := Int.mul_le_mul_of_nonneg_right h1 hp
    have h3 : a * b ≤ 2 ^ 990 * 2 ^ 990 := Int.mul_le_mul (by omega) (by omega) hb (Int.pow_nonneg (by decide))
    have h4 : (2 : Int) ^ 990 * 2 ^ 990 < 1 * 1 * 2 ^ (2000 - 1) := by decide +kernel
    omega
  · omega
theorem eu_gcd {a b : Int} {i : Nat} (h : EuJ a b i) (hz : (eu i (a, b)).2 = 0) : (eu i (a, b)).1 = (Int.gcd a b : Nat) := by
  have g := h.g
  have p1 := h.p1
  rw [hz, Int.gcd_zero_right] at g
  omega
theorem getD_out {ns : List Int} {k : Nat} (h : ¬ k < ns.length) : ns.getD k 0 = 0 := by
  rw [List.getD_eq_getElem?_getD, List.getElem?_eq_none (by omega)]
  rfl
theorem gcd_abs {s t : Int} : Int.gcd (s.natAbs : Int) (t.natAbs : Int) = Int.gcd s t := by simp [Int.gcd]
theorem lg_abs {s : Int} (h : Lg s < 990) : (s.natAbs : Int) < 2 ^ 990 := by
  have h1 := lg_lt h
  have : ((s.natAbs : Nat) : Int) < ((2 ^ 990 : Nat) : Int) := by omega
  simpa using this
theorem rat_den1b {t b : Int} (hb : b ≠ 0) (h : b.fdiv (lowC t b) = 1) : ((t : Rat) / (b : Rat)).den = 1 := by
  have := rat_den (t := t) hb
  omega
theorem low_terms {q : Rat} (hd : q.den ≠ 1) : (decide ((2 : Int) ≤ (q.den : Int)) && decide (((Int.gcd q.num (q.den : Int) : Nat) : Int) = 1)) = true := by
  have h1 := q.den_nz
  have h2 : Int.gcd q.num (q.den : Int) = 1 := q.reduced
  rw [h2]
  simp
  omega
/-! the law's numbers -/
def divs (c : Int) : Nat → Int
  | 0 => c
  | i + 1 => (divs c i).fdiv 10007
def bigN (c : Int) (j : Nat) : Int := (divs c j).fmod 10007
def smallN (c : Int) (j : Nat) : Int := (((c * 48271 + 69621 * (j : Int) + 11).fmod 2147483647).fdiv 16 * 7919 + (j : Int)).fmod 10007
def lawNums (ns : List Int) (k many : Nat) : List Int := if (10 : Int) ^ 18 ≤ ((ns.getD k 0).natAbs : Int) then (List.range many).map (bigN (ns.getD k 0).natAbs) else (List.range many).map (smallN (ns.getD k 0).natAbs)
theorem lawNums_len (ns : List Int) (k many : Nat) : (lawNums ns k many).length = many := by
  unfold lawNums
  split <;> simp
theorem mul_s {i j : Int} (h1 : i.natAbs < 18446744073709551616) (h2 : j.natAbs < 18446744073709551616) : Lg i + Lg j < 1000000 := by
  have a := lg_of (n := 64) (by decide) (show i.natAbs < 2 ^ 64 from h1)
  have b := lg_of (n := 64) (by decide) (show j.natAbs < 2 ^ 64 from h2)
  omega
theorem sm16 (x : Int) : ((x.fmod 2147483647).fdiv 16).natAbs < 18446744073709551616 := by
  have h1 := Int.fmod_nonneg_of_pos x (show (0 : Int) < 2147483647 by decide)
  have h2 := Int.fmod_lt_of_pos x (show (0 : Int) < 2147483647 by decide)
  rw [Int.fdiv_eq_ediv_of_nonneg _ (by decide)]
  omega
/-! the law's values -/
theorem fl_lg0 {q : Rat} {n : Nat} (h : Sz n q) : Lg q.floor ≤ n := by
  rw [Rat.floor_def]
  refine Nat.le_trans (lg_le ?_) h.1
  exact Int.natAbs_ediv_le_natAbs q.num (q.den : Int)
theorem ce_lg0 {q : Rat} {n : Nat} (h : Sz n q) : Lg q.ceil ≤ n := by
  rw [Rat.ceil_eq_neg_floor_neg, lg_neg]
  refine fl_lg0 ⟨?_, ?_⟩
  · rw [Rat.neg_num, lg_neg]; exact h.1
  · rw [Rat.neg_den]; exact h.2
/-! the law's lists -/
end DL

set_option linter.all false
set_option maxRecDepth 100000
set_option maxHeartbeats 4000000
namespace DL
open PySem L2 TL
/-! ### numbers as texts -/
/-! ### the reading of a number -/
def isBdn (x : Str) : Bool := (!Txt.isdigit x) || decide ((400 : Int) < (x.length : Int))
def isNumr (x : Str) : Bool := (!isBdn x) && (decide (x = ("0" : Str)) || !Txt.startswith x ("0" : Str))
def pNeg (x : Str) : Bool := Txt.startswith x ("-" : Str)
def pUns (x : Str) : Str := if pNeg x = true then cutS x (some 1) none else x
def pTop (x : Str) : Str := (Txt.partition (pUns x) ("/" : Str)).1
def pSls (x : Str) : Str := (Txt.partition (pUns x) ("/" : Str)).2.1
def pBot (x : Str) : Str := if ((pSls x).length : Int) = 0 then ("1" : Str) else (Txt.partition (pUns x) ("/" : Str)).2.2
def pBad (x : Str) : Bool := (!isNumr (pTop x)) || ((!isNumr (pBot x)) || decide (pBot x = ("0" : Str)))
def pInt (x : Str) : Int := (intText? x).getD 0
def pAbs (x : Str) : Rat := ((pInt (pTop x) : Int) : Rat) / ((pInt (pBot x) : Int) : Rat)
def pNum (x : Str) : Rat := if pNeg x = true then ((0 : Int) : Rat) - pAbs x else pAbs x
/-- what is asked of a text that is read -/
structure RdOk (x : Str) : Prop where
  len : x.length ≤ 100000
  num : pBad x = false → intText? (pTop x) = some (pInt (pTop x)) ∧ intText? (pBot x) = some (pInt (pBot x)) ∧ pInt (pBot x) ≠ 0 ∧ Lg (pInt (pTop x)) ≤ 1400 ∧ Lg (pInt (pBot x)) ≤ 1400
/-! ### a number's own text is read back -/
end DL

set_option Elab.async false
set_option linter.all false
set_option maxRecDepth 100000
set_option maxHeartbeats 4000000
namespace DL
open PySem PySem.Spec PyProof.Rows L2 TL
section
variable {X : Cx} {N : List Str} {sc : Scope} {k j : Nat} {Γ Γ' Γ1 : List Sl} {a b c e o : Expr} {r ra rb rc r' : Rep} {pos p p2 apos : Pos} {x : Str} {i : Nat} {s t : Str}
end
section
variable {x : Str}
structure PF (x b : Str) : Prop where
  it : intText? (Txt.partition (pUns x) ("/" : Str)).1 = some (pInt (pTop x))
  ib : intText? b = some (pInt (pBot x))
  nz : pInt (pBot x) ≠ 0
  lt : Lg (pInt (pTop x)) ≤ 1400
  lb : Lg (pInt (pBot x)) ≤ 1400
  wt : (Txt.partition (pUns x) ("/" : Str)).1.length ≤ 640
  wb : b.length ≤ 640
  sz : Sz 1402 (pAbs x)
  sn : Sz 1404 (pNum x)
end
theorem nd_t {p : Prop} [Decidable p] (h : (!decide p) = true) : ¬ p := by simpa using h
theorem nd_f {p : Prop} [Decidable p] (h : (!decide p) = false) : p := by simpa using h
end DL

set_option Elab.async false
set_option linter.all false
set_option maxRecDepth 100000
set_option maxHeartbeats 4000000
namespace DL
open PySem PySem.Spec PyProof.Rows L2
/-! ### try: f(..) except C as e: return .. -/
structure FX (X : Cx) (W : WX) : Prop where
  st : X.stack = X.env :: X.outer
  fr : X.env.frame = some X.env.locals
  tk : Takes X W
section
variable {P : Program} {w : World} {K : PySem.W.Frag} {mg : Str → Option Value} {base : Heap} {k : Nat} {x : Str} {st : Stmt} {N ps : List Str} {ι : Type} {pre : ι → Prop} {args : ι → List Rep} {res : ι → Ret}
theorem cal_okT (T : TD K mg x st) (S : FnScope N ps (defScope st)) (hn : ∀ g, (args g).length = ps.length)
    (hb : ∀ (kV doc pm : Value) (an : Option Addr) (cdv ct : Value) (us : List Value), us.length = ps.length → bindArgs (PySem.W.fnOf x x (defArgs st) (defBody st) (defScope st) .none kV doc pm an cdv ct) ⟨us, []⟩ = pure (ps.zip us))
    (body : ∀ (X : Cx), X.prog = P → X.w = w → X.K = K → X.mg = mg → X.base = base → FX X (fun _ _ _ _ => False) → BX X N (defScope st) k → (∀ x : Str, X.fn x = true) → ∀ (g : ι) (F0 H0 : Hp) (D : Ends), pre g → RT F0 H0 (res g) D → (∀ σ H', D.nx σ H' = D.rt .non H') →
      GO X F0 H0 (defBody st) D ((args g).map Sl.im ++ List.replicate (N.length - ps.length) .any)) : Cal P w K mg base (k + 1) x (Pm pre args res) := by
  obtain ⟨f, fd, F, hm⟩ := T.ex
  refine ⟨f, fd, ps, ?_, hm, F.kp, F.binds hb⟩
  refine FnOk.wide (F.ok S (fun vs H Q E h => ?_) (fun cdv A outer s H vs Q E hr h => ?_))
  · obtain ⟨g, F1, _, _, h1, _⟩ := h
    rw [← h1.len, hn]
  · obtain ⟨g, F1, hp, hs, h1, q⟩ := h
    refine ⟨_, pss_ev, ?_⟩
    have hpl : ps.length ≤ N.length := by have := congrArg List.length S.pre; rw [List.length_take] at this; omega
    have en := en_start (N := N) hs h1 (by rw [hn]; exact hpl)
    rw [hn] at en
    exact body _ rfl rfl rfl rfl rfl ⟨rfl, rfl, fun u s' ⟨_, _, _, _, _, _, _, _, _, _, _, _, _, _, _, _, z⟩ => z.elim⟩ ⟨rfl, rfl, S.nd, hr, rfl, PassesOwn.never⟩ (fun _ => rfl) g F1 H { nx := fun _ H' => Q .non H', rt := Q } hp q (fun _ _ => rfl) F1 H _ en
end
section
variable {X Y : Cx} {N : List Str} {sc : Scope} {k i : Nat} {Γ : List Sl} {a b c e : Expr} {rest : List Expr} {body suite st : List Stmt} {b₀ : Stmt} {x n : Str} {cv : Value} {np p p2 pos pos' : Pos} {W : WX} {D : Ends} {F0 H0 : Hp} {u v : Bool} {σ : L2.St} {H : Hp}
def tsu (X : Cx) (suite : List Stmt) (a : Addr) (cls : Value) (d : Option Addr) : TS := fun D σ H => ∀ (oe : Obj) (pn : List (Addr × Obj)), Zc cls d oe → (∃ vs, oe.data = .fields vs) → XS (X.suite a ((a, oe) :: pn)) suite D σ H
def tbo (X : Cx) (body : List Stmt) (W : WX) : TS := fun D σ H => ∀ (pn : List (Addr × Obj)) (xe : Value → Shared → Prop), Takes (X.tr pn xe) W → PassesOwn (model X.prog X.w) X.A X.env xe → XS (X.tr pn xe) body D σ H
theorem go_tryR (B : BX X N sc k) (Z : FX X W) (hN : N[i]? = some n) (hln : sc.names.lookup n = some .local) (hx : sc.names.lookup x = some .globalImplicit) (hm : X.mg x = some cv) (hd : (x == ("__debug__" : Str)) = false)
    (hb : ∀ pn xe, BX (X.tr pn xe) N sc k → Takes (X.tr pn xe) (wAs X.K cv i (tsu X (b₀ :: suite)) W { D with nx := XS X st D }) → GO (X.tr pn xe) F0 H0 body { D with nx := XS X st D } Γ) :
    GO X F0 H0 (.Try body [.ExceptHandler (some (.Name x np)) (some n) (b₀ :: suite) pos'] [] [] pos :: st) D Γ := fun F H σ en => by
  have hgl : Gl X x := by
    show X.env.scope.names.lookup x = _
    rw [B.hsc]
    exact hx
  have hk : X.env.kindOf n = some .local := by
    show X.env.scope.names.lookup n = _
    rw [B.hsc]
    exact hln
  refine .of (pss_cons (ps_try_as Z.st Z.fr (by rw [B.hN]; exact B.nd) (by rw [B.hN]; exact hN) hk ⟨hgl, hd, .inl hm⟩ Z.tk (tb := tbo X body) (ts := tsu X (b₀ :: suite)) (fun W pn xe tk po => ⟨fun pins s σ H D I h => h pn xe tk po pins s I⟩) (fun a oe cls d pn hz hv => ⟨fun pins s σ H D I h => h oe pn hz hv pins s I⟩)) pss_ev) ?_
  exact fun pn xe tk po => hb pn xe ⟨B.hN, B.hsc, B.nd, B.room, B.calm, po⟩ tk F H σ en
/-! an expression that tells and makes nothing -/
/-- e is a class of the program or a built-in one -/
def ClsE (Y : Cx) (e : Expr) (cv : Value) : Prop := ∃ c : V, (∀ u, RelV c u → u = cv) ∧ PE Y e (tC c)
theorem clsE_own {C : Addr} (hg : Gl Y x) (hm : Y.mg x = some (.ref C)) (hd : (x == ("__debug__" : Str)) = false := by decide) : ClsE Y (.Name x pos) (.ref C) := ⟨.ref C, fun u h => h, pe_glob hg hm rfl hd⟩
theorem clsE_blt {T : String} (hg : Gl Y x) (hm : Y.mg x = none) (hv : bootBuiltins x = some (.type T)) (hn : x ≠ "__name__" := by decide) (hd : (x == ("__debug__" : Str)) = false := by decide) : ClsE Y (.Name x pos) (.type T) := ⟨.ty T, fun u h => h, pe_bltn (v := .ty T) hg hm hv rfl hn hd⟩
end
end DL

set_option Elab.async false
set_option linter.all false
set_option maxRecDepth 100000
set_option maxHeartbeats 4000000
namespace DL
open PySem PySem.Spec PyProof.Rows L2
/-- a list of the heap that stands still -/
def rLh (l : List Rep) : Rep := ⟨fun F x => ∃ a vs, x = .ref a ∧ F a = some (.lst vs) ∧ RL F l vs, fun s ⟨a, vs, e, h, q⟩ => ⟨a, vs, e, s _ _ h, q.mono s⟩⟩
theorem sub_h2l {K : PySem.W.Frag} {l : List Rep} : Sub (rLh l) (rLst K l) := fun F v ⟨a, vs, e, h, q⟩ => ⟨a, vs, e, SqL.of h, q⟩
section
variable {X : Cx} {N : List Str} {sc : Scope} {k i : Nat} {Γ Γ' : List Sl} {a b c e : Expr} {l l2 : List Rep} {pos : Pos} {F0 H0 F H : Hp} {σ : L2.St} {st body orelse : List Stmt} {D : Ends}
theorem de_h2l (h : DE X Γ e (rLh l)) : DE X Γ e (rLst X.K l) := h.sub sub_h2l
theorem DL.hfz (h : DL X Γ e l) : DE X Γ e (rLh l) := fun F0 H0 F H σ en Q q => h F0 H0 F H σ en Q fun p vs F' H' g h1 h2 h3 h4 =>
  q (.ref p) (upd F' p (.lst vs)) H' ⟨g.f.trans (same_new h2), g.h, fun b o z => by
    by_cases hb : b = p
    · subst hb
      rw [upd_same] at z
      rw [h3, ← z]
    · rw [upd_ne hb] at z
      exact g.s b o z, fun a ha z => by
    have hp : a ≠ p := fun y => ha (y ▸ h1)
    rw [upd_ne hp]
    exact g.n a ha z⟩ ⟨p, vs, rfl, upd_same, h4.mono (same_new h2)⟩
theorem dl_catH (hz : l.length + l2.length ≤ sizeLine) (ha : DE X Γ a (rLh l)) (hb : DE X Γ b (rLh l2)) : DL X Γ (.BinOp a .Add b pos) (l ++ l2) := fun F0 H0 F H σ en Q q =>
  .of (pe_op op_cat pe_ev pe_ev) (ha F0 H0 F H σ en _ fun v F1 H1 g1 h1 => hb F0 H0 F1 H1 σ (en.grow g1) _ fun u F2 H2 g2 h2 => by
    obtain ⟨p1, v1, rfl, k1, r1⟩ := h1
    obtain ⟨p2, v2, rfl, k2, r2⟩ := h2
    refine ⟨p1, p2, v1, v2, rfl, rfl, g2.s _ _ (g2.f _ _ k1), g2.s _ _ k2, by rw [← (r1.mono g2.f).len, ← r2.len]; exact hz, fun p hp => ?_⟩
    exact q p _ F2 _ ((g1.trans g2).trans (.newOwn g2.s hp)) ((g1.trans g2).h.free hp) (g2.s.free hp) upd_same ((r1.mono g2.f).app r2))
theorem En.freezeH (e : En F0 H0 F H σ Γ) (h : Γ[i]? = some (.ow l)) : ∃ F', Same F F' ∧ Same F' H ∧ En F0 H0 F' H σ (Γ.set i (.im (rLh l))) := by
  obtain ⟨p, vs, h1, h2, h3, h4, h5⟩ := e.ow h
  have s1 : Same F (upd F p (.lst vs)) := same_new h2
  have s2 : Same (upd F p (.lst vs)) H := fun b o z => by
    by_cases hb : b = p
    · subst hb
      rw [upd_same] at z
      rw [h3, ← z]
    · rw [upd_ne hb] at z
      exact e.gr.s b o z
  have nn : ∀ {j : Nat} {q : Addr} {m : List Rep}, j ≠ i → Γ[j]? = some (.ow m) → σ[j]? = some (some (.ref q)) → q ≠ p := fun {j q m} hj k1 k2 z => hj (e.sep j i p m l k1 h (z ▸ k2) h1)
  refine ⟨upd F p (.lst vs), s1, s2, ?_⟩
  exact {
    gr := ⟨e.gr.f.trans s1, e.gr.h, s2, fun a ha z => by
      have hp : a ≠ p := fun y => ha (y ▸ h5)
      rw [upd_ne hp]
      exact e.gr.n a ha z⟩
    len := by simpa using e.len
    ok := fun j s x k1 k2 => by
      rcases get_set k1 with ⟨rfl, rfl⟩ | ⟨n, k1⟩
      · rw [h1] at k2
        cases k2
        exact ⟨.ref p, rfl, p, vs, rfl, upd_same, h4.mono s1⟩
      · have q := e.ok j s x k1 k2
        cases s with
        | any => trivial
        | im r =>
          obtain ⟨v, a, b⟩ := q
          exact ⟨v, a, r.mono s1 b⟩
        | ow m =>
          obtain ⟨p2, ws2, a, b, c, d⟩ := q
          subst a
          refine ⟨p2, ws2, rfl, ?_, c, d.mono s1⟩
          rw [upd_ne (nn (Ne.symm n) k1 k2)]
          exact b
    own := fun j q m k1 k2 => by
      rcases get_set k1 with ⟨_, z⟩ | ⟨n, k1⟩
      · cases z
      · exact e.own j q m k1 k2
    sep := fun j k q m m' k1 k1' k2 k2' => by
      rcases get_set k1 with ⟨_, z⟩ | ⟨n, k1⟩
      · cases z
      rcases get_set k1' with ⟨_, z⟩ | ⟨n', k1'⟩
      · cases z
      exact e.sep j k q m m' k1 k1' k2 k2' }
theorem go_frozH (i : Nat) (hΓ : Γ[i]? = some (.ow l)) (h : GO X F0 H0 st D (Γ.set i (.im (rLh l)))) : GO X F0 H0 st D Γ := fun F H σ en => by
  obtain ⟨F', s1, s2, en'⟩ := en.freezeH hΓ
  exact h F' H σ en'
/-- the frame, told anew -/
theorem go_nf {X : Cx} {F0 H0 : Hp} {st : List Stmt} {D : Ends} {Γ : List Sl} (Γ' : List Sl) (e : Γ = Γ') (h : GO X F0 H0 st D Γ') : GO X F0 H0 st D Γ := e ▸ h
/-- an if, both ways to the same place -/
theorem go_ifK {t : Bool} (up : List (Nat × Sl)) (hc : DT X Γ c t) (hk : GO X F0 H0 st D (sets Γ up)) (h1 : GO X F0 H0 st D (sets Γ up) → t = true → GO X F0 H0 body { D with nx := XS X st D } Γ) (h2 : GO X F0 H0 st D (sets Γ up) → t = false → GO X F0 H0 orelse { D with nx := XS X st D } Γ) : GO X F0 H0 (.If c body orelse pos :: st) D Γ :=
  go_if hc (h1 hk) (h2 hk)
theorem go_join (hk : GO X F0 H0 st D Γ') (h : SlLe Γ Γ') : GO X F0 H0 [] { D with nx := XS X st D } Γ := go_nil fun F H σ en => hk F H σ (en.le h)
end
end DL

set_option Elab.async false
set_option linter.all false
set_option maxRecDepth 100000
set_option maxHeartbeats 4000000
namespace DL
open PySem PySem.Spec PyProof.Rows L2
section
variable {X : Cx} {N : List Str} {sc : Scope} {k j : Nat} {Γ Γ' Γ1 : List Sl} {tg it a b c e o : Expr} {ifs es rest : List Expr} {r ra rb rc r' : Rep} {rs l l2 : List Rep} {pos p p2 apos : Pos} {x : Str} {i n : Nat} {rr : Nat → Rep} {ws : List Nat} {scope : Scope}
theorem go_setLc {F0 H0 : Hp} {st : List Stmt} {D : Ends} {iy : Nat} {y : Str} {py spos : Pos} {l' : List Rep} (B : BX X N sc k) (own : List (Str × Nat)) (hi : SR X Γ tg it n rr) (ok : BlkOk N sc scope own) (G1 : Nat → List Sl) (tb : Nat → Bool) (f : Nat → Rep) (hn : n < sizeLine) (hw : ∀ i ∈ ws, i ∈ own.map (·.2))
    (hg : ∀ (s : Shared) (H : Hp) (C : Addr) (cl : List (Str × Addr)) (fp : List Addr), BX (X.blk s H scope (compEnvC scope cl C X.env) fp) N (relS scope sc) k → ∀ i, i < n → DG (X.blk s H scope (compEnvC scope cl C X.env) fp) (wipeG Γ (own.map (·.2))) tg (rr i) (G1 i) ws)
    (ht : ∀ (s : Shared) (H : Hp) (C : Addr) (cl : List (Str × Addr)) (fp : List Addr), BX (X.blk s H scope (compEnvC scope cl C X.env) fp) N (relS scope sc) k → ∀ i, i < n → DTs (X.blk s H scope (compEnvC scope cl C X.env) fp) (G1 i) ifs (tb i))
    (he : ∀ (s : Shared) (H : Hp) (C : Addr) (cl : List (Str × Addr)) (fp : List Addr), BX (X.blk s H scope (compEnvC scope cl C X.env) fp) N (relS scope sc) k → ∀ i, i < n → tb i = true → DE (X.blk s H scope (compEnvC scope cl C X.env) fp) (G1 i) e (f i)) (hs : ∀ x, foldedSetIterable it X.env x = pure x := by intro _; rfl) (hl : ((List.range n).filter tb).map f = l')
    (hNy : N[iy]? = some y) (hyl : sc.names.lookup y = some .local) (h : GO X F0 H0 st D (Γ.set iy (.ow l'))) (hsw : ∀ env : Env, env.scope = sc → swapsWith (.ListComp e [⟨tg, it, ifs, 0⟩] scope pos) (some (.Name y py)) spos.line env = pure true) :
    GO X F0 H0 (.Assign [.Name y py] (.ListComp e [⟨tg, it, ifs, 0⟩] scope pos) spos :: st) D Γ := fun F H σ en => by
  subst hl
  have q : ∀ p vs F' H', Gr F H F' H' → H p = none → F' p = none → H' p = some (.lst vs) → RL F' (((List.range n).filter tb).map f) vs → XS X st D (σ.set iy (some (.ref p))) H' := fun p vs F' H' g h1 h2 h3 h4 => h F' H' _ ((en.grow g).setOw h2 h3 h4 (en.gr.h.free h1) fun j l' k1 k2 => by
    obtain ⟨p', vs', a1, a2, a3, a4, a5⟩ := en.ow k1
    rw [a1] at k2
    have e2 : p' = p := V.ref.inj (Option.some.inj (Option.some.inj k2))
    rw [e2, h1] at a3
    cases a3)
  clear h
  replace hg : ∀ X', IsBlk X scope X' → BX X' N (relS scope sc) k → ∀ i, i < n → DG X' (wipeG Γ (own.map (·.2))) tg (rr i) (G1 i) ws := fun X' h B => by obtain ⟨s, H, C, cl, fp, rfl⟩ := h; exact hg s H C cl fp B
  replace ht : ∀ X', IsBlk X scope X' → BX X' N (relS scope sc) k → ∀ i, i < n → DTs X' (G1 i) ifs (tb i) := fun X' h B => by obtain ⟨s, H, C, cl, fp, rfl⟩ := h; exact ht s H C cl fp B
  replace he : ∀ X', IsBlk X scope X' → BX X' N (relS scope sc) k → ∀ i, i < n → tb i = true → DE X' (G1 i) e (f i) := fun X' h B => by obtain ⟨s, H, C, cl, fp, rfl⟩ := h; exact he s H C cl fp B
  let g : TG := fun v σ H Q => ∀ X', IsBlk X scope X' → GV X' tg v σ H Q
  let tt : TT := fun σ H Q => ∀ X', IsBlk X scope X' → TVs X' ifs σ H Q
  let te : TE := fun σ H Q => ∀ X', IsBlk X scope X' → EV X' e σ H Q
  have pg : ∀ (s : Shared) (H : Hp) (C : Addr) (cl : List (Str × Addr)) (fp : List Addr), PG (X.blk s H scope (compEnvC scope cl C X.env) fp) tg g := fun s H C cl fp => ⟨fun pins s' σ H v u Q I r h => h _ ⟨s, _, C, cl, fp, rfl⟩ pins s' u I r⟩
  have pt : ∀ (s : Shared) (H : Hp) (C : Addr) (cl : List (Str × Addr)) (fp : List Addr), PTs (X.blk s H scope (compEnvC scope cl C X.env) fp) ifs tt := fun s H C cl fp => ⟨fun pins s' σ H Q I h => h _ ⟨s, _, C, cl, fp, rfl⟩ pins s' I⟩
  have pe : ∀ (s : Shared) (H : Hp) (C : Addr) (cl : List (Str × Addr)) (fp : List Addr), PE (X.blk s H scope (compEnvC scope cl C X.env) fp) e te := fun s H C cl fp => ⟨fun pins s' σ H Q I h => h _ ⟨s, _, C, cl, fp, rfl⟩ pins s' I⟩
  refine .of (pss_cons (ps_setLc (i := iy) B.calm (by rw [B.hN]; exact B.nd) (by rw [B.hN]; exact hNy) (by rw [B.hsc]; exact hyl) (hsw _ B.hsc) pi_ev (by rw [B.hN, B.hsc]; exact ok) pg pt pe hs) pss_ev) ?_
  refine hi F0 H0 F H σ en _ fun J F1 H1 g1 wk => fun D hD => ?_
  have en1 := en.grow g1
  refine ⟨fun i m H => m = n - i ∧ i ≤ n ∧ ∃ F vs, Gr F1 H1 F H ∧ F D = none ∧ H D = some (.lst vs) ∧ RL F (((List.range i).filter tb).map f) vs, ⟨n, by simp, Nat.zero_le _, F1, [], .newOwn g1.s hD, g1.s.free hD, upd_same, .nil⟩, fun i m H2 hw2 => ?_⟩
  obtain ⟨rfl, hle, F2, vs, g2, d2, e2, l2⟩ := hw2
  have s2 : Same F1 H2 := g2.f.trans g2.s
  by_cases hlt : i < n
  · refine .inr ⟨wk.go i H2 s2 hlt, fun H => i + 1 ≤ n ∧ ∃ F vs, Gr F1 H1 F H ∧ F D = none ∧ H D = some (.lst vs) ∧ RL F (((List.range (i + 1)).filter tb).map f) vs, fun H' h => ⟨n - (i + 1), by omega, rfl, h.1, h.2⟩, fun x H3 hy => ?_⟩
    obtain ⟨F3, g3, hx⟩ := wk.yld i F2 H2 x H3 g2.f g2.s hlt hy
    have en3 := ((en1.grow (g2.trans g3)).wipe (own.map (·.2)))
    -- the target is stored
    have key : ∀ X', IsBlk X scope X' → ∀ Q : L2.St → Hp → Prop, (∀ F' H' σ', Gr F3 H3 F' H' → En F0 H0 F' H' σ' (G1 i) → Off ws (L2.wipe σ (own.map (·.2))) σ' → Q σ' H') → GV X' tg x (L2.wipe σ (own.map (·.2))) H3 Q := fun X' hX' Q hQ => hg X' hX' (B.blk hX') i hlt F0 H0 F3 H3 _ x en3 hx Q hQ
    intro X' hX'
    refine key X' hX' _ fun F4 H4 σ4 g4 en4 off => ⟨?_, fun X2 hX2 => ?_⟩
    · have := off (own.map (·.2)) hw
      rw [this]
      exact wipe_wipe _ _
    refine ht X2 hX2 (B.blk hX2) i hlt F0 H0 F4 H4 σ4 en4 _ fun F5 H5 g5 => ?_
    have gg5 := ((g2.trans g3).trans g4).trans g5
    have d5 : F5 D = none := (((g3.trans g4).trans g5).n D (by rw [e2]; exact fun z => nomatch z) d2)
    have h5 : H5 D = some (.lst vs) := ((g3.trans g4).trans g5).h _ _ e2
    have l5 := l2.mono ((g3.trans g4).trans g5).f
    cases hb : tb i with
    | false =>
      rw [if_neg Bool.false_ne_true]
      refine ⟨hlt, F5, vs, gg5, d5, h5, ?_⟩
      rw [filter_snoc, hb, if_neg Bool.false_ne_true, List.append_nil]
      exact l5
    | true =>
      rw [if_pos rfl]
      intro X3 hX3
      refine he X3 hX3 (B.blk hX3) i hlt hb F0 H0 F5 H5 σ4 (en4.grow g5) _ fun y F6 H6 g6 hy6 => ?_
      have h6 := g6.h _ _ h5
      have d6 := g6.n D (by rw [h5]; exact fun z => nomatch z) d5
      have hlen : vs.length < sizeLine := by
        rw [← l5.len, List.length_map]
        have := List.length_filter_le tb (List.range i)
        rw [List.length_range] at this
        omega
      refine ⟨vs, h6, hlen, hlt, F6, vs ++ [y], ?_, d6, upd_same, ?_⟩
      · have gg6 := gg5.trans g6
        exact ⟨gg6.f, fun b o z => by rw [upd_ne (ne_of_none z hD)]; exact gg6.h b o z, same_out gg6.s d6, gg6.n⟩
      · rw [filter_snoc, hb, if_pos rfl]
        exact (l5.mono g6.f).snoc hy6
  · have e : i = n := by omega
    subst e
    refine .inl ⟨wk.stop i H2 s2 (Nat.le_refl _), ?_⟩
    exact q D vs F2 H2 (g1.trans g2) (g1.h.free hD) d2 e2 l2
end
section
variable {X : Cx} {Γ : List Sl} {es : List Expr} {rs : List Rep}
end
end DL

set_option Elab.async false
set_option linter.all false
set_option maxRecDepth 100000
set_option maxHeartbeats 4000000
namespace DL
open PySem PySem.Spec PyProof.Rows L2
/-! ### the law itself -/
section
variable {P : Program} {w : World} {K : PySem.W.Frag} {mg : Str → Option Value} {base : Heap} {k : Nat} {x : Str} {st : Stmt} {N ps : List Str} {ι : Type} {pre : ι → Prop} {args : ι → List Rep} {res : ι → Ret} {f : Addr} {fd : FuncData}
theorem cal_okF (F : Fun K x x st f fd) (S : FnScope N ps (defScope st)) (hn : ∀ g, (args g).length = ps.length)
    (body : ∀ (X : Cx), X.prog = P → X.w = w → X.K = K → X.mg = mg → X.base = base → BX X N (defScope st) k → (∀ x : Str, X.fn x = true) → ∀ (g : ι) (F0 H0 : Hp) (D : Ends), pre g → RT F0 H0 (res g) D → (∀ σ H', D.nx σ H' = D.rt .non H') →
      GO X F0 H0 (defBody st) D ((args g).map Sl.im ++ List.replicate (N.length - ps.length) .any)) : FnOk P w K mg base (L2.CX P w) (k + 1) f fd ps (Pm pre args res) := by
  refine FnOk.wide (F.ok S (fun vs H Q E h => ?_) (fun cdv A outer s H vs Q E hr h => ?_))
  · obtain ⟨g, F1, _, _, h1, _⟩ := h
    rw [← h1.len, hn]
  · obtain ⟨g, F1, hp, hs, h1, q⟩ := h
    refine ⟨_, pss_ev, ?_⟩
    have hpl : ps.length ≤ N.length := by have := congrArg List.length S.pre; rw [List.length_take] at this; omega
    have en := en_start (N := N) hs h1 (by rw [hn]; exact hpl)
    rw [hn] at en
    exact body _ rfl rfl rfl rfl rfl ⟨rfl, rfl, S.nd, hr, rfl, PassesOwn.never⟩ (fun _ => rfl) g F1 H { nx := fun _ H' => Q .non H', rt := Q } hp q (fun _ _ => rfl) F1 H _ en
end
theorem rl_ints (H : Hp) : ∀ ns : List Int, RL H (ns.map rInt) (ns.map V.int)
  | [] => .nil
  | _ :: r => .cons rfl (rl_ints H r)
end DL

set_option Elab.async false
set_option linter.all false
set_option maxRecDepth 100000
set_option maxHeartbeats 4000000
namespace DL
open PySem PySem.Spec PyProof.Rows L2
/-! ### data by kinds: what == tells -/
structure Dat {α : Type} [DecidableEq α] (K : PySem.W.Frag) (R : α → Rep) (d : α → PyData) (n : Nat) : Prop where
  dp : ∀ a, DpL K (R a) (d a)
  lay : ∀ a, PyData.canLay0 (d a) = true
  dep : ∀ a, PyData.depth (d a) ≤ n
  eq : ∀ a b, PyData.eqv (d a) (d b) = decide (a = b)
section
variable {K : PySem.W.Frag} {α : Type} [DecidableEq α] {R : α → Rep} {d : α → PyData} {n : Nat}
theorem dat_num : Dat K (rNum K) numD 1 := ⟨fun _ => dpl_num, fun _ => SeqAt.canLay_of_shaped shaped_num, fun q => by
    unfold numD
    split
    · exact Nat.zero_le _
    · show max 0 (max 0 0) + 1 ≤ 1
      decide, fun a b => numD_eq⟩
theorem eqvAll_map (h : ∀ a b, PyData.eqv (d a) (d b) = decide (a = b)) : ∀ l m : List α, PyData.eqvAll (l.map d) (m.map d) = decide (l = m)
  | [], [] => rfl
  | [], y :: m => by rw [decide_eq_false (by simp)]; rfl
  | x :: l, [] => by rw [decide_eq_false (by simp)]; rfl
  | x :: l, y :: m => by
    show (PyData.eqv (d x) (d y) && PyData.eqvAll (l.map d) (m.map d)) = _
    rw [h, eqvAll_map h l m]
    by_cases e : x = y
    · by_cases f : l = m <;> simp [e, f]
    · simp [e]
theorem canLayAll_map (h : ∀ a, PyData.canLay0 (d a) = true) : ∀ l : List α, PyData.canLayAll0 (l.map d) = true
  | [] => rfl
  | x :: l => by
    show (PyData.canLay0 (d x) && PyData.canLayAll0 (l.map d)) = true
    rw [h, canLayAll_map h l]; rfl
theorem depthAll_map (h : ∀ a, PyData.depth (d a) ≤ n) : ∀ l : List α, PyData.depthAll (l.map d) ≤ n
  | [] => Nat.zero_le _
  | x :: l => by
    show max (PyData.depth (d x)) (PyData.depthAll (l.map d)) ≤ n
    have := h x; have := depthAll_map h l; omega
theorem dat_lst (D : Dat K R d n) : Dat K (fun l : List α => rLst K (l.map R)) (fun l => .list (l.map d)) (n + 1) :=
  ⟨fun l => dpl_lst fun a _ => D.dp a, fun l => canLayAll_map D.lay l, fun l => Nat.succ_le_succ (depthAll_map D.dep l), fun l m => eqvAll_map D.eq l m⟩
theorem Dat.shaped (D : Dat K R d n) (h : n ≤ 64) (a : α) : SeqAt.shaped (d a) = true := by
  unfold SeqAt.shaped
  rw [Bool.and_eq_true]
  exact ⟨D.lay a, decide_eq_true (Nat.le_trans (D.dep a) h)⟩
end
section
variable {X : Cx} {N : List Str} {sc : Scope} {k j i : Nat} {Γ : List Sl} {a b e : Expr} {es : List Expr} {r ra rb : Rep} {l : List Rep} {pos p : Pos} {x : Str} {α : Type} [DecidableEq α] {R : α → Rep} {d : α → PyData} {n : Nat} {u v : α}
theorem dt_neT (D : Dat X.K R d n) (hn : n ≤ 64) (B : BX X N sc k) (ha : DE X Γ a (R u)) (hb : DE X Γ b (R v)) : DT X Γ (.Compare a [.NotEq] [b] pos) (!decide (u = v)) := (dt_cmp (op_neD B.hu) (b2_neD (D.dp u) (D.dp v) (D.shaped hn u) (D.shaped hn v)) ha hb (nomark _)).to (by rw [D.eq])
theorem de_eqT (D : Dat X.K R d n) (hn : n ≤ 64) (B : BX X N sc k) (ha : DE X Γ a (R u)) (hb : DE X Γ b (R v)) : DE X Γ (.Compare a [.Eq] [b] pos) (rBl (decide (u = v))) := (de_cmp (op_eqD B.hu) (b2_eqD (D.dp u) (D.dp v) (D.shaped hn u) (D.shaped hn v)) ha hb (nomark _)).to (by rw [D.eq])
/-! ### a list of one's own, lent for a question -/
theorem dt_lend {t : Bool} (i : Nat) (hΓ : Γ[i]? = some (.ow l)) (h : DT X (Γ.set i (.im (rLst X.K l))) e t) : DT X Γ e t := fun F0 H0 F H σ en Q q => by
  obtain ⟨F', s1, s2, en'⟩ := en.freeze (K := X.K) hΓ
  exact h F0 H0 F' H σ en' Q fun F2 H2 g => q F H2 ⟨Same.refl _, g.h, en.gr.s.trans g.h, fun _ _ z => z⟩
theorem de_lend (i : Nat) (hΓ : Γ[i]? = some (.ow l)) (hr : ∀ F F' v, r.P F v → r.P F' v) (h : DE X (Γ.set i (.im (rLst X.K l))) e r) : DE X Γ e r := fun F0 H0 F H σ en Q q => by
  obtain ⟨F', s1, s2, en'⟩ := en.freeze (K := X.K) hΓ
  exact h F0 H0 F' H σ en' Q fun v F2 H2 g hv => q v F H2 ⟨Same.refl _, g.h, en.gr.s.trans g.h, fun _ _ z => z⟩ (hr _ _ _ hv)
/-! ### a def that is handed a list of one's own first, and may change it -/
variable {ι : Type} {pre : ι → Prop} {lo : ι → List Rep} {args : ι → List Rep} {res : ι → Ret}
end
section
variable {P : Program} {w : World} {K : PySem.W.Frag} {mg : Str → Option Value} {base : Heap} {k : Nat} {x : Str} {st : Stmt} {N ps : List Str} {ι : Type} {pre : ι → Prop} {lo args : ι → List Rep} {res : ι → Ret}
end
end DL

set_option Elab.async false
set_option linter.all false
set_option maxRecDepth 100000
set_option maxHeartbeats 4000000
namespace DL
open PySem PySem.Spec PyProof.Rows L2
section
variable {X : Cx} {N : List Str} {sc : Scope} {k j i : Nat} {Γ : List Sl} {tg it a b e : Expr} {es : List Expr} {r ra rb : Rep} {l : List Rep} {pos p p2 : Pos} {x : Str} {α : Type} {R : α → Rep} {xs : List α} {n : Int}
theorem de_allB {bs : List Bool} (B : BX X N sc k) (hm : X.mg "all" = none) (ha : DE X Γ a (rLst X.K (bs.map rBl))) (hg : sc.names.lookup ("all" : Str) = some NameKind.globalImplicit)
    (he : starEach (a :: []) X.env = (false, eval a X.env) :: starEach [] X.env := by rfl) : DE X Γ (.Call (.Name "all" p) [a] [] pos) (rBl (bs.all id)) :=
  de_blt B (cr_all B.calm) (fun F H vs s hv Q q => by
    obtain ⟨v, rfl, k1⟩ := rl1 hv
    obtain ⟨pp, us, rfl, k2, k3⟩ := k1
    have e : ∀ (bs : List Bool) (us : List V), RL F (bs.map rBl) us → us = bs.map V.bl := fun bs => by
      induction bs with
      | nil => intro us h; cases h; rfl
      | cons b bs ih => intro us h; cases h with | cons h1 h2 => rw [ih _ h2]; cases h1; rfl
    exact ⟨pp, bs, rfl, by rw [← e bs us k3]; exact s.seq k2, q _ F H (.refl s) rfl⟩) hm (by decide +kernel) (da_cons ha da_nil he) hg (he := he)
theorem sr_tup (h : DE X Γ it (rTup X.K l)) : SR X Γ tg it l.length (fun i => l.getD i rNon) := fun F0 H0 F H σ en R q =>
  .of (pi_tup pe_ev) (h F0 H0 F H σ en _ fun v F1 H1 g hv => by
    obtain ⟨p, vs, rfl, hs, hl⟩ := hv
    refine ⟨p, rfl, ⟨vs, sqt_mono g.s hs⟩, q _ F1 H1 g ⟨fun i H2 s hi => ⟨vs, sqt_mono s hs, by rw [← hl.len]; exact hi⟩, fun i H2 s hi => ?_, fun i F2 H2 x H' s s2 hi hy => ?_⟩⟩
    · have hi' : i < vs.length := hl.len ▸ hi
      exact ⟨vs, vs[i], sqt_mono s hs, List.getElem?_eq_getElem hi'⟩
    · obtain ⟨rfl, hx⟩ := hy
      have hx' := hx vs (sqt_mono s2 (sqt_mono s hs))
      obtain ⟨r, e, hr⟩ := hl.got hx'
      refine ⟨F2, .refl s2, ?_⟩
      show (l.getD i rNon).P F2 x
      rw [List.getD_eq_getElem?_getD, e]
      exact r.mono s hr)
theorem sr_tupM (d : α) (h : DE X Γ it (rTup X.K (xs.map R))) : SR X Γ tg it xs.length (fun i => R (xs.getD i d)) := by
  have h2 := sr_tup (tg := tg) h
  rw [List.length_map] at h2
  exact h2.to fun i hi => getD_map d hi
theorem cut_to {n : Int} (h : 0 ≤ n) : cutR (xs.map R) none (some n) = (xs.take n.toNat).map R := by
  obtain ⟨m, rfl⟩ : ∃ m : Nat, n = m := ⟨n.toNat, by omega⟩
  rw [cutR_map, cutR_to, Int.toNat_natCast]
theorem cut_from {n : Int} (h : 0 ≤ n) : cutR (xs.map R) (some n) none = (xs.drop n.toNat).map R := by
  obtain ⟨m, rfl⟩ : ∃ m : Nat, n = m := ⟨n.toNat, by omega⟩
  rw [cutR_map, cutR_from, Int.toNat_natCast]
theorem dl_from (h : DE X Γ e (rLst X.K (xs.map R))) (hn : 0 ≤ n) (h2 : DE X Γ b (rInt n)) : DL X Γ (.Subscript e (.Slice (some b) none none p2) pos) ((xs.drop n.toNat).map R) :=
  (dl_slice (lo := some b) (hi := none) (ol := some n) (oh := none) h h2 trivial).to (cut_from hn)
end
end DL

set_option Elab.async false
set_option linter.all false
set_option maxRecDepth 100000
set_option maxHeartbeats 4000000
namespace DL
open PySem PySem.Spec PyProof.Rows L2
/-! ### x is True, x no bool -/
section
variable {X : Cx} {N : List Str} {sc : Scope} {k j i : Nat} {Γ : List Sl} {tg it a b e : Expr} {es : List Expr} {r ra rb : Rep} {l l' : List Rep} {pos p p2 : Pos} {x : Str} {α : Type} {R : α → Rep} {xs : List α} {n : Int} {K : PySem.W.Frag} {q : Rat}
theorem notNon_lst : NotNon (rLst K l) := fun F v h => by obtain ⟨p, vs, rfl, _⟩ := h; exact fun z => nomatch z
/-- the i-th of a tuple -/
theorem de_ixTM (d : α) (h0 : 0 ≤ n) (h1 : n < xs.length) (ha : DE X Γ a (rTup X.K (xs.map R))) (hb : DE X Γ b (rInt n)) (hs : PlainIx b := by exact fun _ _ => rfl) : DE X Γ (.Subscript a b pos) (R (xs.getD n.toNat d)) :=
  de_ixT (atI_map d h0 h1) ha hb hs
variable {it2 : Expr} {β : Type} {R2 : β → Rep} {ys : List β}
theorem sr_zipM {jj : Nat} {tpos : Pos} (d : α) (d2 : β) (B : BX X N sc k) (hm : X.mg "zip" = none) (h : DE X Γ it (rLst X.K (xs.map R))) (h2 : DE X Γ it2 (rLst X.K (ys.map R2))) (hg : sc.names.lookup ("zip" : Str) = some NameKind.globalImplicit)
    (hs : starEach [it, it2] X.env = (false, eval it X.env) :: starEach [it2] X.env := by rfl) (hs2 : starEach [it2] X.env = (false, eval it2 X.env) :: starEach [] X.env := by rfl) (hpl : (backTo pos (starEach [it2] X.env)).any (·.1) = false := by rfl) :
    SR X Γ (.Tuple es jj tpos) (.Call (.Name "zip" p) [it, it2] [] pos) (min xs.length ys.length) (fun i => rTup X.K [R (xs.getD i d), R2 (ys.getD i d2)]) := by
  have z := sr_zip (es := es) (jj := jj) (tpos := tpos) (p := p) (pos := pos) B hm h h2 hg hs hs2 hpl
  rw [List.length_map, List.length_map] at z
  exact z.to fun i hi => by rw [getD_map d (by omega), getD_map d2 (by omega)]
theorem sr_enumM {jj : Nat} {tpos : Pos} (d : α) (B : BX X N sc k) (hm : X.mg "enumerate" = none) (h : DE X Γ it (rLst X.K (xs.map R))) (hg : sc.names.lookup ("enumerate" : Str) = some NameKind.globalImplicit) (hs : starEach [it] X.env = [(false, eval it X.env)] := by rfl) :
    SR X Γ (.Tuple es jj tpos) (.Call (.Name "enumerate" p) [it] [] pos) xs.length (fun i => rTup X.K [rInt (i : Nat), R (xs.getD i d)]) := by
  have z := sr_enum (es := es) (jj := jj) (tpos := tpos) (p := p) (pos := pos) B hm h hg hs
  rw [List.length_map] at z
  exact z.to fun i hi => by rw [getD_map d hi]
end
end DL

set_option Elab.async false
set_option linter.all false
set_option maxRecDepth 100000
set_option maxHeartbeats 4000000
namespace DL
open PySem L2
/-! ### rows -/
def dotN (xs ys : List Rat) : Nat → Rat
  | 0 => 0
  | i + 1 => dotN xs ys i + xs.getD i 0 * ys.getD i 0
def dotq (xs ys : List Rat) : Rat := dotN xs ys (min xs.length ys.length)
/-! ### the greatest common divisor of a list -/
def gl (ns : List Int) : Nat := ns.foldl (fun (g : Nat) x => Int.gcd (g : Int) x) 0
/-! ### lowest terms -/
def fnz (ns : List Int) : Option Int := ns.find? fun x => decide (x ≠ 0)
structure Low (ns r : List Int) : Prop where
  ex : ∃ d : Int, d ≠ 0 ∧ ns = r.map fun x => d * x
  one : gl r = 1
  pos : ∃ z, fnz r = some z ∧ 0 < z
end DL

set_option Elab.async false
set_option linter.all false
set_option maxRecDepth 100000
set_option maxHeartbeats 4000000
namespace DL
open PySem L2
/-! ### the primitive row -/
theorem getD_mapI {α β : Type} {xs : List α} {d : α} {d2 : β} {k : Nat} (f : α → β) (hk : k < xs.length) : (xs.map f).getD k d2 = f (xs.getD k d) := by
  rw [List.getD_eq_getElem?_getD, List.getElem?_map, List.getD_eq_getElem?_getD, List.getElem?_eq_getElem hk]
  rfl
end DL

set_option Elab.async false
set_option linter.all false
set_option maxRecDepth 100000
set_option maxHeartbeats 4000000
namespace DL
open PySem L2
theorem lc_num {K : PySem.W.Frag} {qs : List Rat} {g : Rat → Rat} : ((List.range qs.length).filter fun _ => true).map (fun i => rNum K (g (qs.getD i 0))) = List.map (rNum K) (qs.map g) := by
  rw [List.map_map]
  exact lc_all (R := fun _ => rInt 0) (f := fun q => rNum K (g q))
theorem lc_true {α : Type} {n : Nat} {f : Nat → α} : ((List.range n).filter fun _ => true).map f = (List.range n).map f := by rw [List.filter_eq_self.mpr fun _ _ => rfl]
theorem lp_ok {q r : Rat} (h : Sz 400 q) (k : Sz 400 r) : (q.den : Int) * (r.den : Int) ≠ 0 ∧ Lg (q.num * (r.den : Int) + r.num * (q.den : Int)) < 990 ∧ Lg ((q.den : Int) * (r.den : Int)) < 990 := by
  refine ⟨Int.mul_ne_zero (den_neI q) (den_neI r), ?_, ?_⟩
  · grind [lg_mul, lg_add, Sz]
  · grind [lg_mul, Sz]
theorem lt_ok {q r : Rat} (h : Lg q.num + Lg r.num < 980) (k : Lg (q.den : Int) + Lg (r.den : Int) < 980) : (q.den : Int) * (r.den : Int) ≠ 0 ∧ Lg (q.num * r.num) < 990 ∧ Lg ((q.den : Int) * (r.den : Int)) < 990 := by
  refine ⟨Int.mul_ne_zero (den_neI q) (den_neI r), ?_, ?_⟩
  · have := lg_mul q.num r.num; omega
  · have := lg_mul (q.den : Int) (r.den : Int); omega
theorem lt_sz {q r : Rat} (h : Sz 100 q) (k : Sz 100 r) : Lg q.num + Lg r.num < 980 ∧ Lg (q.den : Int) + Lg (r.den : Int) < 980 := ⟨by have := h.1; have := k.1; omega, by have := h.2; have := k.2; omega⟩
/-! ### the numbers of a script -/
def cellv (ns : List Int) (k : Nat) : Int := if k < ns.length then ns.getD k 0 else if 0 < ns.length then (ns.getD 0 0 * 7919 + 48271 * (k : Int)).fmod 2147483647 else (k : Int)
def lawN (ns : List Int) (k many : Nat) : List Int := lawNums [cellv ns k] 0 many
section
open PySem.Spec PyProof.Rows
variable {X : Cx} {Γ : List Sl} {a b : Expr} {pos : Pos} {m n : Int}
end
end DL

set_option Elab.async false
set_option linter.all false
set_option maxRecDepth 100000
set_option maxHeartbeats 4000000
set_option exponentiation.threshold 2000
namespace DL
open PySem L2
/-! ### numbers with a common bottom -/
def Gd (M B : Nat) (q : Rat) : Prop := ∃ z : Int, q * ((M : Int) : Rat) = (z : Rat) ∧ z.natAbs ≤ B
theorem gd_mono {M B B' : Nat} {q : Rat} (h : Gd M B q) (k : B ≤ B') : Gd M B' q := by
  obtain ⟨z, a, b⟩ := h
  exact ⟨z, a, Nat.le_trans b k⟩
theorem gd_add {M B1 B2 : Nat} {q r : Rat} (h : Gd M B1 q) (k : Gd M B2 r) : Gd M (B1 + B2) (q + r) := by
  obtain ⟨z, a, b⟩ := h
  obtain ⟨y, c, d⟩ := k
  refine ⟨z + y, ?_, by omega⟩
  rw [Rat.intCast_add, ← a, ← c, Rat.add_mul]
theorem gd_mul {M1 M2 B1 B2 : Nat} {q r : Rat} (h : Gd M1 B1 q) (k : Gd M2 B2 r) : Gd (M1 * M2) (B1 * B2) (q * r) := by
  obtain ⟨z, a, b⟩ := h
  obtain ⟨y, c, d⟩ := k
  refine ⟨z * y, ?_, ?_⟩
  · rw [Rat.intCast_mul, ← a, ← c, Int.natCast_mul, Rat.intCast_mul]
    generalize ((M1 : Int) : Rat) = m1
    generalize ((M2 : Int) : Rat) = m2
    grind
  · rw [Int.natAbs_mul]
    exact Nat.mul_le_mul b d
theorem gd_zero {M B : Nat} : Gd M B 0 := ⟨0, by rw [Rat.zero_mul]; rfl, Nat.zero_le _⟩
theorem gd_neg {M B : Nat} {q : Rat} (h : Gd M B q) : Gd M B (q * ((-1 : Int) : Rat)) := by
  obtain ⟨z, a, b⟩ := h
  refine ⟨-z, ?_, by omega⟩
  rw [show ((-1 : Int) : Rat) = -1 from rfl, show ((-z : Int) : Rat) = -(z : Rat) from Rat.intCast_neg z, ← a]
  grind
theorem gd_div {M B : Nat} {t b : Int} (hb : b ≠ 0) (hd : b ∣ (M : Int)) (ht : t.natAbs * M ≤ B) : Gd M B ((t : Rat) / (b : Rat)) := by
  obtain ⟨k, hk⟩ := hd
  have hb' : (b : Rat) ≠ 0 := fun z => hb (by exact_mod_cast z)
  refine ⟨t * k, ?_, ?_⟩
  · rw [hk, Rat.intCast_mul, Rat.intCast_mul]
    generalize (t : Rat) = t'
    generalize (k : Rat) = k'
    generalize (b : Rat) = b' at *
    grind
  · rw [Int.natAbs_mul]
    refine Nat.le_trans (Nat.mul_le_mul_left _ ?_) ht
    have e : M = b.natAbs * k.natAbs := by rw [← Int.natAbs_mul, ← hk, Int.natAbs_natCast]
    rw [e]
    exact Nat.le_mul_of_pos_left _ (by omega)
theorem gd_sz {M B n : Nat} {q : Rat} (h : Gd M B q) (hM : M ≠ 0) (h1 : M < 2 ^ (n + 1)) (h2 : B < 2 ^ (n + 1)) : Sz n q := by
  obtain ⟨z, a, b⟩ := h
  have e := q_eq q
  have d := den_ne q
  have key : q.num * (M : Int) = z * (q.den : Int) := by
    have g : ((q.num * (M : Int) : Int) : Rat) = ((z * (q.den : Int) : Int) : Rat) := by
      rw [Rat.intCast_mul, Rat.intCast_mul, ← a]
      generalize ((M : Int) : Rat) = m
      generalize ((q.den : Int) : Rat) = dd at *
      generalize (q.num : Rat) = nn at *
      grind
    exact_mod_cast g
  have hdvd : q.den ∣ M := by
    have h1 : (q.den : Int) ∣ q.num * (M : Int) := ⟨z, by rw [key, Int.mul_comm]⟩
    have h2 : q.den ∣ q.num.natAbs * M := by
      have := Int.natAbs_dvd_natAbs.mpr h1
      rw [Int.natAbs_mul, Int.natAbs_natCast, Int.natAbs_natCast] at this
      exact this
    exact Nat.Coprime.dvd_of_dvd_mul_left q.reduced.symm h2
  obtain ⟨k, hk⟩ := hdvd
  have hk0 : k ≠ 0 := fun z => hM (by rw [hk, z, Nat.mul_zero])
  have hz : q.num * (k : Int) = z := by
    rw [hk, Int.natCast_mul, ← Int.mul_assoc, Int.mul_right_comm] at key
    exact Int.eq_of_mul_eq_mul_right (den_neI q) key
  have hn : q.num.natAbs ≤ B := by
    have : z.natAbs = q.num.natAbs * k := by rw [← hz, Int.natAbs_mul, Int.natAbs_natCast]
    have := Nat.le_mul_of_pos_right q.num.natAbs (Nat.pos_of_ne_zero hk0)
    omega
  have hdm : q.den ≤ M := Nat.le_of_dvd (Nat.pos_of_ne_zero hM) ⟨k, hk⟩
  exact ⟨Nat.le_of_lt_succ (lg_of (Nat.succ_pos n) (Nat.lt_of_le_of_lt hn h2)), Nat.le_of_lt_succ (lg_of (Nat.succ_pos n) (Nat.lt_of_le_of_lt hdm h1))⟩
/-! ### the drawn rows of k03 -/
theorem fm_b (x : Int) {n : Int} (h : 0 < n) : 0 ≤ x.fmod n ∧ x.fmod n < n := ⟨Int.fmod_nonneg_of_pos _ h, Int.fmod_lt_of_pos _ h⟩
theorem lg_b {x : Int} {B n : Nat} (h : x.natAbs ≤ B) (hB : B < 2 ^ n) (hn : 0 < n) : Lg x < n := lg_of hn (Nat.lt_of_le_of_lt h hB)
theorem mem_getD_gd {M B : Nat} {qs : List Rat} (h : ∀ q ∈ qs, Gd M B q) (k : Nat) : Gd M B (qs.getD k 0) := by
  by_cases hk : k < qs.length
  · exact h _ (getD_mem hk)
  · rw [List.getD_eq_getElem?_getD, List.getElem?_eq_none (by omega)]
    exact gd_zero
/-- what the rows of k03 are -/
def GR (qs : List Rat) : Prop := qs.length ≤ 12 ∧ ∀ q ∈ qs, Gd 720 (2 ^ 57) q
theorem GR.sz {qs : List Rat} (h : GR qs) : ∀ q ∈ qs, Sz 57 q := fun q hq => gd_sz (h.2 q hq) (by decide) (by decide) (by decide)
theorem GR.szk {qs : List Rat} (h : GR qs) (k : Nat) : Sz 57 (qs.getD k 0) := gd_sz (mem_getD_gd h.2 k) (by decide) (by decide) (by decide)
theorem dotN_gd {xs ys : List Rat} (h : GR xs) (k : GR ys) : ∀ i, Gd 518400 (i * 2 ^ 114) (dotN xs ys i)
  | 0 => gd_zero
  | i + 1 => by
    have := gd_add (dotN_gd h k i) (gd_mul (mem_getD_gd h.2 i) (mem_getD_gd k.2 i))
    exact gd_mono this (by rw [Nat.add_mul]; omega)
theorem dotN_sz {xs ys : List Rat} (h : GR xs) (k : GR ys) {i : Nat} (hi : i < xs.length) : Sz 130 (dotN xs ys i) := gd_sz (dotN_gd h k i) (by decide) (by decide) (by have := h.1; omega)
section
open PySem.Spec PyProof.Rows
variable {X : Cx} {N : List Str} {sc : Scope} {k i : Nat} {Γ : List Sl} {b e : Expr} {pos p : Pos} {x : Str} {α : Type} {R : α → Rep} {xs : List α} {v : α} {F0 H0 : Hp} {st : List Stmt} {D : Ends}
theorem go_putM {n : Int} {tpos : Pos} (B : BX X N sc k) (he : DE X Γ e (R v)) (hb : DE X Γ b (rInt n)) (h0 : 0 ≤ n) (hn : n < xs.length) (hΓ : Γ[i]? = some (.ow (xs.map R))) (hN : N[i]? = some x) (hv : Vis sc x) (h : GO X F0 H0 st D (Γ.set i (.ow ((xs.set n.toNat v).map R))))
    (hd : (x == ("__debug__" : Str)) = false := by decide) (hcd : (x == ("__classdict__" : Str)) = false := by decide)
    (ha : ∀ v, assign (.Subscript (.Name x p) b tpos) X.env v = (do
      let ov ← holding [v] (eval (.Name x p) X.env)
      let iv ← holding [v, ov] (eval b X.env)
      standAt tpos
      holding [v, ov, iv] (setItem ov iv v)
      release [v, ov, iv] []) := by intro _; rfl)
    (hs : swapsWithSole [.Subscript (.Name x p) b tpos] e pos.line X.env = pure false := by rfl) (hw : swappedStores [.Subscript (.Name x p) b tpos] e X.env = pure none := by rfl)
    (h1 : (assignEach [.Subscript (.Name x p) b tpos] X.env).map (·.2) = [assign (.Subscript (.Name x p) b tpos) X.env] := by rfl) :
    GO X F0 H0 (.Assign [.Subscript (.Name x p) b tpos] e pos :: st) D Γ := by
  refine go_put B he hb (jj := n.toNat) ?_ hΓ hN hv ?_ hd hcd ha hs hw h1
  · obtain ⟨m, rfl⟩ : ∃ m : Nat, n = m := ⟨n.toNat, by omega⟩
    have hm : m < (xs.map R).length := by rw [List.length_map]; omega
    rw [Int.toNat_natCast]
    unfold ixN
    simp
    simp at hm
    omega
  · rw [List.map_set] at h
    exact h
end
/-! lists of cells -/
/-! ### the primitive row, told -/
end DL

set_option Elab.async false
set_option linter.all false
set_option maxRecDepth 100000
set_option maxHeartbeats 4000000
namespace DL
open PySem L2
/-! ### the numbers of k03's law -/
def kSh (ns : List Int) : List Int := lawN ns 0 16
def kT (ns : List Int) : Int := ((kSh ns).getD 3 0).fmod 19 - 9
def kU (ns : List Int) : Int := 1 + ((kSh ns).getD 4 0).fmod 4
def kV (ns : List Int) : Rat := (kT ns : Rat) / (kU ns : Rat)
end DL

set_option Elab.async false
set_option linter.all false
set_option maxRecDepth 100000
set_option maxHeartbeats 4000000
/-! errors with a field: asked for their class -/
namespace DL
open PySem PySem.W PySem.Spec PySem.Calls PyProof.Rows
section
variable {pg : Program} {w : World} {Ar : Around} {Er : Value → Shared → Prop} {z : Shared} {K : Frag} {a D : Addr} {o : Obj} {dct : Option Obj}
theorem cls_found (c : L2.ExcC K D) : findObj K D dct "__class__" = some (.bind (.builtin "getset_descriptor.__get__") (.builtin "object.__class__")) := by
  obtain ⟨cd, e, _⟩ := any_some c.hd
  unfold findObj
  rw [e, Option.bind_some, c.ha, Option.bind_some]
  simp [c.hn, c.ht]
theorem cls_asked {Q : Option Value → Shared → Prop} (c : L2.ExcC K D) (hK : K.In z.heap) (hI : InstAt z.heap a o D dct) (q : Q (some (.ref D)) { z with toks := z.toks + 1 }) : wpAny (model pg w) Ar (getAttr? (.ref a) "__class__") Q Er z := by
  obtain ⟨hh, gg, dd, tt, ss⟩ := z
  have ty := hI.type (M := model pg w)
  have la := looks_findIn (M := model pg w) hK c.hg
  have lb := looks_findIn (M := model pg w) hK c.hk
  have lf := looks_find (M := model pg w) hK hI (cls_found c)
  have sb : Looks (model pg w) hh (isInstance (.ref a) (.type "BaseException")) true := ty.andThen (looks_subIn hK c.hs)
  have no1 : (Value.builtin "BaseException.__getattribute__" == Value.builtin "object.__getattribute__") = false := by decide +kernel
  have no2 : (onTheHeap (.ref D) && Value.builtin "BaseException.__getattribute__" == .builtin "object.__getattribute__") = false := by rw [no1]; rfl
  unfold getAttr? getAttrBy?; unfold getAttrBy
  refine wpAny_bind (wpAny_mkText ?_); refine wpAny_bind (wpAny_attempt ?_)
  refine wpAny_holding (wpAny_bind (ty.at (wpAny_bind (la.at ?_))))
  show wpAny _ _ (if (onTheHeap (.ref D) && Value.builtin "BaseException.__getattribute__" == .builtin "object.__getattribute__") = true then _ else _) _ _ _
  rw [no2]; rw [if_neg Bool.false_ne_true]
  unfold getAttrByItsOwn; unfold hookBefore
  apply wpAny_bind
  rw [if_pos (by rfl : onTheHeap (.ref D) = true)]
  apply lb.at; apply wpAny_bind
  refine wpAny_attempt ?_; refine wpAny_holding ?_
  unfold callGetattribute
  rw [show (false && onTheHeap (Value.builtin "BaseException.__getattribute__")) = false from rfl]; rw [if_neg Bool.false_ne_true]
  unfold boundAndCalled; rw [PySem.F.excAttr_ValueError.ga.bind (.ref a)]
  apply wpAny_bind; apply wpAny_pure
  show wpAny _ _ (call (.builtin "BaseException.__getattribute__") [.ref a, .str "__class__" tt]) _ _ _
  apply wpAny_call; refine codeAny_call_builtin PySem.F.excAttr_ValueError.ga.plain PySem.F.entry_bexc_ga ?_
  refine @check_slot (model pg w) _ _ (⟨hh, gg, dd, tt + 1, ss⟩ : Shared) "BaseException.__getattribute__" "BaseException" "__getattribute__" (.ref a) [.str "__class__" tt]
    [] _ (by decide +kernel) (by decide +kernel) sb (PySem.F.args_bexc_ga (.ref a) (.str "__class__" tt)) ?_
  unfold Builtin.«object.__getattribute__»; apply wpAny_bind
  refine wpAny_of_eq (a := ((.ref a : Value), [Value.str "__class__" tt])) (by first | rfl | (simp only [slotArgs]; rfl)) ?_
  apply wpAny_bind; apply wpAny_pure; apply wpAny_bind
  refine ty.at (wpAny_bind (lf.at ?_))
  show wpAny _ _ (holding [Value.builtin "object.__class__"] (call (.builtin "getset_descriptor.__get__") [.builtin "object.__class__", .ref a, .ref D]) >>= ret) _ _ _
  apply wpAny_bind; apply wpAny_holding; apply wpAny_call
  refine class_get (s := ⟨hh, gg, dd, tt + 1, ss⟩) (ox := o) (od := dct) hK hI c.hm ?_
  apply wpAny_pure
  show wpAny _ _ (handedOut (Value.ref D)) _ _ _
  rw [handedOut_of (v := .ref D) (by rfl)]
  first | exact wpAny_pure (wpAny_pure q) | exact wpAny_pure q | exact wpAny_pure (wpAny_bind (wpAny_pure (wpAny_pure q)))
theorem kitx_err (c : L2.ExcC K D) : KitX K (.ref a) (.ref D) fun h => InstAt h a o D dct := by
  obtain ⟨cd, hc, _⟩ := any_some c.hd
  unfold clsIn at hc
  split at hc
  · rename_i c1 c2 c3 c4 at0
    refine ⟨fun _ _ _ I => I.type, fun _ _ kin _ Ar Q Er z keep q => ?_, fun h tp dd its n sl kin there => ?_, fun kin I q => cls_asked c kin I q⟩
    · unfold isType; unfold loadHead
      exact wpAny_bind (wpAny_loadPart (keep _ _ (kin _ _ at0)) (wpAny_pure q))
    · cases same : ((Value.ref D) == Value.ref tp) with
      | false => rfl
      | true =>
        have two : tp = D := (Value.ref.inj (beq_iff_eq.mp same)).symm
        rw [two] at there
        cases there.symm.trans (kin _ _ at0)
  · cases hc
end
end DL
namespace DL
open PySem PySem.Spec PyProof.Rows L2
/-- isinstance(e, c): e is the error that the suite holds; fs its fields, if it has a dict -/
def DctAt (H : Hp) (d : Option Addr) (fs : List (Str × V)) : Prop := match d with
  | none => fs = []
  | some dd => H dd = some (.xd fs)
def rIsF (K : PySem.W.Frag) (D a : Addr) (d : Option Addr) : List V → Hp → VK → Prop := fun xs H Q => ∃ (c : V) (cv : Value) (b : Bool) (fs : List (Str × V)), DctAt H d fs ∧ xs = [.ref a, c] ∧ (∀ u, RelV c u → u = cv) ∧ PySem.W.kitOne K (.ref D) cv = some b ∧ Q (.bl b) H
theorem call_isF {X : Cx} {a D : Addr} {d : Option Addr} {oe : Obj} {pn : List (Addr × Obj)} (c : ExcC X.K D) (hz : Zc (.ref D) d oe) (hf : ∃ vs, oe.data = .fields vs) : CallR (X.suite a ((a, oe) :: pn)) (.builtin "isinstance") (rIsF X.K D a d) := by
  intro pins s σ H xs us Q I r h
  obtain ⟨cv0, cv, b, fs, hd, rfl, hcv, e, q⟩ := h
  obtain ⟨u1, u2, rfl, r1, r2⟩ := vals2 r
  obtain rfl : u1 = Value.ref a := r1
  obtain rfl := hcv _ r2
  obtain ⟨there, _⟩ := I.pin (a, oe) (List.mem_append_left _ List.mem_cons_self)
  obtain ⟨vs, hv⟩ := hf
  obtain ⟨hz1, hz2⟩ := hz
  have J : ∃ od, PySem.W.InstAt s.heap a oe D od := by
    cases d with
    | none => exact ⟨none, there, hz1, by unfold PySem.W.notCls; rw [hv] <;> rfl, by rw [hz2]; trivial⟩
    | some dd =>
      have ok : ObjOk X.prog X.w H s.heap dd (.xd fs) := I.hok dd _ hd
      obtain ⟨mA, hns, _⟩ := ok
      obtain ⟨od, ho, _⟩ := lookIn_ns hns
      exact ⟨some od, there, hz1, by unfold PySem.W.notCls; rw [hv] <;> rfl, by rw [hz2]; exact ho⟩
  obtain ⟨od, J⟩ := J
  exact PySem.W.kia_one (kitx_err (dct := od) c) I.kIn J e (fun z => nomatch z) fun tk => ⟨.bl b, H, I.kept (t' := tk) fun _ _ z => z, rfl, q⟩
end DL

set_option Elab.async false
set_option linter.all false
set_option maxRecDepth 100000
set_option maxHeartbeats 4000000
/-! errors with a field: made, raised, let through -/
namespace DL
open PySem PySem.Spec PyProof.Rows L2
/-- def __init__(self, f): self.f = f -/
def spIni (K : PySem.W.Frag) (f : Str) : Sp := fun vs H Q _ => ∃ (a C : Addr) (v : V), vs = [.ref a, v] ∧ H a = some (exo a C none) ∧ OexC K C ∧ PySem.W.findIn K (.ref C) f = some none ∧
  ∀ dx : Addr, H dx = none → dx ≠ a → Q .non (upd (upd H dx (exd dx [(f, v)])) a (exo a C (some dx)))
structure XClsF (K : PySem.W.Frag) (mg : Str → Option Value) (x f : Str) (C : Addr) : Prop where
  g : mg x = some (.ref C)
  oex : OexC K C
  no : PySem.W.findIn K (.ref C) f = some none
  xf : XfC K C
  ini : ∀ (P : Program) (w : World) (base : Heap), ∃ (fI : Addr) (fd : FuncData), PySem.W.findIn K (.ref C) "__init__" = some (some (.ref fI)) ∧ PySem.W.typeIn K (.ref fI) = some (.type "function") ∧ FnOk P w K mg base CX0 1 fI fd ["self", f] (spIni K f) ∧ Binds K fd ["self", f] []
section
variable {X : Cx} {N : List Str} {sc : Scope} {k j : Nat} {Γ : List Sl} {a b c e : Expr} {es rest : List Expr} {r ra rb rc r' : Rep} {rs l : List Rep} {pos p : Pos} {x f : Str} {i : Nat} {v : V}
variable {ι : Type} {pre : ι → Prop} {args : ι → List Rep} {out : ι → Out} {ret : Ret} {F0 H0 : Hp} {st body : List Stmt} {D : Ends} {C : Addr} {W : WX} {fs : List (Str × V)}
theorem go_raiseF {pos2 : Pos} (B : BX X N sc k) (hk : 2 ≤ k) (tk : Takes X W) (Z : XClsF X.K X.mg x f C) (hg : sc.names.lookup x = some .globalImplicit) (he : DE X Γ e (rC v)) (h : ∀ F H σ, En F0 H0 F H σ Γ → ∀ H' d, Same H H' → H d = none → H' d = some (.xd [(f, v)]) → W (.ref C) (some d) σ H')
    (hdb : (x == ("__debug__" : Str)) = false := by decide) (hs : starEach (e :: []) X.env = (false, eval e X.env) :: starEach [] X.env := by rfl) (hpl : (backTo pos (starEach [] X.env)).any (·.1) = false := by rfl) :
    GO X F0 H0 (.Raise (some (.Call (.Name x p) [e] [] pos)) none pos2 :: st) D Γ := fun F H σ en => by
  have hgl : Gl X x := by
    show X.env.scope.names.lookup x = _
    rw [B.hsc]
    exact hg
  obtain ⟨fI, fd, h1, h2, F1, hb⟩ := Z.ini X.prog X.w X.base
  refine .of (pss_cons (ps_raise B.calm tk (pmk_oex Z.oex h1 h2 F1 (B.room.mono hk) hb .nil pass0 hgl Z.g (pa_cons pe_ev pa_nil hs) hdb hs hpl)) (pss_ev (st := st))) ?_
  refine he F0 H0 F H σ en _ fun u F1 H1 g hu => ?_
  cases hu
  refine ⟨by show 1 ≤ 1000; decide, fun al hal => ⟨al, C, v, rfl, upd_same, Z.oex, Z.no, fun dx hdx hne => ⟨rfl, dx, [(f, v)], upd_same, ?_, ?_, ?_⟩⟩⟩
  · rw [upd_ne hne, upd_same]
  · rw [upd_ne hne] at hdx
    exact hdx
  · rw [upd_ne hne] at hdx
    refine h F1 H1 σ (en.grow g) _ dx (fun b o z => ?_) hdx upd_same
    have n1 : b ≠ dx := fun y => by rw [y, hdx] at z; cases z
    have n2 : b ≠ al := fun y => by rw [y, hal] at z; cases z
    rw [upd_ne n1, del_ne n2, upd_ne n2, upd_ne n1, upd_ne n2]
    exact z
/-- a call that raises an error with a field -/
def EXF (X : Cx) (Γ : List Sl) (e : Expr) (C : Addr) (fs : List (Str × V)) (W : WX) : Prop := ∀ F0 H0 F H σ, En F0 H0 F H σ Γ → (∀ H' d, Same H H' → H d = none → H' d = some (.xd fs) → W (.ref C) (some d) σ H') → ∀ Q : VK, EV X e σ H Q
theorem ex_callF (B : BX X N sc k) (tk : Takes X W) (G : Cal X.prog X.w X.K X.mg X.base j x (PmX pre args out)) (hk : j ≤ k) (g : ι) (hp : pre g) (ho : out g = .errF C fs) (ha : DA X Γ (e :: es) (args g)) (hg : sc.names.lookup x = some .globalImplicit)
    (hdb : (x == ("__debug__" : Str)) = false := by decide) (he : starEach (e :: es) X.env = (false, eval e X.env) :: starEach es X.env := by rfl) (hpl : (backTo pos (starEach es X.env)).any (·.1) = false := by rfl) :
    EXF X Γ (.Call (.Name x p) (e :: es) [] pos) C fs W := fun F0 H0 F H σ en w Q => by
  obtain ⟨f, fd, ps, G, hm, kp, hb⟩ := G.ex
  have hgl : Gl X x := by
    show X.env.scope.names.lookup x = _
    rw [B.hsc]
    exact hg
  refine .of (pe_callS (E := WE W) G (B.room.mono hk) hgl hm kp hb (fun σ => passAt tk σ) pa_ev hdb he hpl) ?_
  refine ha F0 H0 F H σ en _ fun vs F1 H1 g1 h1 => ?_
  refine ⟨g, F1, hp, g1.s, h1, ?_⟩
  rw [ho]
  exact fun H' d s n z => w H' d (g1.h.trans s) (g1.h.free n) z
theorem go_exprF (he : EXF X Γ e C fs W) (h : ∀ F H σ, En F0 H0 F H σ Γ → ∀ H' d, Same H H' → H d = none → H' d = some (.xd fs) → W (.ref C) (some d) σ H') (hs : swapsWith e none pos.line X.env = pure false := by rfl) : GO X F0 H0 (.Expr e pos :: st) D Γ := fun F H σ en =>
  .of (pss_cons (ps_expr pe_ev hs) (pss_ev (st := st))) (he F0 H0 F H σ en (h F H σ en) _)
end
/-! the suite -/
structure BS (X : Cx) (N : List Str) (sc : Scope) : Prop where
  hN : X.N = N
  hsc : X.env.scope = sc
  nd : N.Nodup
theorem BX.su {X : Cx} {N : List Str} {sc : Scope} {k : Nat} {a : Addr} {pn : List (Addr × Obj)} (B : BX X N sc k) : BS (X.suite a pn) N sc := ⟨B.hN, B.hsc, B.nd⟩
/-- the error at a, with its fields -/
def rErr (a : Addr) (d : Option Addr) (fs : List (Str × V)) : Rep := ⟨fun F v => v = .ref a ∧ DctAt F d fs, fun {F F' v} s ⟨h1, h2⟩ => ⟨h1, by
  cases d with
  | none => exact h2
  | some dd => exact s _ _ h2⟩⟩
theorem en_err {F0 H0 F H H1 : Hp} {σ : L2.St} {Γ : List Sl} {i : Nat} {a : Addr} (en : En F0 H0 F H σ Γ) (s : Same H H1) : En F0 H0 F H1 (σ.set i (some (.ref a))) (Γ.set i (.im (rErr a none []))) :=
  (en.grow (F' := F) (H' := H1) ⟨Same.refl _, s, en.gr.s.trans s, fun _ _ z => z⟩).setIm (v := .ref a) ⟨rfl, rfl⟩
theorem en_errF {F0 H0 F H H1 : Hp} {σ : L2.St} {Γ : List Sl} {i : Nat} {a d : Addr} {fs : List (Str × V)} (en : En F0 H0 F H σ Γ) (s : Same H H1) (n : H d = none) (z : H1 d = some (.xd fs)) : ∃ F1, En F0 H0 F1 H1 (σ.set i (some (.ref a))) (Γ.set i (.im (rErr a (some d) fs))) := by
  have nf : F d = none := en.gr.s.free n
  refine ⟨upd F d (.xd fs), (en.grow (F' := upd F d (.xd fs)) (H' := H1) ⟨same_new nf, s, fun b o y => ?_, fun b hb y => ?_⟩).setIm (v := .ref a) ⟨rfl, upd_same⟩⟩
  · by_cases e : b = d
    · subst e
      rw [upd_same] at y
      rw [z, ← y]
    · rw [upd_ne e] at y
      exact s _ _ (en.gr.s _ _ y)
  · have e : b ≠ d := fun q => hb (q ▸ n)
    rw [upd_ne e]
    exact y
section
variable {X Y : Cx} {N : List Str} {sc : Scope} {k i : Nat} {Γ : List Sl} {e c : Expr} {r : Rep} {l : List Rep} {x n f : Str} {pos p p2 : Pos} {F0 H0 : Hp} {st : List Stmt} {D : Ends} {u : Bool} {v : V} {cv : Value}
/-- isinstance(e, c) in the suite -/
theorem de_isF {al Dx : Addr} {d : Option Addr} {fs : List (Str × V)} {oe : Obj} {pn : List (Addr × Obj)} (B : BS (X.suite al ((al, oe) :: pn)) N sc) (E : ExcC X.K Dx) (hz : Zc (.ref Dx) d oe) (hf : ∃ vs, oe.data = .fields vs) (hmi : X.mg "isinstance" = none) (hgi : sc.names.lookup ("isinstance" : Str) = some NameKind.globalImplicit)
    (hΓ : Γ[i]? = some (.im (rErr al d fs))) (hN : N[i]? = some n) (hv : Vis sc n) (hc : ClsE (X.suite al ((al, oe) :: pn)) c cv) (hk : PySem.W.kitOne X.K (.ref Dx) cv = some u)
    (hd : (n == ("__debug__" : Str)) = false := by decide) (hcd : (n == ("__classdict__" : Str)) = false := by decide)
    (he : starEach (.Name n p2 :: [c]) X.env = (false, eval (.Name n p2) X.env) :: starEach [c] X.env := by rfl) (he2 : starEach (c :: []) X.env = (false, eval c X.env) :: starEach [] X.env := by rfl) (hpl : (backTo pos (starEach [c] X.env)).any (·.1) = false := by rfl) :
    DE (X.suite al ((al, oe) :: pn)) Γ (.Call (.Name "isinstance" p) [.Name n p2, c] [] pos) (rBl u) := fun F0 H0 F H σ en Q q => by
  obtain ⟨hNX, hsc, _⟩ := B
  subst hsc hNX
  obtain ⟨cV, hu, hp⟩ := hc
  obtain ⟨y, hσ, rfl, hD⟩ := en.im hΓ
  have hgl : Gl (X.suite al ((al, oe) :: pn)) "isinstance" := hgi
  have hDH : DctAt H d fs := by
    cases d with
    | none => exact hD
    | some dd => exact en.gr.s _ _ hD
  refine .of (pe_callB (call_isF E hz hf) hgl hmi (by decide +kernel) (pa_cons (pe_var (i := i) hN hv hd hcd) (pa_cons hp pa_nil he2) he) (by decide) (by decide) he hpl) ?_
  exact ⟨_, hσ, cV, cv, u, fs, hDH, rfl, hu, hk, q _ F H (.refl en.gr.s) rfl⟩
/-- e.f in the suite -/
theorem de_fldF {al Dx d : Addr} {fs : List (Str × V)} {oe : Obj} {pn : List (Addr × Obj)} (B : BS (X.suite al ((al, oe) :: pn)) N sc) (T : XfC X.K Dx) (hno : PySem.W.findIn X.K (.ref Dx) f = some none) (hz : Zc (.ref Dx) (some d) oe) (hf : ∃ vs, oe.data = .fields vs)
    (hΓ : Γ[i]? = some (.im (rErr al (some d) fs))) (hN : N[i]? = some n) (hv : Vis sc n) (hl : fs.lookup f = some v) (hd : (n == ("__debug__" : Str)) = false := by decide) (hcd : (n == ("__classdict__" : Str)) = false := by decide)
    (hb : attributeBase (.Name n p2) f X.env (eval (.Name n p2) X.env) = eval (.Name n p2) X.env := by rfl) : DE (X.suite al ((al, oe) :: pn)) Γ (.Attribute (.Name n p2) f pos) (rC v) := fun F0 H0 F H σ en Q q => by
  obtain ⟨hNX, hsc, _⟩ := B
  subst hsc hNX
  obtain ⟨y, hσ, rfl, hD⟩ := en.im hΓ
  have hDH : H d = some (.xd fs) := en.gr.s _ _ hD
  refine .of (pe_xf T hno hz hf (pe_var (X := X.suite al ((al, oe) :: pn)) (i := i) hN hv hd hcd) hb) ?_
  exact ⟨_, hσ, rfl, rfl, d, fs, v, rfl, hDH, hl, q v F H (.refl en.gr.s) rfl⟩
end
end DL

set_option Elab.async false
set_option linter.all false
set_option maxRecDepth 100000
set_option maxHeartbeats 4000000
/-! try: .. except C as e: suite -/
namespace DL
open PySem PySem.Spec PyProof.Rows L2
section
variable {X Y : Cx} {N : List Str} {sc : Scope} {k i : Nat} {Γ : List Sl} {a b e c : Expr} {r : Rep} {l : List Rep} {x n f : Str} {pos p p2 tpos apos ps2 : Pos} {F0 H0 F H : Hp} {σ : L2.St} {st : List Stmt} {D D' : Ends} {ret : Ret}
theorem go_thenY (h : GO X F0 H0 st D Γ) : GO Y F0 H0 [] { D with nx := XS X st D } Γ := go_nil fun F H σ en => h F H σ en
theorem go_run {Γ : List Sl} (en : En F0 H0 F H σ Γ) (h : GO Y F0 H0 st D Γ) : XS Y st D σ H := h F H σ en
theorem RT.su (R : RT F0 H0 ret D) (h : D'.rt = D.rt := by rfl) : RT F0 H0 ret D' := fun v F' H' g q => by rw [h]; exact R v F' H' g q
def LocS (Y : Cx) (sc : Scope) (x : Str) : Prop := sc.names.lookup x = some .local ∨ (sc.names.lookup x = some .cell ∧ Y.fn x = true)
theorem go_setLS (B : BS Y N sc) (he : DL Y Γ e l) (hN : N[i]? = some x) (hx : LocS Y sc x) (h : GO Y F0 H0 st D (Γ.set i (.ow l))) (hs : swapsWith e (some (.Name x tpos)) pos.line Y.env = pure false := by rfl) :
    GO Y F0 H0 (.Assign [.Name x tpos] e pos :: st) D Γ := fun F H σ en => by
  have hf : Y.fn x = true ∨ Y.env.scope.names.lookup x = some .local := by
    rcases hx with hx | hx
    · exact .inr (by rw [B.hsc]; exact hx)
    · exact .inl hx.2
  have hx : Loc sc x := hx.elim .inl fun z => .inr z.1
  refine .of (pss_cons (ps_set (i := i) (by rw [B.hN]; exact B.nd) (by rw [B.hN]; exact hN) (by rw [B.hsc]; exact hx) pe_ev hs hf) pss_ev) ?_
  refine he F0 H0 F H σ en _ fun p vs F' H' g h1 h2 h3 h4 => h F' H' _ ((en.grow g).setOw h2 h3 h4 (en.gr.h.free h1) fun j l' k1 k2 => ?_)
  obtain ⟨p', vs', a1, a2, a3, a4, a5⟩ := en.ow k1
  rw [a1] at k2
  have e2 : p' = p := V.ref.inj (Option.some.inj (Option.some.inj k2))
  rw [e2, h1] at a3
  cases a3
theorem go_appendS (B : BS Y N sc) (hΓ : Γ[i]? = some (.ow l)) (he : DE Y Γ e r) (hl : l.length < sizeLine) (hN : N[i]? = some x) (hv : Vis sc x) (h : GO Y F0 H0 st D (Γ.set i (.ow (l ++ [r]))))
    (hd : (x == ("__debug__" : Str)) = false := by decide) (hcd : (x == ("__classdict__" : Str)) = false := by decide)
    (hbase : attributeBase (.Name x p) "append" Y.env (eval (.Name x p) Y.env) = eval (.Name x p) Y.env := by rfl)
    (hfew : ((backTo pos (starEach (e :: []) Y.env)).all (fun x => !x.1) && (backToKw pos (keywordEach [] Y.env)).all (fun x => x.1.isSome)
      && decide ((e :: []).length + ([] : List Keyword).length + (if ([] : List Keyword).isEmpty then 0 else 1) < 30)) = true := by rfl)
    (hline : (apos.endLine == pos.line) = true := by rfl) (hs : starEach (e :: []) Y.env = (false, eval e Y.env) :: starEach [] Y.env := by rfl) (hplain : (backTo pos (starEach [] Y.env)).any (·.1) = false := by rfl)
    (hsw : swapsWith (.Call (.Attribute (.Name x p) "append" apos) [e] [] pos) none ps2.line Y.env = pure false := by rfl) :
    GO Y F0 H0 (.Expr (.Call (.Attribute (.Name x p) "append" apos) [e] [] pos) ps2 :: st) D Γ := fun F H σ en => by
  obtain ⟨q, vs, h1, h2, h3, h4, h5⟩ := en.ow hΓ
  refine .of (pss_cons (ps_expr (pe_bm PySem.F.plainAttrs_list PySem.F.slot_list_append PySem.F.type_list_append mt_append (pe_var (i := i) (B.hN ▸ hN) (B.hsc ▸ hv) hd hcd) (pa_cons pe_ev pa_nil hs) hbase hfew hline hs hplain) hsw) pss_ev) ?_
  refine ⟨.ref q, h1, .inl ⟨rfl, vs, SqL.of h3⟩, ?_⟩
  refine he F0 H0 F H σ en _ fun v F' H' g hv => ?_
  have en' := en.grow g
  refine ⟨q, vs, v, rfl, rfl, g.h _ _ h3, by rw [← h4.len]; exact hl, ?_⟩
  exact h F' _ σ (en'.put hΓ h1 ((h4.mono g.f).snoc hv))
theorem de_lenOS (B : BS Y N sc) (hm : Y.mg "len" = none) (hΓ : Γ[i]? = some (.ow l)) (hN : N[i]? = some x) (hv : Vis sc x) (hg : sc.names.lookup ("len" : Str) = some NameKind.globalImplicit) (hd : (x == ("__debug__" : Str)) = false := by decide) (hcd : (x == ("__classdict__" : Str)) = false := by decide)
    (he : starEach (Expr.Name x p2 :: []) Y.env = (false, eval (.Name x p2) Y.env) :: starEach [] Y.env := by rfl) : DE Y Γ (.Call (.Name "len" p) [.Name x p2] [] pos) (rInt l.length) := fun F0 H0 F H σ en Q q => by
  obtain ⟨pp, vs, h1, h2, h3, h4, h5⟩ := en.ow hΓ
  have hgl : Gl Y "len" := by
    show Y.env.scope.names.lookup _ = _
    rw [B.hsc]
    exact hg
  exact .of (pe_callB call_len_seq hgl hm PySem.boot_len (pa_cons (pe_var (i := i) (B.hN ▸ hN) (B.hsc ▸ hv) hd hcd) pa_nil he) (he := he)) ⟨_, h1, pp, vs, rfl, .inl (SqL.of h3), q _ F H (.refl en.gr.s) (by rw [h4.len]; rfl)⟩
theorem de_ixOMS {α : Type} {R : α → Rep} {xs : List α} {n : Int} (d : α) (B : BS Y N sc) (hΓ : Γ[i]? = some (.ow (xs.map R))) (hN : N[i]? = some x) (hv : Vis sc x) (h0 : 0 ≤ n) (h1 : n < xs.length) (hb : DE Y Γ b (rInt n)) (hs : PlainIx b := by exact fun _ _ => rfl) (hd : (x == ("__debug__" : Str)) = false := by decide) (hcd : (x == ("__classdict__" : Str)) = false := by decide) :
    DE Y Γ (.Subscript (.Name x p) b pos) (R (xs.getD n.toNat d)) := fun F0 H0 F H σ en Q q => by
  obtain ⟨p, vs, h1', h2, h3, h4, h5⟩ := en.ow hΓ
  refine .of (pe_ix ix_list (pe_var (i := i) (B.hN ▸ hN) (B.hsc ▸ hv) hd hcd) pe_ev hs) ⟨_, h1', hb F0 H0 F H σ en _ fun v F' H' g hv => ?_⟩
  cases hv
  obtain ⟨v, k3, k4⟩ := h4.atI (atI_map d h0 h1)
  exact ⟨p, vs, n, v, rfl, rfl, SqL.of (g.h _ _ h3), k3, q v F' H' g ((R (xs.getD n.toNat d)).mono g.f k4)⟩
end
end DL

set_option Elab.async false
set_option linter.all false
set_option maxRecDepth 100000
set_option maxHeartbeats 4000000
/-! ends and ranges -/
namespace DL
open PySem PySem.Spec PyProof.Rows L2
abbrev Rg := Option Rat × Option Rat
abbrev rRg (K : PySem.W.Frag) (p : Rg) : Rep := rTup K [rOpt K p.1, rOpt K p.2]
def optD : Option Rat → PyData
  | none => .none
  | some q => numD q
def rgD (p : Rg) : PyData := .tuple [optD p.1, optD p.2]
theorem numD_shape (q : Rat) : (∃ i, numD q = .int i) ∨ ∃ l, numD q = .tuple l := by
  unfold numD
  split
  · exact .inl ⟨_, rfl⟩
  · exact .inr ⟨_, rfl⟩
theorem optD_eq : ∀ a b : Option Rat, PyData.eqv (optD a) (optD b) = decide (a = b)
  | none, none => rfl
  | none, some q => by
    rw [decide_eq_false (by simp)]
    rcases numD_shape q with ⟨i, h⟩ | ⟨l, h⟩ <;> (show PyData.eqv .none (numD q) = false; rw [h]; rfl)
  | some q, none => by
    rw [decide_eq_false (by simp)]
    rcases numD_shape q with ⟨i, h⟩ | ⟨l, h⟩ <;> (show PyData.eqv (numD q) .none = false; rw [h]; rfl)
  | some q, some r => by
    show PyData.eqv (numD q) (numD r) = _
    rw [numD_eq]
    by_cases h : q = r <;> simp [h]
section
variable {K : PySem.W.Frag}
theorem dat_opt : Dat K (rOpt K) optD 1 := ⟨fun o => by
    cases o with
    | none => exact dpl_non
    | some q => exact dpl_num, fun o => by
    cases o with
    | none => rfl
    | some q => exact (dat_num (K := K)).lay q, fun o => by
    cases o with
    | none => exact Nat.zero_le _
    | some q => exact (dat_num (K := K)).dep q, optD_eq⟩
theorem dat_rng : Dat K (rRg K) rgD 2 := ⟨fun p => dpl_tup2 (dat_opt.dp p.1) (dat_opt.dp p.2), fun p => by
    show (PyData.canLay0 (optD p.1) && (PyData.canLay0 (optD p.2) && true)) = true
    rw [(dat_opt (K := K)).lay p.1, (dat_opt (K := K)).lay p.2]; rfl, fun p => by
    show max (PyData.depth (optD p.1)) (max (PyData.depth (optD p.2)) 0) + 1 ≤ 2
    have := (dat_opt (K := K)).dep p.1
    have := (dat_opt (K := K)).dep p.2
    omega, fun p q => by
    show (PyData.eqv (optD p.1) (optD q.1) && (PyData.eqv (optD p.2) (optD q.2) && true)) = _
    rw [optD_eq, optD_eq]
    by_cases h1 : p.1 = q.1 <;> by_cases h2 : p.2 = q.2 <;> simp [h1, h2, Prod.ext_iff]⟩
/-- a word and a whole number -/
abbrev rSI (K : PySem.W.Frag) (p : Str × Int) : Rep := rTup K [rStr p.1, rInt p.2]
end
section
variable {X : Cx} {Γ : List Sl} {a : Expr} {p pos : Pos} {j : Nat} {r : Rep} {o : Option Rat}
theorem de_notN (ha : DE X Γ a rNon) : DE X Γ (.Compare a [.IsNot] [.Constant .none j p] pos) (rBl false) := de_cmp op_notN (fun F H x y s h1 h2 Q q => by cases h1; cases h2; exact ⟨rfl, q _ F H (.refl s) rfl⟩) ha de_non (nomark _)
theorem de_notN0 (hn : NotNon r) (ha : DE X Γ a r) : DE X Γ (.Compare a [.IsNot] [.Constant .none j p] pos) (rBl true) := de_cmp op_notN (fun F H x y s h1 h2 Q q => by
  cases h2
  exact ⟨rfl, q _ F H (.refl s) (by show V.bl _ = V.bl _; rw [decide_eq_false (hn F x h1)]; rfl)⟩) ha de_non (nomark _)
theorem de_notNo (h : DE X Γ a (rOpt X.K o)) : DE X Γ (.Compare a [.IsNot] [.Constant .none j p] pos) (rBl (!o.isNone)) := by
  cases o with
  | none => exact de_notN h
  | some q => exact de_notN0 notNon_num h
theorem dt_notN (ha : DE X Γ a rNon) : DT X Γ (.Compare a [.IsNot] [.Constant .none j p] pos) false := dt_cmp op_notN (fun F H x y s h1 h2 Q q => by cases h1; cases h2; exact ⟨rfl, q _ F H (.refl s) rfl⟩) ha de_non (nomark _)
theorem dt_notN0 (hn : NotNon r) (ha : DE X Γ a r) : DT X Γ (.Compare a [.IsNot] [.Constant .none j p] pos) true := dt_cmp op_notN (fun F H x y s h1 h2 Q q => by
  cases h2
  exact ⟨rfl, q _ F H (.refl s) (by show V.bl _ = V.bl _; rw [decide_eq_false (hn F x h1)]; rfl)⟩) ha de_non (nomark _)
theorem dt_notNo (h : DE X Γ a (rOpt X.K o)) : DT X Γ (.Compare a [.IsNot] [.Constant .none j p] pos) (!o.isNone) := by
  cases o with
  | none => exact dt_notN h
  | some q => exact dt_notN0 notNon_num h
end
end DL

set_option Elab.async false
set_option linter.all false
set_option maxRecDepth 100000
set_option maxHeartbeats 4000000
/-! a def with a star parameter -/
namespace DL
open PySem PySem.Spec PyProof.Rows L2
structure CalR (P : Program) (w : World) (K : PySem.W.Frag) (mg : Str → Option Value) (base : Heap) (k : Nat) (x : Str) (sp : Sp) : Prop where
  ex : ∃ f : Addr, FnR P w K mg base (L2.CX P w) k f sp ∧ mg x = some (.ref f) ∧ PySem.W.keepIn K (.ref f) = true
section
variable {X : Cx} {N : List Str} {sc : Scope} {k j : Nat} {Γ : List Sl} {e : Expr} {es : List Expr} {pos p : Pos} {x : Str} {ι : Type} {pre : ι → Prop} {args : ι → List Rep} {out : ι → Out} {ret : Ret} {C : Addr} {W : WX} {fs : List (Str × V)} {sp : Sp}
theorem run_R {CX : CXT} {f : Addr} {E : XK} {Q : VK} {us : List Value} {vs : List V} {pins : List (Addr × Obj)} {σ : L2.St} {H : Hp} {s : Shared} (F : FnR X.prog X.w X.K X.mg X.base CX k f sp) (hr : Room k X.A) (hx : PassesAt CX X σ E) (I : Inv X pins σ H s) (r : Vals vs us) (h : sp vs H Q E) :
    wpAny (model X.prog X.w) X.A (call (.ref f) us) (EP X pins σ Q) X.xe s := by
  refine wpAny_call (codeAny_mono (F X.A X.stack s H us vs Q E hr I.env0 r h) fun q s' hq => ?_)
  match q, hq with
  | .error e, hq => exact hx pins H s e s' I hq
  | .ok (.ret u), hq => exact I.after hq
  | .ok .next, hq => exact hq.elim
  | .ok .brk, hq => exact hq.elim
  | .ok .cont, hq => exact hq.elim
theorem pe_callRS {CX : CXT} {f : Addr} {E : L2.St → XK} {t : TA} (F : FnR X.prog X.w X.K X.mg X.base CX k f sp) (hr : Room k X.A) (hg : Gl X x) (hm : X.mg x = some (.ref f)) (hk : PySem.W.keepIn X.K (.ref f) = true) (hx : ∀ σ, PassesAt CX X σ (E σ)) (ha : PA X (e :: es) t)
    (hdb : (x == ("__debug__" : Str)) = false := by decide) (he : starEach (e :: es) X.env = (false, eval e X.env) :: starEach es X.env := by rfl) (hpl : (backTo pos (starEach es X.env)).any (·.1) = false := by rfl) :
    PE X (.Call (.Name x p) (e :: es) [] pos) (fun σ H Q => t σ H fun vs H1 => sp vs H1 Q (E σ)) :=
  ⟨fun pins s σ H Q I h => wpAny_Call_Name_kw (ld_glob I hg hm (PySem.W.callWith_K (h₀ := X.base) I.ok.mod.kin hk (thn (ha.run pos pins s σ H _ I h) fun us s1 ⟨vs, H1, I1, r, q⟩ => ⟨I1.kIn, run_R F hr (hx σ) I1 r q⟩) he hpl) hdb)⟩
theorem ca_callR (okr : ι → Ret) (B : BX X N sc k) (G : CalR X.prog X.w X.K X.mg X.base j x (PmX pre args out)) (hk : j ≤ k) (g : ι) (hp : pre g) (ho : out g = .ok (okr g)) (ha : DA X Γ (e :: es) (args g)) (hg : sc.names.lookup x = some .globalImplicit)
    (hdb : (x == ("__debug__" : Str)) = false := by decide) (he : starEach (e :: es) X.env = (false, eval e X.env) :: starEach es X.env := by rfl) (hpl : (backTo pos (starEach es X.env)).any (·.1) = false := by rfl) :
    CA X Γ (.Call (.Name x p) (e :: es) [] pos) (okr g) := fun F0 H0 F H σ en Q q => by
  obtain ⟨f, G, hm, kp⟩ := G.ex
  have hgl : Gl X x := by
    show X.env.scope.names.lookup x = _
    rw [B.hsc]
    exact hg
  refine .of (pe_callRS (E := fun _ => E0) G (B.room.mono hk) hgl hm kp (fun σ pins H s e s' I z => passL pins σ H s e s' I z) pa_ev hdb he hpl) ?_
  refine ha F0 H0 F H σ en _ fun vs F1 H1 g1 h1 => ?_
  refine ⟨g, F1, hp, g1.s, h1, ?_⟩
  rw [ho]
  exact fun v F' H' g2 hv => q v F' H' F1 H1 g1 g2 hv
theorem ex_callR (B : BX X N sc k) (tk : Takes X W) (G : CalR X.prog X.w X.K X.mg X.base j x (PmX pre args out)) (hk : j ≤ k) (g : ι) (hp : pre g) (ho : out g = .err C) (ha : DA X Γ (e :: es) (args g)) (hg : sc.names.lookup x = some .globalImplicit)
    (hdb : (x == ("__debug__" : Str)) = false := by decide) (he : starEach (e :: es) X.env = (false, eval e X.env) :: starEach es X.env := by rfl) (hpl : (backTo pos (starEach es X.env)).any (·.1) = false := by rfl) :
    EX X Γ (.Call (.Name x p) (e :: es) [] pos) C W := fun F0 H0 F H σ en w Q => by
  obtain ⟨f, G, hm, kp⟩ := G.ex
  have hgl : Gl X x := by
    show X.env.scope.names.lookup x = _
    rw [B.hsc]
    exact hg
  refine .of (pe_callRS (E := WE W) G (B.room.mono hk) hgl hm kp (fun σ => passAt tk σ) pa_ev hdb he hpl) ?_
  refine ha F0 H0 F H σ en _ fun vs F1 H1 g1 h1 => ?_
  refine ⟨g, F1, hp, g1.s, h1, ?_⟩
  rw [ho]
  exact fun H' s => w H' (g1.h.trans s)
theorem ex_callRF (B : BX X N sc k) (tk : Takes X W) (G : CalR X.prog X.w X.K X.mg X.base j x (PmX pre args out)) (hk : j ≤ k) (g : ι) (hp : pre g) (ho : out g = .errF C fs) (ha : DA X Γ (e :: es) (args g)) (hg : sc.names.lookup x = some .globalImplicit)
    (hdb : (x == ("__debug__" : Str)) = false := by decide) (he : starEach (e :: es) X.env = (false, eval e X.env) :: starEach es X.env := by rfl) (hpl : (backTo pos (starEach es X.env)).any (·.1) = false := by rfl) :
    EXF X Γ (.Call (.Name x p) (e :: es) [] pos) C fs W := fun F0 H0 F H σ en w Q => by
  obtain ⟨f, G, hm, kp⟩ := G.ex
  have hgl : Gl X x := by
    show X.env.scope.names.lookup x = _
    rw [B.hsc]
    exact hg
  refine .of (pe_callRS (E := WE W) G (B.room.mono hk) hgl hm kp (fun σ => passAt tk σ) pa_ev hdb he hpl) ?_
  refine ha F0 H0 F H σ en _ fun vs F1 H1 g1 h1 => ?_
  refine ⟨g, F1, hp, g1.s, h1, ?_⟩
  rw [ho]
  exact fun H' d s n z => w H' d (g1.h.trans s) (g1.h.free n) z
theorem exf_lend {l : List Rep} (i : Nat) (hΓ : Γ[i]? = some (.ow l)) (h : EXF X (Γ.set i (.im (rLst X.K l))) e C fs W) : EXF X Γ e C fs W := fun F0 H0 F H σ en w Q => by
  obtain ⟨F', s1, s2, en'⟩ := en.freeze (K := X.K) hΓ
  exact h F0 H0 F' H σ en' w Q
end
section
variable {P : Program} {w : World} {K : PySem.W.Frag} {mg : Str → Option Value} {base : Heap} {k : Nat} {x pv : Str} {st : Stmt} {N ps : List Str} {ι : Type} {pre : ι → Prop} {first rest : ι → List Rep} {out : ι → Out}
theorem prx_more {F H F' H' : Hp} {o : Out} {Q : VK} {E : XK} (g : Gr F H F' H') (h : PrX F H o Q E) : PrX F' H' o Q E := by
  cases o with
  | ok r =>
    cases r with
    | val r => exact fun v F2 H2 g2 hv => h v F2 H2 (g.trans g2) hv
    | lst l => exact fun v F2 H2 g2 ⟨p, vs, a, b, c⟩ => h v F2 H2 (g.trans g2) ⟨p, vs, a, g.h.free b, c⟩
  | err C => exact fun H2 s => h H2 (g.h.trans s)
  | errF C fs => exact fun H2 d s n z => h H2 d (g.h.trans s) (g.h.free n) z
theorem rl_split : ∀ {a b : List Rep} {F : Hp} {vs : List V}, RL F (a ++ b) vs → ∃ u v, vs = u ++ v ∧ RL F a u ∧ RL F b v
  | [], _, _, vs, h => ⟨[], vs, rfl, .nil, h⟩
  | _ :: a, _, _, _, .cons h t => by
    obtain ⟨u, v, rfl, h1, h2⟩ := rl_split (a := a) t
    exact ⟨_ :: u, v, rfl, .cons h h1, h2⟩
/-- a def f(a, .., *v) that may raise -/
theorem cal_okR (T : TD K mg x st) (S : FnScope N (ps ++ [pv]) (defScope st)) (hn : ∀ g, (first g).length = ps.length) (hz : ∀ g, pre g → (rest g).length ≤ sizeLine)
    (hb : ∀ (kV doc pm : Value) (an : Option Addr) (cdv ct : Value) (us vs : List Value), us.length = ps.length → bindArgs (PySem.W.fnOf x x (defArgs st) (defBody st) (defScope st) .none kV doc pm an cdv ct) ⟨us ++ vs, []⟩ = (newTuple vs >>= fun t => pure (ps.zip us ++ [(pv, t)])))
    (body : ∀ (X : Cx), X.prog = P → X.w = w → X.K = K → X.mg = mg → X.base = base → BX X N (defScope st) k → (∀ x : Str, X.fn x = true) → ∀ (g : ι) (F0 H0 : Hp) (D : Ends) (E : XK), Takes X (fun cls d _ H => E cls d H) → pre g → PrX F0 H0 (out g) D.rt E → (∀ σ H', D.nx σ H' = D.rt .non H') →
      GO X F0 H0 (defBody st) D ((first g ++ [rTup K (rest g)]).map Sl.im ++ List.replicate (N.length - (ps ++ [pv]).length) .any)) : CalR P w K mg base (k + 1) x (PmX pre (fun g => first g ++ rest g) out) := by
  obtain ⟨f, fd, F, hm⟩ := T.ex
  obtain ⟨oc, od, kV, doc, pm, an, cdv, ct, osl, rfl, lk, hcd⟩ := F.ex
  refine ⟨f, ?_, hm, F.kp⟩
  refine (StX.fn_star (sp := PmX pre (fun g => first g ++ [rTup K (rest g)]) out) lk hcd S StX.cxUp (hb kV doc pm an cdv ct) fun A outer s H vs Q E hr h => ?_).imp fun vs H Q E h => ?_
  · obtain ⟨g, F1, hp, hs, h1, q⟩ := h
    refine ⟨_, pss_ev, ?_⟩
    have hpl : (ps ++ [pv]).length ≤ N.length := by have := congrArg List.length S.pre; rw [List.length_take] at this; omega
    have hl : (first g ++ [rTup K (rest g)]).length = (ps ++ [pv]).length := by rw [List.length_append, List.length_append, hn]; rfl
    have en := en_start (N := N) hs h1 (by rw [hl]; exact hpl)
    rw [hl] at en
    exact body _ rfl rfl rfl rfl rfl ⟨rfl, rfl, S.nd, hr, rfl, passes_of rfl⟩ (fun _ => rfl) g F1 H { nx := fun _ H' => Q .non H', rt := Q } E (takes_of rfl rfl rfl rfl) hp q (fun _ _ => rfl) F1 H _ en
  · obtain ⟨g, F1, hp, hs, h1, q⟩ := h
    obtain ⟨u, v, rfl, r1, r2⟩ := rl_split h1
    refine ⟨u, v, rfl, by rw [← r1.len, hn], by rw [← r2.len]; exact hz g hp, fun p hpn => ?_⟩
    have gn : Gr F1 H (upd F1 p (.tup v)) (upd H p (.tup v)) := .new hs hpn
    refine ⟨g, upd F1 p (.tup v), hp, gn.s, (r1.mono gn.f).app (.cons ⟨p, v, rfl, SqT.of upd_same, r2.mono gn.f⟩ .nil), prx_more gn q⟩
end
end DL

set_option Elab.async false
set_option linter.all false
set_option maxRecDepth 100000
set_option maxHeartbeats 4000000
namespace DL
open PySem L2
/-! ### ends and boxes -/
def SzO (o : Option Rat) : Prop := Sz 2000 (o.getD 0)
def SzR (p : Rg) : Prop := SzO p.1 ∧ SzO p.2
def emptyQ : Option Rat → Option Rat → Bool
  | some l, some h => decide (h < l)
  | _, _ => false
theorem szo_get {o : Option Rat} (h : SzO o) : Sz 4000 (o.getD 0) := h.mono (by decide)
theorem empty_is {lo hi : Option Rat} : (!lo.isNone && (!hi.isNone && decide (hi.getD 0 < lo.getD 0))) = emptyQ lo hi := by
  cases lo <;> cases hi <;> rfl
def liesQ (q : Rat) (lo hi : Option Rat) : Bool := !emptyQ lo (some q) && !emptyQ (some q) hi
def fullO (bx : List Rg) : Option Nat := (List.range bx.length).find? fun j => emptyQ (bx.getD j (none, none)).1 (bx.getD j (none, none)).2
theorem em_more {bx : List Rg} {i : Nat} (h : ∀ j, j < i → emptyQ (bx.getD j (none, none)).1 (bx.getD j (none, none)).2 = false) (e : emptyQ (bx.getD i (none, none)).1 (bx.getD i (none, none)).2 = false) : ∀ j, j < i + 1 → emptyQ (bx.getD j (none, none)).1 (bx.getD j (none, none)).2 = false := fun j hj => by
  by_cases hj2 : j = i
  · rw [hj2, e]
  · exact h j (by omega)
theorem full_some {bx : List Rg} {i : Nat} (hi : i < bx.length) (h : ∀ j, j < i → emptyQ (bx.getD j (none, none)).1 (bx.getD j (none, none)).2 = false) (e : emptyQ (bx.getD i (none, none)).1 (bx.getD i (none, none)).2 = true) : fullO bx = some i := by
  unfold fullO
  rw [List.find?_range_eq_some]
  exact ⟨e, List.mem_range.mpr hi, fun j hj => by rw [h j hj]; rfl⟩
theorem full_none {bx : List Rg} (h : ∀ j, j < bx.length → emptyQ (bx.getD j (none, none)).1 (bx.getD j (none, none)).2 = false) : fullO bx = none := by
  unfold fullO
  rw [List.find?_eq_none]
  intro j hj
  rw [h j (List.mem_range.mp hj)]
  decide
theorem full_at {C : Addr} {bx : List Rg} {i : Nat} (hi : i < bx.length) (h : ∀ j, j < i → emptyQ (bx.getD j (none, none)).1 (bx.getD j (none, none)).2 = false) (e : emptyQ (bx.getD i (none, none)).1 (bx.getD i (none, none)).2 = true) :
    (if (fullO bx).isSome = true then Out.errF C [("cell", .int (((fullO bx).getD 0 : Nat) : Int))] else .ok (.val rNon)) = .errF C [("cell", .int ((i : Nat) : Int))] := by
  rw [full_some hi h e]
  rfl
theorem full_no {C : Addr} {bx : List Rg} (h : ∀ j, j < bx.length → emptyQ (bx.getD j (none, none)).1 (bx.getD j (none, none)).2 = false) :
    (if (fullO bx).isSome = true then Out.errF C [("cell", .int (((fullO bx).getD 0 : Nat) : Int))] else .ok (.val rNon)) = .ok (.val rNon) := by
  rw [full_none h]
  rfl
def withinQ (xs : List Rat) (bx : List Rg) : Bool := ((List.range (min xs.length bx.length)).map fun i => liesQ (xs.getD i 0) (bx.getD i (none, none)).1 (bx.getD i (none, none)).2).all id
theorem within_is {xs : List Rat} {bx : List Rg} : ((List.range (min xs.length bx.length)).map fun i => liesQ (xs.getD i 0) (bx.getD i (none, none)).1 (bx.getD i (none, none)).2).all id = withinQ xs bx := rfl
def givenQ (os : List (Option Rat)) : List Rat := ((List.range os.length).filter fun i => !(os.getD i none).isNone).map fun i => (os.getD i none).getD 0
theorem given_lc {K : PySem.W.Frag} {os : List (Option Rat)} : ((List.range os.length).filter fun i => !(os.getD i none).isNone).map (fun i => rNum K ((os.getD i none).getD 0)) = List.map (rNum K) (givenQ os) := by
  unfold givenQ
  rw [List.map_map]
  rfl
theorem given_sz {os : List (Option Rat)} (h : ∀ o ∈ os, SzO o) : ∀ q ∈ givenQ os, Sz 4000 q := fun q hq => by
  unfold givenQ at hq
  obtain ⟨i, hi, rfl⟩ := List.mem_map.mp hq
  exact szo_get (h _ (DL.getD_mem (List.mem_range.mp (List.mem_filter.mp hi).1)))
def towQ (q : Rat) (lo hi : Option Rat) : Option Rat := if 0 < q then hi else lo
theorem tow_t {q : Rat} {lo hi : Option Rat} (h : decide (((0 : Int) : Rat) < q) = true) : hi = towQ q lo hi := (if_pos (of_decide_eq_true h)).symm
theorem tow_f {q : Rat} {lo hi : Option Rat} (h : decide (((0 : Int) : Rat) < q) = false) : lo = towQ q lo hi := (if_neg (of_decide_eq_false h)).symm
def aroundQ (qs : List Rat) : List Rg := qs.map fun q => (some ((q.floor : Int) : Rat), some ((q.ceil : Int) : Rat))
theorem around_lc {K : PySem.W.Frag} {qs : List Rat} : ((List.range qs.length).filter fun _ => true).map (fun i => rRg K (some (((qs.getD i 0).floor : Int) : Rat), some (((qs.getD i 0).ceil : Int) : Rat))) = List.map (rRg K) (aroundQ qs) := by
  unfold aroundQ
  rw [List.map_map]
  exact lc_all (R := fun _ => rInt 0) (f := fun q : Rat => rRg K (some ((q.floor : Int) : Rat), some ((q.ceil : Int) : Rat)))
def lowW (ws : List Rat) : Bool := ws.any fun w => decide (w < 0)
theorem lw_more {ws : List Rat} {i : Nat} (h : ∀ j, j < i → ¬ ws.getD j 0 < 0) (e : ¬ ws.getD i 0 < ((0 : Int) : Rat)) : ∀ j, j < i + 1 → ¬ ws.getD j 0 < 0 := fun j hj => by
  by_cases hj2 : j = i
  · rw [hj2]; exact e
  · exact h j (by omega)
theorem lw_yes {ws : List Rat} {i : Nat} (hi : i < ws.length) (e : ws.getD i 0 < ((0 : Int) : Rat)) : lowW ws = true := List.any_eq_true.mpr ⟨_, DL.getD_mem (d := (0 : Rat)) hi, decide_eq_true e⟩
theorem lw_no {ws : List Rat} (h : ∀ j, j < ws.length → ¬ ws.getD j 0 < 0) : ¬ lowW ws = true := fun z => by
  obtain ⟨x, hx, hd⟩ := List.any_eq_true.mp z
  obtain ⟨j, hj, rfl⟩ := List.mem_iff_getElem.mp hx
  have := h j hj
  rw [List.getD_eq_getElem?_getD, List.getElem?_eq_getElem hj] at this
  exact this (of_decide_eq_true hd)
def movQ (o : Option Rat) (m : Rat) : Option Rat := o.map fun q => q + m
theorem mov_t {o : Option Rat} {m : Rat} (h : o.isNone = true) : none = movQ o m := by
  cases o with
  | none => rfl
  | some q => cases h
theorem mov_f {o : Option Rat} {m : Rat} (h : o.isNone = false) : some (o.getD 0 + m) = movQ o m := by
  cases o with
  | none => cases h
  | some q => rfl
def lowsQ (bs : List (List Rg)) (c : Nat) : List (Option Rat) := bs.map fun b => (b.getD c (none, none)).1
def highsQ (bs : List (List Rg)) (c : Nat) : List (Option Rat) := bs.map fun b => (b.getD c (none, none)).2
def allR (bs : List (List Rg)) (c : Nat) : Rg := (maxO (givenQ (lowsQ bs c)), minO (givenQ (highsQ bs c)))
theorem lows_lc {K : PySem.W.Frag} {bs : List (List Rg)} {c : Nat} : ((List.range bs.length).filter fun _ => true).map (fun i => rOpt K ((bs.getD i []).getD c (none, none)).1) = List.map (rOpt K) (lowsQ bs c) := by
  unfold lowsQ
  rw [List.map_map]
  exact lc_all (R := fun _ => rInt 0) (f := fun b : List Rg => rOpt K (b.getD c (none, none)).1)
theorem highs_lc {K : PySem.W.Frag} {bs : List (List Rg)} {c : Nat} : ((List.range bs.length).filter fun _ => true).map (fun i => rOpt K ((bs.getD i []).getD c (none, none)).2) = List.map (rOpt K) (highsQ bs c) := by
  unfold highsQ
  rw [List.map_map]
  exact lc_all (R := fun _ => rInt 0) (f := fun b : List Rg => rOpt K (b.getD c (none, none)).2)
theorem lh_ok {bs : List (List Rg)} {c : Nat} (h1 : bs.length ≤ 1000) (h2 : ∀ b ∈ bs, c < b.length ∧ ∀ p ∈ b, SzR p) : ((lowsQ bs c).length ≤ 1000 ∧ ∀ o ∈ lowsQ bs c, SzO o) ∧ (highsQ bs c).length ≤ 1000 ∧ ∀ o ∈ highsQ bs c, SzO o := by
  refine ⟨⟨by unfold lowsQ; rw [List.length_map]; exact h1, fun o ho => ?_⟩, by unfold highsQ; rw [List.length_map]; exact h1, fun o ho => ?_⟩
  · obtain ⟨b, hb, rfl⟩ := List.mem_map.mp ho
    exact ((h2 b hb).2 _ (DL.getD_mem (h2 b hb).1)).1
  · obtain ⟨b, hb, rfl⟩ := List.mem_map.mp ho
    exact ((h2 b hb).2 _ (DL.getD_mem (h2 b hb).1)).2
/-! the greatest worth -/
def SzB (p : Rg) : Prop := Sz 200 (p.1.getD 0) ∧ Sz 200 (p.2.getD 0)
theorem szb_r {p : Rg} (h : SzB p) : SzR p := ⟨h.1.mono (by decide), h.2.mono (by decide)⟩
def wEnd (xs : List Rat) (bx : List Rg) (i : Nat) : Option Rat := towQ (xs.getD i 0) (bx.getD i (none, none)).1 (bx.getD i (none, none)).2
def worthN (xs : List Rat) (bx : List Rg) : Nat → Option Rat
  | 0 => some 0
  | i + 1 => (worthN xs bx i).bind fun t => if xs.getD i 0 = 0 then some t else (wEnd xs bx i).map fun e => t + xs.getD i 0 * e
def worthQ (xs : List Rat) (bx : List Rg) : Option Rat := worthN xs bx (min xs.length bx.length)
theorem wo_skip {xs : List Rat} {bx : List Rg} {i : Nat} (h : (worthN xs bx i).isSome = true) (e : xs.getD i 0 = ((0 : Int) : Rat)) : (worthN xs bx (i + 1)).isSome = true ∧ (worthN xs bx i).getD 0 = (worthN xs bx (i + 1)).getD 0 := by
  obtain ⟨t, ht⟩ := Option.isSome_iff_exists.mp h
  have e : xs.getD i 0 = 0 := e
  have k : worthN xs bx (i + 1) = some t := by
    unfold worthN
    rw [ht, Option.bind_some, if_pos e]
  rw [k, ht]
  exact ⟨rfl, rfl⟩
theorem wo_add {xs : List Rat} {bx : List Rg} {i : Nat} (h : (worthN xs bx i).isSome = true) (e : ¬ xs.getD i 0 = ((0 : Int) : Rat)) (s : (wEnd xs bx i).isNone = false) : (worthN xs bx (i + 1)).isSome = true ∧ (worthN xs bx i).getD 0 + xs.getD i 0 * (wEnd xs bx i).getD 0 = (worthN xs bx (i + 1)).getD 0 := by
  obtain ⟨t, ht⟩ := Option.isSome_iff_exists.mp h
  have e : ¬ xs.getD i 0 = 0 := e
  obtain ⟨y, hy⟩ : ∃ y, wEnd xs bx i = some y := by
    cases k : wEnd xs bx i with
    | none => rw [k] at s; cases s
    | some y => exact ⟨y, rfl⟩
  have k : worthN xs bx (i + 1) = some (t + xs.getD i 0 * y) := by
    unfold worthN
    rw [ht, Option.bind_some, if_neg e, hy]; rfl
  rw [k, ht, hy]
  exact ⟨rfl, rfl⟩
theorem worthN_none {xs : List Rat} {bx : List Rg} {i : Nat} (h : worthN xs bx i = none) : ∀ n, worthN xs bx (i + n) = none
  | 0 => h
  | n + 1 => by
    show (worthN xs bx (i + n)).bind _ = none
    rw [worthN_none h n]; rfl
theorem wo_none {xs : List Rat} {bx : List Rg} {i : Nat} (hi : i < min xs.length bx.length) (e : ¬ xs.getD i 0 = ((0 : Int) : Rat)) (s : (wEnd xs bx i).isNone = true) : worthQ xs bx = none := by
  have e : ¬ xs.getD i 0 = 0 := e
  have k : worthN xs bx (i + 1) = none := by
    unfold worthN
    have : wEnd xs bx i = none := by
      cases q : wEnd xs bx i with
      | none => rfl
      | some y => rw [q] at s; cases s
    rw [this]
    cases worthN xs bx i with
    | none => rfl
    | some t =>
      rw [Option.bind_some, if_neg e]; rfl
  have := worthN_none k (min xs.length bx.length - (i + 1))
  unfold worthQ
  rw [show min xs.length bx.length = i + 1 + (min xs.length bx.length - (i + 1)) from by omega]
  exact this
theorem wo_all {xs : List Rat} {bx : List Rg} (h : (worthN xs bx (min xs.length bx.length)).isSome = true) : some ((worthN xs bx (min xs.length bx.length)).getD 0) = worthQ xs bx := by
  obtain ⟨t, ht⟩ := Option.isSome_iff_exists.mp h
  unfold worthQ
  rw [ht]; rfl
theorem tow_sz {q : Rat} {p : Rg} (h : SzB p) : Sz 200 ((towQ q p.1 p.2).getD 0) := by
  unfold towQ
  split
  · exact h.2
  · exact h.1
theorem getD_szb {bx : List Rg} (h : ∀ p ∈ bx, SzB p) (i : Nat) : SzB (bx.getD i (none, none)) := by
  by_cases hi : i < bx.length
  · exact h _ (DL.getD_mem hi)
  · rw [List.getD_eq_getElem?_getD, List.getElem?_eq_none (by omega)]
    exact ⟨sz_zero 200, sz_zero 200⟩
theorem getD_szq {xs : List Rat} {n : Nat} (h : ∀ q ∈ xs, Sz n q) (i : Nat) : Sz n (xs.getD i 0) := by
  by_cases hi : i < xs.length
  · exact h _ (DL.getD_mem hi)
  · rw [List.getD_eq_getElem?_getD, List.getElem?_eq_none (by omega)]
    exact sz_zero n
theorem worthN_sz {xs : List Rat} {bx : List Rg} (h1 : ∀ q ∈ xs, Sz 90 q) (h2 : ∀ p ∈ bx, SzB p) : ∀ i, Sz (293 * i) ((worthN xs bx i).getD 0)
  | 0 => sz_zero _
  | i + 1 => by
    have ih := worthN_sz h1 h2 i
    unfold worthN
    cases k : worthN xs bx i with
    | none => exact sz_zero _
    | some t =>
      rw [k] at ih
      rw [Option.bind_some]
      split
      · exact Sz.mono ih (by omega)
      · cases w : wEnd xs bx i with
        | none => exact sz_zero _
        | some y =>
          have hy := tow_sz (q := xs.getD i 0) (getD_szb h2 i)
          rw [show towQ (xs.getD i 0) (bx.getD i (none, none)).1 (bx.getD i (none, none)).2 = some y from w] at hy
          exact Sz.mono (sz_add ih (sz_mul (getD_szq h1 i) hy)) (by omega)
theorem wo_sz {xs : List Rat} {bx : List Rg} {i : Nat} (hl : xs.length ≤ 12) (h1 : ∀ q ∈ xs, Sz 90 q) (h2 : ∀ p ∈ bx, SzB p) (hi : i < min xs.length bx.length) : Sz 4000 ((worthN xs bx i).getD 0) ∧ Sz 4000 (xs.getD i 0 * (wEnd xs bx i).getD 0) :=
  ⟨Sz.mono (worthN_sz h1 h2 i) (by omega), Sz.mono (sz_mul (getD_szq h1 i) (tow_sz (getD_szb h2 i))) (by decide)⟩
/-! widened boxes -/
def widQ (bx : List Rg) (ws : List Rat) (m : Rat) : List Rg := (List.range (min bx.length (ws.map fun q => m * q).length)).map fun i => (movQ (bx.getD i (none, none)).1 (0 - (ws.map fun q => m * q).getD i 0), movQ (bx.getD i (none, none)).2 ((ws.map fun q => m * q).getD i 0))
theorem wid_lc {K : PySem.W.Frag} {bx : List Rg} {ws : List Rat} {m : Rat} : ((List.range (min bx.length (ws.map fun q => m * q).length)).filter fun _ => true).map (fun i => rRg K (movQ (bx.getD i (none, none)).1 (0 - (ws.map fun q => m * q).getD i 0), movQ (bx.getD i (none, none)).2 ((ws.map fun q => m * q).getD i 0))) = List.map (rRg K) (widQ bx ws m) := by
  unfold widQ
  rw [lc_true, List.map_map]
  rfl
theorem cw_ok {ws : List Rat} {m : Rat} (h : ∀ q ∈ ws, Sz 900 q) (k : Sz 900 m) : ∀ q ∈ ws ++ [m], Sz 2000 q := fun q hq => by
  rcases List.mem_append.mp hq with z | z
  · exact (h q z).mono (by decide)
  · rw [List.mem_singleton.mp z]; exact k.mono (by decide)
theorem cw_cz {ws : List Rat} {K : PySem.W.Frag} {r : Rep} (h : ws.length ≤ 1000) : (ws.map (rNum K)).length + [r].length ≤ sizeLine := by
  have h5 : 1000000 ≤ sizeLine := by decide
  rw [List.length_map]; simp; omega
theorem cw_cl {ws : List Rat} {K : PySem.W.Frag} {m : Rat} : ws.map (rNum K) ++ [rNum K m] = List.map (rNum K) (ws ++ [m]) := by rw [List.map_append]; rfl
theorem mv_sz {ws : List Rat} {m : Rat} {i : Nat} (h : ∀ q ∈ ws, Sz 900 q) (k : Sz 900 m) (hi : i < (ws.map fun q => m * q).length) : Sz 2000 ((ws.map fun q => m * q).getD i 0) := by
  rw [List.length_map] at hi
  rw [getD_mapI (d := 0) (fun q => m * q) hi]
  exact (sz_mul k (h _ (DL.getD_mem hi))).mono (by decide)
theorem mv_szn {ws : List Rat} {m : Rat} {i : Nat} (h : ∀ q ∈ ws, Sz 900 q) (k : Sz 900 m) (hi : i < (ws.map fun q => m * q).length) : Sz 2000 (0 - (ws.map fun q => m * q).getD i 0) := by
  rw [List.length_map] at hi
  rw [getD_mapI (d := 0) (fun q => m * q) hi]
  exact (sz_sub (sz_zero 0) (sz_mul k (h _ (DL.getD_mem hi)))).mono (by decide)
end DL

set_option Elab.async false
set_option linter.all false
set_option maxRecDepth 100000
set_option maxHeartbeats 4000000
namespace DL
open PySem L2
/-! the meet of boxes -/
def meetE (b : List Rg) (CS CE : Addr) : List (List Rg) → Option Out
  | [] => none
  | x :: r => if ¬ b.length = x.length then some (.err CS) else if (fullO x).isSome = true then some (.errF CE [("cell", .int (((fullO x).getD 0 : Nat) : Int))]) else meetE b CS CE r
def joinR (bs : List (List Rg)) (n : Nat) : List Rg := (List.range n).map (allR bs)
def meetO (K : PySem.W.Frag) (CS CE : Addr) (b : List Rg) (bs : List (List Rg)) : Out := (meetE b CS CE (b :: bs)).getD (if (fullO (joinR (b :: bs) b.length)).isSome = true then .errF CE [("cell", .int (((fullO (joinR (b :: bs) b.length)).getD 0 : Nat) : Int))] else .ok (.lst ((joinR (b :: bs) b.length).map (rRg K))))
def GoodB (b x : List Rg) : Prop := b.length = x.length ∧ (fullO x).isSome = false
theorem meetE_at {b : List Rg} {CS CE : Addr} {o : Out} : ∀ {l : List (List Rg)} {i : Nat}, (∀ j, j < i → GoodB b (l.getD j [])) → i < l.length → (if ¬ b.length = (l.getD i []).length then some (.err CS) else if (fullO (l.getD i [])).isSome = true then some (.errF CE [("cell", .int (((fullO (l.getD i [])).getD 0 : Nat) : Int))]) else none) = some o → meetE b CS CE l = some o
  | [], i, _, h, _ => absurd h (Nat.not_lt_zero _)
  | x :: r, 0, _, _, e => by
    unfold meetE
    rw [show (x :: r).getD 0 [] = x from rfl] at e
    split at e
    · rw [if_pos (by assumption)]; exact e
    · rw [if_neg (by assumption)]
      split at e
      · rw [if_pos (by assumption)]; exact e
      · cases e
  | x :: r, i + 1, g, h, e => by
    have g0 : GoodB b x := g 0 (by omega)
    unfold meetE
    rw [if_neg (by exact fun z => z g0.1), if_neg (by rw [g0.2]; decide)]
    exact meetE_at (fun j hj => g (j + 1) (by omega)) (by rw [List.length_cons] at h; omega) e
theorem meetE_no {b : List Rg} {CS CE : Addr} : ∀ {l : List (List Rg)}, (∀ j, j < l.length → GoodB b (l.getD j [])) → meetE b CS CE l = none
  | [], _ => rfl
  | x :: r, g => by
    have g0 : GoodB b x := g 0 (by simp)
    unfold meetE
    rw [if_neg (by exact fun z => z g0.1), if_neg (by rw [g0.2]; decide)]
    exact meetE_no fun j hj => g (j + 1) (by rw [List.length_cons]; omega)
section
variable {K : PySem.W.Frag} {CS CE : Addr} {b : List Rg} {bs : List (List Rg)} {i : Nat}
theorem mo_len (g : ∀ j, j < i → GoodB b ((b :: bs).getD j [])) (hi : i < (b :: bs).length) (h : ¬ ((b.map (rRg K)).length = (((b :: bs).getD i []).map (rRg K)).length)) : meetO K CS CE b bs = .err CS := by
  unfold meetO
  rw [meetE_at (o := .err CS) g hi (by rw [if_pos (by simpa using h)])]
  rfl
theorem mo_full (g : ∀ j, j < i → GoodB b ((b :: bs).getD j [])) (hi : i < (b :: bs).length) (h : ¬ ¬ ((b.map (rRg K)).length = (((b :: bs).getD i []).map (rRg K)).length)) (h2 : (fullO ((b :: bs).getD i [])).isSome = true) :
    meetO K CS CE b bs = .errF CE [("cell", .int (((fullO ((b :: bs).getD i [])).getD 0 : Nat) : Int))] := by
  unfold meetO
  rw [meetE_at (o := .errF CE [("cell", .int (((fullO ((b :: bs).getD i [])).getD 0 : Nat) : Int))]) g hi (by rw [if_neg (by simpa using h), if_pos h2])]
  rfl
theorem mo_more (g : ∀ j, j < i → GoodB b ((b :: bs).getD j [])) (h : (b.map (rRg K)).length = (((b :: bs).getD i []).map (rRg K)).length) (h2 : ¬ (fullO ((b :: bs).getD i [])).isSome = true) : ∀ j, j < i + 1 → GoodB b ((b :: bs).getD j []) := fun j hj => by
  by_cases e : j = i
  · subst e
    exact ⟨by simpa using h, by simpa using h2⟩
  · exact g j (by omega)
theorem mo_met (g : ∀ j, j < (b :: bs).length → GoodB b ((b :: bs).getD j [])) (h : (fullO (joinR (b :: bs) b.length)).isSome = true) : meetO K CS CE b bs = .errF CE [("cell", .int (((fullO (joinR (b :: bs) b.length)).getD 0 : Nat) : Int))] := by
  unfold meetO
  rw [meetE_no g, Option.getD_none, if_pos h]
theorem mo_ok (g : ∀ j, j < (b :: bs).length → GoodB b ((b :: bs).getD j [])) (h : ¬ (fullO (joinR (b :: bs) b.length)).isSome = true) : meetO K CS CE b bs = .ok (.lst ((joinR (b :: bs) b.length).map (rRg K))) := by
  unfold meetO
  rw [meetE_no g, Option.getD_none, if_neg h]
theorem mo_hz (h : bs.length ≤ 900) : (bs.map fun l => rLst K (l.map (rRg K))).length ≤ sizeLine := by
  have h5 : 1000000 ≤ sizeLine := by decide
  rw [List.length_map]; omega
theorem mo_cz {r : Rep} (h : bs.length ≤ 900) : [r].length + (bs.map fun l => rLst K (l.map (rRg K))).length ≤ sizeLine := by
  have h5 : 1000000 ≤ sizeLine := by decide
  rw [List.length_map]; simp; omega
theorem opt_szo {o : Option Rat} (h : ∀ q, o = some q → Sz 2000 q) : SzO o := by
  cases o with
  | none => exact sz_zero _
  | some q => exact h q rfl
theorem given_sz2 {os : List (Option Rat)} (h : ∀ o ∈ os, SzO o) : ∀ q ∈ givenQ os, Sz 2000 q := fun q hq => by
  unfold givenQ at hq
  obtain ⟨i, hi, rfl⟩ := List.mem_map.mp hq
  exact h _ (DL.getD_mem (List.mem_range.mp (List.mem_filter.mp hi).1))
theorem allR_sz {bs : List (List Rg)} {c : Nat} (h : ∀ x ∈ bs, c < x.length ∧ ∀ p ∈ x, SzR p) : SzR (allR bs c) := by
  refine ⟨opt_szo fun q e => ?_, opt_szo fun q e => ?_⟩
  · refine given_sz2 (fun o ho => ?_) q (maxO_mem _ _ e).1
    obtain ⟨x, hx, rfl⟩ := List.mem_map.mp ho
    exact ((h x hx).2 _ (DL.getD_mem (h x hx).1)).1
  · refine given_sz2 (fun o ho => ?_) q (minO_mem _ _ e).1
    obtain ⟨x, hx, rfl⟩ := List.mem_map.mp ho
    exact ((h x hx).2 _ (DL.getD_mem (h x hx).1)).2
theorem mo_all (h : ∀ x ∈ b :: bs, ∀ p ∈ x, SzR p) (g : ∀ j, j < (b :: bs).length → GoodB b ((b :: bs).getD j [])) (hi : i < b.length) : ∀ x ∈ b :: bs, i < x.length ∧ ∀ p ∈ x, SzR p := fun x hx => by
  obtain ⟨j, hj, e⟩ := List.mem_iff_getElem.mp hx
  have := g j hj
  rw [List.getD_eq_getElem?_getD, List.getElem?_eq_getElem hj, Option.getD_some, e] at this
  exact ⟨by have := this.1; omega, h x hx⟩
theorem mo_rng (h1 : bs.length ≤ 900) (h : ∀ x ∈ b :: bs, ∀ p ∈ x, SzR p) (g : ∀ j, j < (b :: bs).length → GoodB b ((b :: bs).getD j [])) (hi : i < b.length) : (b :: bs).length ≤ 1000 ∧ ∀ x ∈ b :: bs, i < x.length ∧ ∀ p ∈ x, SzR p :=
  ⟨by rw [List.length_cons]; omega, mo_all h g hi⟩
theorem join_sz (g : ∀ j, j < (b :: bs).length → GoodB b ((b :: bs).getD j [])) (h : ∀ x ∈ b :: bs, ∀ p ∈ x, SzR p) : ∀ p ∈ joinR (b :: bs) b.length, SzR p := fun p hp => by
  obtain ⟨i, hi, rfl⟩ := List.mem_map.mp hp
  exact allR_sz (mo_all h g (List.mem_range.mp hi))
theorem join_lc : ((List.range b.length).filter fun _ => true).map (fun i => rRg K (allR (b :: bs) i)) = List.map (rRg K) (joinR (b :: bs) b.length) := by
  unfold joinR
  rw [lc_true, List.map_map]
  rfl
end
end DL

set_option Elab.async false
set_option linter.all false
set_option maxRecDepth 100000
set_option maxHeartbeats 4000000
namespace DL
open PySem L2
open PySem.Spec in
theorem BS.gl {Y : Cx} {N : List Str} {sc : Scope} {x : Str} (B : BS Y N sc) (h : sc.names.lookup x = some .globalImplicit) : Gl Y x := by
  show Y.env.scope.names.lookup x = _
  rw [B.hsc]
  exact h
/-! what the doors answer -/
def MeetBad (b : List Rg) (bs : List (List Rg)) (n : Nat) : Prop := ∀ (K : PySem.W.Frag) (CS CE : Addr), meetO K CS CE b bs = .errF CE [("cell", .int (n : Int))]
def MeetSize (b : List Rg) (bs : List (List Rg)) : Prop := ∀ (K : PySem.W.Frag) (CS CE : Addr), meetO K CS CE b bs = .err CS
section
variable {K : PySem.W.Frag} {CS CE : Addr} {bx : List Rg} {xs : List Rat} {n : Nat} {o : Out}
theorem in_s (h : ¬ bx.length = xs.length) : (if ¬ (bx.map (rRg K)).length = (xs.map (rNum K)).length then Out.err CS else o) = .err CS := by
  rw [if_pos (by simpa using h)]
theorem in_e (h1 : bx.length = xs.length) (h2 : fullO bx = some n) : (if ¬ (bx.map (rRg K)).length = (xs.map (rNum K)).length then Out.err CS else if (fullO bx).isSome = true then .errF CE [("cell", .int (((fullO bx).getD 0 : Nat) : Int))] else o) = .errF CE [("cell", .int (n : Int))] := by
  rw [if_neg (by simpa using h1), h2]; rfl
theorem in_o (h1 : bx.length = xs.length) (h2 : fullO bx = none) : (if ¬ (bx.map (rRg K)).length = (xs.map (rNum K)).length then Out.err CS else if (fullO bx).isSome = true then .errF CE [("cell", .int (((fullO bx).getD 0 : Nat) : Int))] else o) = o := by
  rw [if_neg (by simpa using h1), h2]; rfl
theorem gw_s (h : ¬ xs.length = bx.length) : (if ¬ (xs.map (rNum K)).length = (bx.map (rRg K)).length then Out.err CS else o) = .err CS := by
  rw [if_pos (by simpa using h)]
theorem gw_e (h1 : xs.length = bx.length) (h2 : fullO bx = some n) : (if ¬ (xs.map (rNum K)).length = (bx.map (rRg K)).length then Out.err CS else if (fullO bx).isSome = true then .errF CE [("cell", .int (((fullO bx).getD 0 : Nat) : Int))] else o) = .errF CE [("cell", .int (n : Int))] := by
  rw [if_neg (by simpa using h1), h2]; rfl
theorem gw_o (h1 : xs.length = bx.length) (h2 : fullO bx = none) : (if ¬ (xs.map (rNum K)).length = (bx.map (rRg K)).length then Out.err CS else if (fullO bx).isSome = true then .errF CE [("cell", .int (((fullO bx).getD 0 : Nat) : Int))] else o) = o := by
  rw [if_neg (by simpa using h1), h2]; rfl
end
end DL

set_option Elab.async false
set_option linter.all false
set_option maxRecDepth 100000
set_option maxHeartbeats 4000000
namespace DL
open PySem L2
/-! ### k17: points, ends, boxes -/
def ptT (ns : List Int) (lg : Bool) (i : Nat) : Int := if lg = true then ((ns.getD (2 * (i : Int)).toNat 0).fmod 101 - 50) * ((10 : Int) ^ (12 : Int).toNat + 39) else (ns.getD (2 * (i : Int)).toNat 0).fmod 101 - 50
def ptB (ns : List Int) (i : Nat) : Int := 1 + (ns.getD (2 * (i : Int) + 1).toNat 0).fmod 6
def ptQ (ns : List Int) (lg : Bool) (i : Nat) : Rat := (ptT ns lg i : Rat) / (ptB ns i : Rat)
def pointQ (ns : List Int) (n : Nat) (lg : Bool) : List Rat := (List.range n).map (ptQ ns lg)
theorem pt_t {ns : List Int} {lg : Bool} {i : Nat} (h : lg = true) : (((((ns.getD (2 * (i : Int)).toNat 0).fmod 101 - 50) * ((10 : Int) ^ (12 : Int).toNat + 39) : Int) : Rat) / ((1 + (ns.getD (2 * (i : Int) + 1).toNat 0).fmod 6 : Int) : Rat)) = ptQ ns lg i := by
  unfold ptQ ptT ptB
  rw [if_pos h]
theorem pt_f {ns : List Int} {lg : Bool} {i : Nat} (h : ¬ lg = true) : ((((ns.getD (2 * (i : Int)).toNat 0).fmod 101 - 50 : Int) : Rat) / ((1 + (ns.getD (2 * (i : Int) + 1).toNat 0).fmod 6 : Int) : Rat)) = ptQ ns lg i := by
  unfold ptQ ptT ptB
  rw [if_neg h]
theorem ptB_b (ns : List Int) (i : Nat) : 1 ≤ ptB ns i ∧ ptB ns i ≤ 6 := by
  have := fm_b (ns.getD (2 * (i : Int) + 1).toNat 0) (n := 6) (by decide)
  unfold ptB
  omega
theorem ptT_b (ns : List Int) (lg : Bool) (i : Nat) : (ptT ns lg i).natAbs ≤ 50 * (10 ^ 12 + 39) := by
  have h := fm_b (ns.getD (2 * (i : Int)).toNat 0) (n := 101) (by decide)
  unfold ptT
  split
  · rw [Int.natAbs_mul]
    exact Nat.mul_le_mul (by omega) (by decide)
  · exact Nat.le_trans (show _ ≤ 50 by omega) (by decide)
theorem pt_m (ns : List Int) (i : Nat) : Lg ((ns.getD (2 * (i : Int)).toNat 0).fmod 101 - 50) + Lg ((10 : Int) ^ (12 : Int).toNat + 39) < 1000000 := by
  have h := fm_b (ns.getD (2 * (i : Int)).toNat 0) (n := 101) (by decide)
  have := lg_b (x := (ns.getD (2 * (i : Int)).toNat 0).fmod 101 - 50) (B := 50) (n := 6) (by omega) (by decide) (by decide)
  have : Lg ((10 : Int) ^ (12 : Int).toNat + 39) < 64 := by decide +kernel
  omega
theorem pt_mk (ns : List Int) (lg : Bool) (i : Nat) : ptB ns i ≠ 0 ∧ Lg (ptT ns lg i) < 990 ∧ Lg (ptB ns i) < 990 :=
  ⟨by have := ptB_b ns i; omega, lg_b (ptT_b ns lg i) (by decide) (by decide), lg_b (B := 6) (by have := ptB_b ns i; omega) (by decide) (by decide)⟩
theorem pt_mkT {ns : List Int} {i : Nat} : ptB ns i ≠ 0 ∧ Lg (((ns.getD (2 * (i : Int)).toNat 0).fmod 101 - 50) * ((10 : Int) ^ (12 : Int).toNat + 39)) < 990 ∧ Lg (ptB ns i) < 990 := pt_mk ns true i
theorem pt_mkF {ns : List Int} {i : Nat} : ptB ns i ≠ 0 ∧ Lg ((ns.getD (2 * (i : Int)).toNat 0).fmod 101 - 50) < 990 ∧ Lg (ptB ns i) < 990 := pt_mk ns false i
theorem dvd720 {b : Int} (h : 1 ≤ b ∧ b ≤ 6) : b ∣ ((720 : Nat) : Int) := by
  rcases (by omega : b = 1 ∨ b = 2 ∨ b = 3 ∨ b = 4 ∨ b = 5 ∨ b = 6) with h | h | h | h | h | h <;> subst h <;> decide
theorem ptQ_gd (ns : List Int) (lg : Bool) (i : Nat) : Gd 720 (2 ^ 56) (ptQ ns lg i) :=
  gd_div (by have := ptB_b ns i; omega) (dvd720 (ptB_b ns i)) (Nat.le_trans (Nat.mul_le_mul_right 720 (ptT_b ns lg i)) (by decide))
theorem pointQ_gd {ns : List Int} {n : Nat} {lg : Bool} : ∀ q ∈ pointQ ns n lg, Gd 720 (2 ^ 56) q := fun q hq => by
  obtain ⟨i, _, rfl⟩ := List.mem_map.mp hq
  exact ptQ_gd ns lg i
theorem pointQ_len {ns : List Int} {n : Nat} {lg : Bool} : (pointQ ns n lg).length = n := by unfold pointQ; rw [List.length_map, List.length_range]
/-! ends -/
def endQ (x : Rat) (n : Int) (up : Bool) : Option Rat := if n.fmod 5 = 0 then none else if n.fmod 5 = 1 then some x else if up = true then some ((x.ceil + (n.fdiv 5).fmod 4 : Int) : Rat) else some ((x.floor - (n.fdiv 5).fmod 4 : Int) : Rat)
theorem end_0 {x : Rat} {n : Int} {up : Bool} (h : n.fmod 5 = 0) : none = endQ x n up := by unfold endQ; rw [if_pos h]
theorem end_1 {x : Rat} {n : Int} {up : Bool} (h0 : ¬ n.fmod 5 = 0) (h : n.fmod 5 = 1) : some x = endQ x n up := by unfold endQ; rw [if_neg h0, if_pos h]
theorem end_u {x : Rat} {n : Int} {up : Bool} (h0 : ¬ n.fmod 5 = 0) (h1 : ¬ n.fmod 5 = 1) (h : up = true) : some ((x.ceil + (n.fdiv 5).fmod 4 : Int) : Rat) = endQ x n up := by unfold endQ; rw [if_neg h0, if_neg h1, if_pos h]
theorem end_d {x : Rat} {n : Int} {up : Bool} (h0 : ¬ n.fmod 5 = 0) (h1 : ¬ n.fmod 5 = 1) (h : up = false) : some ((x.floor - (n.fdiv 5).fmod 4 : Int) : Rat) = endQ x n up := by unfold endQ; rw [if_neg h0, if_neg h1, if_neg (by rw [h]; exact Bool.false_ne_true)]
def boxQ (qs : List Rat) (ns : List Int) : List Rg := (List.range qs.length).map fun i : Nat => (endQ (qs.getD (i : Int).toNat 0) (ns.getD (i : Int).toNat 0) false, endQ (qs.getD (i : Int).toNat 0) (ns.getD ((qs.length : Int) + (i : Int)).toNat 0) true)
theorem box_lc {K : PySem.W.Frag} {qs : List Rat} {ns : List Int} : ((List.range qs.length).filter fun _ => true).map (fun i : Nat => rRg K (endQ (qs.getD (i : Int).toNat 0) (ns.getD (i : Int).toNat 0) false, endQ (qs.getD (i : Int).toNat 0) (ns.getD ((qs.length : Int) + (i : Int)).toNat 0) true)) = List.map (rRg K) (boxQ qs ns) := by
  unfold boxQ
  rw [lc_true, List.map_map]
  rfl
theorem boxQ_len {qs : List Rat} {ns : List Int} : (boxQ qs ns).length = qs.length := by unfold boxQ; rw [List.length_map, List.length_range]
/-! within -/
theorem lo_is {o : Option Rat} {q : Rat} : (!o.isNone && decide (q < o.getD 0)) = emptyQ o (some q) := by cases o <;> rfl
theorem hi_is {o : Option Rat} {q : Rat} : (!o.isNone && decide (o.getD 0 < q)) = emptyQ (some q) o := by cases o <;> rfl
abbrev liesAt (xs : List Rat) (bx : List Rg) (i : Nat) : Bool := liesQ (xs.getD i 0) (bx.getD i (none, none)).1 (bx.getD i (none, none)).2
theorem wi_more {xs : List Rat} {bx : List Rg} {i : Nat} (h : ∀ j, j < i → liesAt xs bx j = true) (e1 : (!(bx.getD i (none, none)).1.isNone && decide (xs.getD i 0 < ((bx.getD i (none, none)).1).getD 0)) = false) (e2 : (!(bx.getD i (none, none)).2.isNone && decide (((bx.getD i (none, none)).2).getD 0 < xs.getD i 0)) = false) :
    ∀ j, j < i + 1 → liesAt xs bx j = true := fun j hj => by
  by_cases e : j = i
  · subst e
    rw [lo_is] at e1
    rw [hi_is] at e2
    unfold liesAt liesQ
    rw [e1, e2]; rfl
  · exact h j (by omega)
theorem wi_all {xs : List Rat} {bx : List Rg} : withinQ xs bx = true ↔ ∀ j, j < min xs.length bx.length → liesAt xs bx j = true := by
  unfold withinQ
  rw [List.all_eq_true]
  constructor
  · intro h j hj
    exact h _ (List.mem_map.mpr ⟨j, List.mem_range.mpr hj, rfl⟩)
  · intro h b hb
    obtain ⟨j, hj, rfl⟩ := List.mem_map.mp hb
    exact h j (List.mem_range.mp hj)
theorem wi_no1 {xs : List Rat} {bx : List Rg} {i : Nat} (hi : i < min xs.length bx.length) (e : (!(bx.getD i (none, none)).1.isNone && decide (xs.getD i 0 < ((bx.getD i (none, none)).1).getD 0)) = true) : false = withinQ xs bx := by
  rw [lo_is] at e
  symm
  rw [← Bool.not_eq_true, wi_all]
  intro h
  have := h i hi
  unfold liesAt liesQ at this
  rw [e] at this
  cases this
theorem wi_no2 {xs : List Rat} {bx : List Rg} {i : Nat} (hi : i < min xs.length bx.length) (e : (!(bx.getD i (none, none)).2.isNone && decide (((bx.getD i (none, none)).2).getD 0 < xs.getD i 0)) = true) : false = withinQ xs bx := by
  rw [hi_is] at e
  symm
  rw [← Bool.not_eq_true, wi_all]
  intro h
  have := h i hi
  unfold liesAt liesQ at this
  rw [e, Bool.not_true, Bool.and_false] at this
  cases this
theorem wi_yes {xs : List Rat} {bx : List Rg} (h : ∀ j, j < bx.length → liesAt xs bx j = true) (hl : xs.length = bx.length) : true = withinQ xs bx := ((wi_all).mpr fun j hj => h j (by omega)).symm
/-! joined -/
theorem given_fm {os : List (Option Rat)} : givenQ os = os.filterMap id := by
  unfold givenQ
  induction os with
  | nil => rfl
  | cons o os ih =>
    rw [List.length_cons, List.range_succ_eq_map, List.filter_cons, List.filterMap_cons]
    rw [List.filter_map]
    cases o with
    | none =>
      show List.map _ (List.map Nat.succ _) = _
      rw [List.map_map]
      exact ih
    | some q =>
      show List.map _ (0 :: List.map Nat.succ _) = _
      rw [List.map_cons, List.map_map]
      exact congrArg (q :: ·) ih
theorem given_snoc {os : List (Option Rat)} {o : Option Rat} : givenQ (os ++ [o]) = givenQ os ++ (match o with | none => [] | some q => [q]) := by
  rw [given_fm, given_fm, List.filterMap_append]
  cases o <;> rfl
def jLo (bs : List (List Rg)) (c i : Nat) : Option Rat := maxO (givenQ (lowsQ (bs.take i) c))
def jHi (bs : List (List Rg)) (c i : Nat) : Option Rat := minO (givenQ (highsQ (bs.take i) c))
theorem lows_step {bs : List (List Rg)} {c i : Nat} (hi : i < bs.length) : lowsQ (bs.take (i + 1)) c = lowsQ (bs.take i) c ++ [((bs.getD i []).getD c (none, none)).1] := by
  unfold lowsQ
  rw [take_snoc (d := []) hi, List.map_append]; rfl
theorem highs_step {bs : List (List Rg)} {c i : Nat} (hi : i < bs.length) : highsQ (bs.take (i + 1)) c = highsQ (bs.take i) c ++ [((bs.getD i []).getD c (none, none)).2] := by
  unfold highsQ
  rw [take_snoc (d := []) hi, List.map_append]; rfl
theorem jlo_t {bs : List (List Rg)} {c i : Nat} (hi : i < bs.length) (h : (!((bs.getD i []).getD c (none, none)).1.isNone && ((jLo bs c i).isNone || decide ((jLo bs c i).getD 0 < (((bs.getD i []).getD c (none, none)).1).getD 0))) = true) : ((bs.getD i []).getD c (none, none)).1 = jLo bs c (i + 1) := by
  unfold jLo at h ⊢
  rw [lows_step hi, given_snoc]
  cases e : ((bs.getD i []).getD c (none, none)).1 with
  | none => rw [e] at h; cases h
  | some q =>
    rw [e] at h
    unfold maxO at h ⊢
    rw [List.foldl_append]
    exact (if_pos h).symm
theorem jlo_f {bs : List (List Rg)} {c i : Nat} (hi : i < bs.length) (h : (!((bs.getD i []).getD c (none, none)).1.isNone && ((jLo bs c i).isNone || decide ((jLo bs c i).getD 0 < (((bs.getD i []).getD c (none, none)).1).getD 0))) = false) : jLo bs c i = jLo bs c (i + 1) := by
  unfold jLo at h ⊢
  rw [lows_step hi, given_snoc]
  cases e : ((bs.getD i []).getD c (none, none)).1 with
  | none => rw [List.append_nil]
  | some q =>
    rw [e] at h
    unfold maxO at h ⊢
    rw [List.foldl_append]
    refine (if_neg fun z => ?_).symm
    have h : ((List.foldl stepMax none (givenQ (lowsQ (bs.take i) c))).isNone || decide ((List.foldl stepMax none (givenQ (lowsQ (bs.take i) c))).getD 0 < q)) = false := h
    rw [h] at z
    cases z
theorem jhi_t {bs : List (List Rg)} {c i : Nat} (hi : i < bs.length) (h : (!((bs.getD i []).getD c (none, none)).2.isNone && ((jHi bs c i).isNone || decide ((((bs.getD i []).getD c (none, none)).2).getD 0 < (jHi bs c i).getD 0))) = true) : ((bs.getD i []).getD c (none, none)).2 = jHi bs c (i + 1) := by
  unfold jHi at h ⊢
  rw [highs_step hi, given_snoc]
  cases e : ((bs.getD i []).getD c (none, none)).2 with
  | none => rw [e] at h; cases h
  | some q =>
    rw [e] at h
    unfold minO at h ⊢
    rw [List.foldl_append]
    exact (if_pos h).symm
theorem jhi_f {bs : List (List Rg)} {c i : Nat} (hi : i < bs.length) (h : (!((bs.getD i []).getD c (none, none)).2.isNone && ((jHi bs c i).isNone || decide ((((bs.getD i []).getD c (none, none)).2).getD 0 < (jHi bs c i).getD 0))) = false) : jHi bs c i = jHi bs c (i + 1) := by
  unfold jHi at h ⊢
  rw [highs_step hi, given_snoc]
  cases e : ((bs.getD i []).getD c (none, none)).2 with
  | none => rw [List.append_nil]
  | some q =>
    rw [e] at h
    unfold minO at h ⊢
    rw [List.foldl_append]
    refine (if_neg fun z => ?_).symm
    have h : ((List.foldl stepMin none (givenQ (highsQ (bs.take i) c))).isNone || decide (q < (List.foldl stepMin none (givenQ (highsQ (bs.take i) c))).getD 0)) = false := h
    rw [h] at z
    cases z
theorem j_all {bs : List (List Rg)} {c : Nat} : (jLo bs c bs.length, jHi bs c bs.length) = allR bs c := by
  unfold jLo jHi allR
  rw [List.take_of_length_le (Nat.le_refl _)]
theorem j_sz {bs : List (List Rg)} {c i n : Nat} (h : ∀ x ∈ bs, ∀ p ∈ x, Sz n (p.1.getD 0) ∧ Sz n (p.2.getD 0)) (hc : ∀ x ∈ bs, c < x.length) : Sz n ((jLo bs c i).getD 0) ∧ Sz n ((jHi bs c i).getD 0) := by
  have key : ∀ (f : Rg → Option Rat), (∀ x ∈ bs, ∀ p ∈ x, Sz n ((f p).getD 0)) → ∀ q ∈ givenQ ((bs.take i).map fun b => f (b.getD c (none, none))), Sz n q := fun f hf q hq => by
    unfold givenQ at hq
    obtain ⟨j, hj, rfl⟩ := List.mem_map.mp hq
    have hj := List.mem_range.mp (List.mem_filter.mp hj).1
    have := DL.getD_mem (d := (none : Option Rat)) hj
    obtain ⟨b, hb, e⟩ := List.mem_map.mp this
    rw [← e]
    have hb := List.mem_of_mem_take hb
    exact hf b hb _ (DL.getD_mem (hc b hb))
  have some_sz : ∀ (o : Option Rat), (∀ q, o = some q → Sz n q) → Sz n (o.getD 0) := fun o h => by
    cases o with
    | none => exact sz_zero _
    | some q => exact h q rfl
  exact ⟨some_sz _ fun q e => key Prod.fst (fun x hx p hp => (h x hx p hp).1) q (maxO_mem _ _ e).1, some_sz _ fun q e => key Prod.snd (fun x hx p hp => (h x hx p hp).2) q (minO_mem _ _ e).1⟩
/-! empty -/
def fullQ (bx : List Rg) : Option Rat := (fullO bx).map fun n => ((n : Int) : Rat)
theorem fe_at {bx : List Rg} {i : Nat} (hi : i < bx.length) (h : ∀ j, j < i → emptyQ (bx.getD j (none, none)).1 (bx.getD j (none, none)).2 = false) (e : (!(bx.getD i (none, none)).1.isNone && (!(bx.getD i (none, none)).2.isNone && decide (((bx.getD i (none, none)).2).getD 0 < ((bx.getD i (none, none)).1).getD 0))) = true) : some (((i : Nat) : Int) : Rat) = fullQ bx := by
  rw [empty_is] at e
  unfold fullQ
  rw [full_some hi h e]; rfl
theorem fe_more {bx : List Rg} {i : Nat} (h : ∀ j, j < i → emptyQ (bx.getD j (none, none)).1 (bx.getD j (none, none)).2 = false) (e : (!(bx.getD i (none, none)).1.isNone && (!(bx.getD i (none, none)).2.isNone && decide (((bx.getD i (none, none)).2).getD 0 < ((bx.getD i (none, none)).1).getD 0))) = false) : ∀ j, j < i + 1 → emptyQ (bx.getD j (none, none)).1 (bx.getD j (none, none)).2 = false := em_more h (by rw [← empty_is]; exact e)
theorem fe_no {bx : List Rg} (h : ∀ j, j < bx.length → emptyQ (bx.getD j (none, none)).1 (bx.getD j (none, none)).2 = false) : none = fullQ bx := by
  unfold fullQ
  rw [full_none h]; rfl
end DL

set_option Elab.async false
set_option linter.all false
set_option maxRecDepth 100000
set_option maxHeartbeats 4000000
namespace DL
open PySem L2
theorem two_sz {p : Rg} (h : SzB p) (i : Nat) : Sz 200 (([p.1, p.2].getD i none).getD 0) := by
  match i with
  | 0 => exact h.1
  | 1 => exact h.2
  | n + 2 => exact sz_zero _
theorem jn_i {bs : List (List Rg)} {n i j : Nat} (hs : ∀ x ∈ bs, x.length = n) (h0 : (bs.getD 0 []).length = n) (hi : i < ((bs.getD 0 []).length : Int).toNat) (hj : j < bs.length) : ((i : Nat) : Int) < ((bs.getD j []).length : Int) := by
  have := hs _ (DL.getD_mem (d := []) hj)
  omega
theorem jn_lo {bs : List (List Rg)} {n i j : Nat} (hs : ∀ x ∈ bs, x.length = n) (h0 : (bs.getD 0 []).length = n) (hb : ∀ x ∈ bs, ∀ p ∈ x, SzB p) (hi : i < ((bs.getD 0 []).length : Int).toNat) (hj : j < bs.length) : Sz 400 ((jLo bs i j).getD 0) ∧ Sz 400 ((((bs.getD j []).getD ((i : Nat) : Int).toNat (none, none)).1).getD 0) :=
  ⟨(j_sz (n := 200) (fun x hx p hp => hb x hx p hp) (fun x hx => by have := hs x hx; omega)).1.mono (by decide), (getD_szb (hb _ (DL.getD_mem (d := []) hj)) _).1.mono (by decide)⟩
theorem jn_hi {bs : List (List Rg)} {n i j : Nat} (hs : ∀ x ∈ bs, x.length = n) (h0 : (bs.getD 0 []).length = n) (hb : ∀ x ∈ bs, ∀ p ∈ x, SzB p) (hi : i < ((bs.getD 0 []).length : Int).toNat) (hj : j < bs.length) : Sz 400 ((((bs.getD j []).getD ((i : Nat) : Int).toNat (none, none)).2).getD 0) ∧ Sz 400 ((jHi bs i j).getD 0) :=
  ⟨(getD_szb (hb _ (DL.getD_mem (d := []) hj)) _).2.mono (by decide), (j_sz (n := 200) (fun x hx p hp => hb x hx p hp) (fun x hx => by have := hs x hx; omega)).2.mono (by decide)⟩
end DL

set_option Elab.async false
set_option linter.all false
set_option maxRecDepth 100000
set_option maxHeartbeats 4000000
namespace DL
open PySem PySem.Spec PyProof.Rows L2
section
variable {X : Cx} {Γ : List Sl} {a b : Expr} {p pos : Pos} {j : Nat} {r : Rep} {u v : Bool}
theorem b2_notB : B2 rNotB (rBl u) (rBl v) (rBl (!(u == v))) := fun F H x y s h1 h2 Q q => ⟨u, v, h1, h2, q _ F H (.refl s) (by show V.bl _ = V.bl _; cases u <;> cases v <;> rfl)⟩
theorem dt_notBl {jj : Nat} (ha : DE X Γ a (rBl u)) : DT X Γ (.Compare a [.IsNot] [.Constant (.bool v) jj p] pos) (!(u == v)) := dt_cmp op_notBl b2_notB ha de_bl (nomark _)
/-! None or a list of numbers -/
abbrev lnO (K : PySem.W.Frag) (o : Option (List Rat)) : Rep := match o with
  | none => rNon
  | some l => rLst K (l.map (rNum K))
def rOptL (K : PySem.W.Frag) (o : Option (List Rat)) : Rep := lnO K o
variable {o : Option (List Rat)}
theorem dt_isNL {jj : Nat} (h : DE X Γ a (rOptL X.K o)) : DT X Γ (.Compare a [.Is] [.Constant .none jj p] pos) o.isNone := by
  cases o with
  | none => exact dt_isN h
  | some l => exact dt_isN0 notNon_lst h
theorem de_l2l (e : o.isNone = false) (h : DE X Γ a (rOptL X.K o)) : DE X Γ a (rLst X.K ((o.getD []).map (rNum X.K))) := by
  cases o with
  | none => cases e
  | some l => exact h
end
/-! wider -/
def widerQ (bx : List Rg) (ws : List Rat) (m : Rat) : List Rg := (List.range bx.length).map fun i => (movQ (bx.getD i (none, none)).1 (((-1 : Int) : Rat) * (ws.getD i 0 * m)), movQ (bx.getD i (none, none)).2 (ws.getD i 0 * m))
theorem wid_is {bx : List Rg} {ws : List Rat} {m : Rat} (h : ws.length = bx.length) : widQ bx ws m = widerQ bx ws m := by
  unfold widQ widerQ
  rw [List.length_map, h, Nat.min_self]
  refine List.map_congr_left fun i hi => ?_
  have hi := List.mem_range.mp hi
  rw [getD_mapI (d := 0) (fun q => m * q) (by omega), Rat.mul_comm m]
  have e : (0 : Rat) - ws.getD i 0 * m = ((-1 : Int) : Rat) * (ws.getD i 0 * m) := by
    rw [show ((-1 : Int) : Rat) = -1 from rfl]; grind
  rw [e]
/-! corner -/
def cEnd (xs : List Rat) (bx : List Rg) (ps : List Rat) (i : Nat) : Option Rat := if (!decide ((xs.getD i 0).num = 0)) = true then (if decide (0 < (xs.getD i 0).num) = true then (bx.getD i (none, none)).2 else (bx.getD i (none, none)).1) else some (ps.getD i 0)
theorem ce_t {xs : List Rat} {bx : List Rg} {ps : List Rat} {i : Nat} (h : (!decide ((xs.getD i 0).num = 0)) = true) : (if decide (0 < (xs.getD i 0).num) = true then (bx.getD i (none, none)).2 else (bx.getD i (none, none)).1) = cEnd xs bx ps i := by unfold cEnd; rw [if_pos h]
theorem ce_f {xs : List Rat} {bx : List Rg} {ps : List Rat} {i : Nat} (h : (!decide ((xs.getD i 0).num = 0)) = false) : some (ps.getD i 0) = cEnd xs bx ps i := by unfold cEnd; rw [if_neg (by rw [h]; exact Bool.false_ne_true)]
def cornerQ (xs : List Rat) (bx : List Rg) (ps : List Rat) : Option (List Rat) := if ∀ j, j < xs.length → (cEnd xs bx ps j).isNone = false then some ((List.range xs.length).map fun j => (cEnd xs bx ps j).getD 0) else none
theorem co_none {xs : List Rat} {bx : List Rg} {ps : List Rat} {i : Nat} (hi : i < xs.length) (h : (cEnd xs bx ps i).isNone = true) : none = cornerQ xs bx ps := by
  unfold cornerQ
  rw [if_neg fun z => by have := z i hi; rw [h] at this; cases this]
theorem co_some {xs : List Rat} {bx : List Rg} {ps : List Rat} (h : ∀ j, j < xs.length → (cEnd xs bx ps j).isNone = false) : some ((List.range xs.length).map fun j => (cEnd xs bx ps j).getD 0) = cornerQ xs bx ps := by
  unfold cornerQ
  rw [if_pos h]
theorem co_more {xs : List Rat} {bx : List Rg} {ps : List Rat} {i : Nat} (h : ∀ j, j < i → (cEnd xs bx ps j).isNone = false) (e : (cEnd xs bx ps i).isNone = false) : ∀ j, j < i + 1 → (cEnd xs bx ps j).isNone = false := fun j hj => by
  by_cases k : j = i
  · rw [k, e]
  · exact h j (by omega)
/-! around -/
theorem around_len {qs : List Rat} : (aroundQ qs).length = qs.length := by unfold aroundQ; rw [List.length_map]
theorem around_at {qs : List Rat} {i : Nat} (hi : i < qs.length) : (aroundQ qs).getD i (none, none) = (some (((qs.getD i 0).floor : Int) : Rat), some (((qs.getD i 0).ceil : Int) : Rat)) := by
  unfold aroundQ
  exact getD_mapI (d := 0) (d2 := ((none, none) : Rg)) _ hi
theorem ar_full {qs : List Rat} : fullO (aroundQ qs) = none := full_none fun j hj => by
  rw [around_len] at hj
  rw [around_at hj]
  show decide ((((qs.getD j 0).ceil : Int) : Rat) < (((qs.getD j 0).floor : Int) : Rat)) = false
  refine decide_eq_false fun z => ?_
  have h1 := Rat.floor_le (a := qs.getD j 0)
  have h2 := Rat.le_ceil (x := qs.getD j 0)
  exact absurd z (by grind)
theorem ar_in {qs : List Rat} : withinQ qs (aroundQ qs) = true := wi_all.mpr fun j hj => by
  rw [around_len, Nat.min_self] at hj
  unfold liesAt liesQ
  rw [around_at hj]
  show (!decide (qs.getD j 0 < (((qs.getD j 0).floor : Int) : Rat)) && !decide ((((qs.getD j 0).ceil : Int) : Rat) < qs.getD j 0)) = true
  have h1 := Rat.floor_le (a := qs.getD j 0)
  have h2 := Rat.le_ceil (x := qs.getD j 0)
  rw [decide_eq_false (by grind), decide_eq_false (by grind)]; rfl
def openQ (qs : List Rat) : List Rg := qs.map fun _ => (none, none)
theorem open_at {qs : List Rat} {i : Nat} : (openQ qs).getD i (none, none) = (none, none) := by
  by_cases hi : i < qs.length
  · unfold openQ
    exact getD_mapI (d := (0 : Rat)) (d2 := ((none, none) : Rg)) (fun _ => ((none, none) : Rg)) hi
  · rw [List.getD_eq_getElem?_getD, List.getElem?_eq_none (by unfold openQ; rw [List.length_map]; omega)]; rfl
theorem open_full {qs : List Rat} : fullO (openQ qs) = none := full_none fun j hj => by rw [open_at]; rfl
theorem open_in {qs : List Rat} : withinQ qs (openQ qs) = true := wi_all.mpr fun j hj => by
  unfold liesAt
  rw [open_at]; rfl
end DL

set_option Elab.async false
set_option linter.all false
set_option maxRecDepth 100000
set_option maxHeartbeats 4000000
namespace DL
open PySem L2
theorem wd_t {a m : Rat} (h : Sz 57 a) (k : Sz 57 m) : Lg (((-1 : Int) : Rat)).num + Lg (a * m).num < 980 ∧ Lg ((((-1 : Int) : Rat)).den : Int) + Lg ((a * m).den : Int) < 980 := by
  have s := sz_mul h k
  have e1 : (((-1 : Int) : Rat)).num = -1 := rfl
  have e2 : (((-1 : Int) : Rat)).den = 1 := rfl
  rw [e1, e2]
  have l1 : Lg (-1 : Int) = 0 := by decide
  have l2 : Lg ((1 : Nat) : Int) = 0 := by decide
  have := s.1
  have := s.2
  omega
theorem sz_neg1 : Sz 0 ((-1 : Int) : Rat) := sz_int (by decide)
theorem wd_n {a m : Rat} (h : Sz 57 a) (k : Sz 57 m) : Sz 400 (((-1 : Int) : Rat) * (a * m)) := (sz_mul sz_neg1 (sz_mul h k)).mono (by decide)
theorem cen_a {xs : List Rat} {bx : List Rg} {ps : List Rat} {i : Nat} (h : (!decide ((xs.getD i 0).num = 0)) = true) (h2 : decide (0 < (xs.getD i 0).num) = true) : (bx.getD i (none, none)).2 = cEnd xs bx ps i := by rw [← ce_t h, if_pos h2]
theorem cen_b {xs : List Rat} {bx : List Rg} {ps : List Rat} {i : Nat} (h : (!decide ((xs.getD i 0).num = 0)) = true) (h2 : decide (0 < (xs.getD i 0).num) = false) : (bx.getD i (none, none)).1 = cEnd xs bx ps i := by rw [← ce_t h, if_neg (by rw [h2]; exact Bool.false_ne_true)]
theorem ar_szb {qs : List Rat} (h : ∀ q ∈ qs, Sz 57 q) : ∀ p ∈ aroundQ qs, SzB p := fun p hp => by
  obtain ⟨q, hq, rfl⟩ := List.mem_map.mp hp
  exact ⟨sz_int (Nat.le_trans (fl_lg0 (h q hq)) (by decide)), sz_int (Nat.le_trans (ce_lg0 (h q hq)) (by decide))⟩
theorem open_len {qs : List Rat} : (openQ qs).length = qs.length := by unfold openQ; rw [List.length_map]
theorem open_szr {qs : List Rat} : ∀ p ∈ openQ qs, SzR p := fun p hp => by
  obtain ⟨q, hq, rfl⟩ := List.mem_map.mp hp
  exact ⟨sz_zero _, sz_zero _⟩
theorem open_lc {K : PySem.W.Frag} {qs : List Rat} : ((List.range qs.length).filter fun _ => true).map (fun i : Nat => rRg K (none, none)) = List.map (rRg K) (openQ qs) := by
  unfold openQ
  rw [List.map_map]
  exact lc_all (R := fun _ => rInt 0) (d := (0 : Rat)) (f := fun _ : Rat => rRg K (none, none))
end DL

set_option Elab.async false
set_option linter.all false
set_option maxRecDepth 100000
set_option maxHeartbeats 4000000
namespace DL
open PySem PySem.Spec PyProof.Rows L2
section
variable {X : Cx} {N : List Str} {sc : Scope} {k : Nat} {Γ : List Sl} {a b : Expr} {pos : Pos} {s t : Str} {n m : Int}
theorem dpl_si {K : PySem.W.Frag} : DpL K (rSI K (s, n)) (.tuple [.str s, .int n]) := dpl_tup2 dpl_str dpl_int
theorem si_eqv : PyData.eqv (.tuple [.str s, .int n]) (.tuple [.str t, .int m]) = (decide (s = t) && decide (n = m)) := by
  show ((s == t) && ((n == m) && true)) = _
  by_cases h1 : s = t <;> by_cases h2 : n = m <;> simp [h1, h2]
theorem dt_neSI (B : BX X N sc k) (h1 : SeqAt.shaped (.tuple [.str s, .int n]) = true) (h2 : SeqAt.shaped (.tuple [.str t, .int m]) = true) (ha : DE X Γ a (rSI X.K (s, n))) (hb : DE X Γ b (rSI X.K (t, m))) : DT X Γ (.Compare a [.NotEq] [b] pos) (!(decide (s = t) && decide (n = m))) := (dt_cmp (op_neD B.hu) (b2_neD dpl_si dpl_si h1 h2) ha hb (nomark _)).to (by rw [si_eqv])
theorem de_eqSI (B : BX X N sc k) (h1 : SeqAt.shaped (.tuple [.str s, .int n]) = true) (h2 : SeqAt.shaped (.tuple [.str t, .int m]) = true) (ha : DE X Γ a (rSI X.K (s, n))) (hb : DE X Γ b (rSI X.K (t, m))) : DE X Γ (.Compare a [.Eq] [b] pos) (rBl (decide (s = t) && decide (n = m))) := (de_cmp (op_eqD B.hu) (b2_eqD dpl_si dpl_si h1 h2) ha hb (nomark _)).to (by rw [si_eqv])
theorem shaped_si (h : PyData.canLay0 (.str s) = true) : SeqAt.shaped (.tuple [.str s, .int n]) = true := by
  unfold SeqAt.shaped
  rw [Bool.and_eq_true]
  refine ⟨?_, decide_eq_true ?_⟩
  · show (PyData.canLay0 (.str s) && (true && true)) = true
    rw [h]; rfl
  · show max 0 (max 0 0) + 1 ≤ 64
    decide
/-! three lists in a list -/
abbrev H3 := List Rat × List Rg × List Rat
def h3D (p : H3) : PyData := .list [.list (p.1.map numD), .list (p.2.1.map rgD), .list (p.2.2.map numD)]
theorem dpl_h3 {K : PySem.W.Frag} (p : H3) : DpL K (rLst K [rLst K (p.1.map (rNum K)), rLst K (p.2.1.map (rRg K)), rLst K (p.2.2.map (rNum K))]) (h3D p) := fun F v hv => by
  obtain ⟨q, vs, rfl, k1, k2⟩ := hv
  cases k2 with
  | cons a1 k3 => cases k3 with
    | cons a2 k4 => cases k4 with
      | cons a3 k5 =>
        cases k5
        exact .lst k1 (.cons ((dat_lst (dat_num (K := K))).dp p.1 F _ a1) (.cons ((dat_lst (dat_rng (K := K))).dp p.2.1 F _ a2) (.cons ((dat_lst (dat_num (K := K))).dp p.2.2 F _ a3) .nil)))
theorem h3_sh (p : H3) : SeqAt.shaped (h3D p) = true := by
  have K : PySem.W.Frag := []
  have x := dat_lst (dat_num (K := K))
  have y := dat_lst (dat_rng (K := K))
  unfold SeqAt.shaped
  rw [Bool.and_eq_true]
  refine ⟨?_, decide_eq_true ?_⟩
  · show (PyData.canLay0 (.list (p.1.map numD)) && (PyData.canLay0 (.list (p.2.1.map rgD)) && (PyData.canLay0 (.list (p.2.2.map numD)) && true))) = true
    rw [x.lay p.1, y.lay p.2.1, x.lay p.2.2]; rfl
  · show max (PyData.depth (.list (p.1.map numD))) (max (PyData.depth (.list (p.2.1.map rgD))) (max (PyData.depth (.list (p.2.2.map numD))) 0)) + 1 ≤ 64
    have := x.dep p.1
    have := y.dep p.2.1
    have := x.dep p.2.2
    omega
theorem h3_eqv (p q : H3) : PyData.eqv (h3D p) (h3D q) = decide (p = q) := by
  have K : PySem.W.Frag := []
  have x := dat_lst (dat_num (K := K))
  have y := dat_lst (dat_rng (K := K))
  show (PyData.eqv (.list (p.1.map numD)) (.list (q.1.map numD)) && (PyData.eqv (.list (p.2.1.map rgD)) (.list (q.2.1.map rgD)) && (PyData.eqv (.list (p.2.2.map numD)) (.list (q.2.2.map numD)) && true))) = _
  rw [x.eq p.1 q.1, y.eq p.2.1 q.2.1, x.eq p.2.2 q.2.2]
  obtain ⟨a, b, c⟩ := p
  obtain ⟨a', b', c'⟩ := q
  by_cases h1 : a = a' <;> by_cases h2 : b = b' <;> by_cases h3 : c = c' <;> simp [h1, h2, h3]
theorem dt_neH3 {p q : H3} (B : BX X N sc k) (ha : DE X Γ a (rLst X.K [rLst X.K (p.1.map (rNum X.K)), rLst X.K (p.2.1.map (rRg X.K)), rLst X.K (p.2.2.map (rNum X.K))])) (hb : DE X Γ b (rLst X.K [rLst X.K (q.1.map (rNum X.K)), rLst X.K (q.2.1.map (rRg X.K)), rLst X.K (q.2.2.map (rNum X.K))])) :
    DT X Γ (.Compare a [.NotEq] [b] pos) (!decide (p = q)) := (dt_cmp (op_neD B.hu) (b2_neD (dpl_h3 p) (dpl_h3 q) (h3_sh p) (h3_sh q)) ha hb (nomark _)).to (by rw [h3_eqv])
end
/-! ### meets: the greatest low and the least high end -/
def mx (a b : Option Rat) : Option Rat := match a, b with
  | none, b => b
  | a, none => a
  | some x, some y => some (if x < y then y else x)
def mn (a b : Option Rat) : Option Rat := match a, b with
  | none, b => b
  | a, none => a
  | some x, some y => some (if y < x then y else x)
theorem mx_0 {a : Option Rat} : mx none a = a := by cases a <;> rfl
theorem mx_1 {a : Option Rat} : mx a none = a := by cases a <;> rfl
theorem mn_0 {a : Option Rat} : mn none a = a := by cases a <;> rfl
theorem mn_1 {a : Option Rat} : mn a none = a := by cases a <;> rfl
theorem mx_c {a b : Option Rat} : mx a b = mx b a := by
  cases a <;> cases b <;> first | rfl | (show some _ = some _; congr 1; grind)
theorem mn_c {a b : Option Rat} : mn a b = mn b a := by
  cases a <;> cases b <;> first | rfl | (show some _ = some _; congr 1; grind)
theorem mx_a {a b c : Option Rat} : mx (mx a b) c = mx a (mx b c) := by
  cases a <;> cases b <;> cases c <;> first | rfl | (show some _ = some _; congr 1; grind)
theorem mn_a {a b c : Option Rat} : mn (mn a b) c = mn a (mn b c) := by
  cases a <;> cases b <;> cases c <;> first | rfl | (show some _ = some _; congr 1; grind)
theorem mx_i {a : Option Rat} : mx a a = a := by
  cases a <;> first | rfl | (show some _ = some _; congr 1; grind)
theorem mn_i {a : Option Rat} : mn a a = a := by
  cases a <;> first | rfl | (show some _ = some _; congr 1; grind)
theorem em_mono {a b c d : Option Rat} (h : emptyQ a b = true) : emptyQ (mx a c) (mn b d) = true := by
  cases a <;> cases b <;> first | (cases h; done) | skip
  rename_i x y
  have h : y < x := of_decide_eq_true h
  cases c <;> cases d <;> (refine decide_eq_true ?_; grind)
theorem stepMax_is {o : Option Rat} {q : Rat} : stepMax o q = mx o (some q) := by
  cases o with
  | none => rfl
  | some x =>
    show (if (false || decide (x < q)) = true then some q else some x) = some (if x < q then q else x)
    by_cases h : x < q <;> simp [h]
theorem stepMin_is {o : Option Rat} {q : Rat} : stepMin o q = mn o (some q) := by
  cases o with
  | none => rfl
  | some x =>
    show (if (false || decide (q < x)) = true then some q else some x) = some (if q < x then q else x)
    by_cases h : q < x <;> simp [h]
theorem max_fold (os : List (Option Rat)) : maxO (givenQ os) = os.foldl mx none := by
  rw [given_fm]
  unfold maxO
  generalize (none : Option Rat) = z
  induction os generalizing z with
  | nil => rfl
  | cons o os ih =>
    cases o with
    | none =>
      rw [List.filterMap_cons, List.foldl_cons, mx_1]
      exact ih z
    | some q =>
      rw [List.filterMap_cons, List.foldl_cons, ← stepMax_is]
      exact ih (stepMax z q)
theorem min_fold (os : List (Option Rat)) : minO (givenQ os) = os.foldl mn none := by
  rw [given_fm]
  unfold minO
  generalize (none : Option Rat) = z
  induction os generalizing z with
  | nil => rfl
  | cons o os ih =>
    cases o with
    | none =>
      rw [List.filterMap_cons, List.foldl_cons, mn_1]
      exact ih z
    | some q =>
      rw [List.filterMap_cons, List.foldl_cons, ← stepMin_is]
      exact ih (stepMin z q)
abbrev loE (b : List Rg) (i : Nat) : Option Rat := (b.getD i (none, none)).1
abbrev hiE (b : List Rg) (i : Nat) : Option Rat := (b.getD i (none, none)).2
theorem allR_1 {b : List Rg} {i : Nat} : allR [b] i = (loE b i, hiE b i) := by
  unfold allR
  rw [max_fold, min_fold]
  show (mx none _, mn none _) = _
  rw [mx_0, mn_0]
  rfl
theorem allR_2 {b c : List Rg} {i : Nat} : allR [b, c] i = (mx (loE b i) (loE c i), mn (hiE b i) (hiE c i)) := by
  unfold allR
  rw [max_fold, min_fold]
  show (mx (mx none _) _, mn (mn none _) _) = _
  rw [mx_0, mn_0]
theorem allR_3 {b c d : List Rg} {i : Nat} : allR [b, c, d] i = (mx (mx (loE b i) (loE c i)) (loE d i), mn (mn (hiE b i) (hiE c i)) (hiE d i)) := by
  unfold allR
  rw [max_fold, min_fold]
  show (mx (mx (mx none _) _) _, mn (mn (mn none _) _) _) = _
  rw [mx_0, mn_0]
theorem joinR_len {bs : List (List Rg)} {n : Nat} : (joinR bs n).length = n := by unfold joinR; rw [List.length_map, List.length_range]
theorem joinR_at {bs : List (List Rg)} {n i : Nat} (h : i < n) : (joinR bs n).getD i (none, none) = allR bs i := by
  unfold joinR
  rw [getD_mapI (d := 0) (allR bs) (by rw [List.length_range]; exact h), List.getD_eq_getElem?_getD, List.getElem?_range h]; rfl
theorem joinR_c {bs cs : List (List Rg)} {n : Nat} (h : ∀ i, i < n → allR bs i = allR cs i) : joinR bs n = joinR cs n := List.map_congr_left fun i hi => h i (List.mem_range.mp hi)
theorem join_rot {b c d : List Rg} {n : Nat} : joinR [d, b, c] n = joinR [b, c, d] n := joinR_c fun i _ => by
  rw [allR_3, allR_3]
  refine Prod.ext ?_ ?_
  · show mx (mx (loE d i) (loE b i)) (loE c i) = mx (mx (loE b i) (loE c i)) (loE d i)
    rw [mx_a, mx_c]
  · show mn (mn (hiE d i) (hiE b i)) (hiE c i) = mn (mn (hiE b i) (hiE c i)) (hiE d i)
    rw [mn_a, mn_c]
theorem join_in {b c d : List Rg} {n : Nat} : joinR [c, joinR [d, b] n] n = joinR [b, c, d] n := joinR_c fun i hin => by
  rw [allR_3, allR_2]
  unfold loE hiE
  rw [joinR_at hin, allR_2]
  refine Prod.ext ?_ ?_
  · show mx (loE c i) (mx (loE d i) (loE b i)) = mx (mx (loE b i) (loE c i)) (loE d i)
    rw [mx_c (a := loE d i), ← mx_a, mx_c (a := loE c i)]
  · show mn (hiE c i) (mn (hiE d i) (hiE b i)) = mn (mn (hiE b i) (hiE c i)) (hiE d i)
    rw [mn_c (a := hiE d i), ← mn_a, mn_c (a := hiE c i)]
theorem list_of {b : List Rg} {f : Nat → Rg} (h : ∀ i, i < b.length → f i = b.getD i (none, none)) : (List.range b.length).map f = b := by
  refine List.ext_getElem (by simp) fun i h1 h2 => ?_
  rw [List.getElem_map, List.getElem_range, h i h2, List.getD_eq_getElem?_getD, List.getElem?_eq_getElem h2]; rfl
theorem join_one {b : List Rg} {n : Nat} (h : b.length = n) : joinR [b] n = b := by
  subst h
  exact list_of fun i _ => allR_1
theorem join_two {b : List Rg} {n : Nat} (h : b.length = n) : joinR [b, b] n = b := by
  subst h
  exact list_of fun i _ => by rw [allR_2, mx_i, mn_i]
theorem full_none_iff {bx : List Rg} (h : fullO bx = none) : ∀ j, j < bx.length → emptyQ (bx.getD j (none, none)).1 (bx.getD j (none, none)).2 = false := fun j hj => by
  unfold fullO at h
  rw [List.find?_eq_none] at h
  exact Bool.not_eq_true _ ▸ h j (List.mem_range.mpr hj)
theorem join_sub {b c d : List Rg} {n : Nat} (h : fullO (joinR [b, c, d] n) = none) : fullO (joinR [d, b] n) = none := full_none fun j hj => by
  rw [joinR_len] at hj
  have := full_none_iff h j (by rw [joinR_len]; exact hj)
  rw [joinR_at hj, allR_3] at this
  rw [joinR_at hj, allR_2]
  rw [← Bool.not_eq_true]
  intro z
  have k := em_mono (c := loE c j) (d := hiE c j) z
  have e1 : mx (mx (loE d j) (loE b j)) (loE c j) = mx (mx (loE b j) (loE c j)) (loE d j) := by rw [mx_a, mx_c]
  have e2 : mn (mn (hiE d j) (hiE b j)) (hiE c j) = mn (mn (hiE b j) (hiE c j)) (hiE d j) := by rw [mn_a, mn_c]
  rw [e1, e2] at k
  rw [k] at this
  cases this
theorem meet_ok {K : PySem.W.Frag} {CS CE : Addr} {b : List Rg} {bs : List (List Rg)} {n : Nat} (h : ∀ x ∈ b :: bs, x.length = n ∧ fullO x = none) (hf : fullO (joinR (b :: bs) n) = none) : meetO K CS CE b bs = .ok (.lst ((joinR (b :: bs) b.length).map (rRg K))) := by
  have hb : b.length = n := (h b List.mem_cons_self).1
  refine mo_ok (fun j hj => ?_) (by rw [hb, hf]; decide)
  have := h _ (DL.getD_mem (d := []) hj)
  exact ⟨by rw [hb, this.1], by rw [this.2]; rfl⟩
theorem meet_bad {b : List Rg} {bs : List (List Rg)} {n m : Nat} (h : ∀ x ∈ b :: bs, x.length = n ∧ fullO x = none) (hf : fullO (joinR (b :: bs) n) = some m) : MeetBad b bs m := fun K CS CE => by
  have hb : b.length = n := (h b List.mem_cons_self).1
  have := mo_met (K := K) (CS := CS) (CE := CE) (b := b) (bs := bs) (fun j hj => by
    have := h _ (DL.getD_mem (d := []) hj)
    exact ⟨by rw [hb, this.1], by rw [this.2]; rfl⟩) (by rw [hb, hf]; rfl)
  rw [hb, hf] at this
  exact this
end DL

set_option Elab.async false
set_option linter.all false
set_option maxRecDepth 100000
set_option maxHeartbeats 4000000
namespace DL
open PySem L2
theorem all3 {α : Type} {P : α → Prop} {a b c : α} (h : ∀ x ∈ [a, b, c], P x) : P a ∧ P b ∧ P c := ⟨h a (by simp), h b (by simp), h c (by simp)⟩
theorem perm_a {α : Type} {P : α → Prop} {a b c : α} (h : ∀ x ∈ [a, b, c], P x) : ∀ x ∈ [c, a, b], P x := fun x hx => h x (by simp at hx ⊢; rcases hx with e | e | e <;> simp [e])
theorem fullQ_some {bx : List Rg} (h : (!(fullQ bx).isNone) = true) : ∃ m, fullO bx = some m := by
  unfold fullQ at h
  cases e : fullO bx with
  | none => rw [e] at h; cases h
  | some m => exact ⟨m, rfl⟩
theorem fullQ_none {bx : List Rg} (h : (!(fullQ bx).isNone) = false) : fullO bx = none := by
  unfold fullQ at h
  cases e : fullO bx with
  | none => rfl
  | some m => rw [e] at h; cases h
theorem fullQ_is {bx : List Rg} {m : Nat} (h : fullO bx = some m) : (fullQ bx).getD 0 = ((m : Int) : Rat) := by
  unfold fullQ
  rw [h]; rfl
theorem t0_i {bs : List (List Rg)} {m n : Nat} (h : 0 < n) (e : m = n) : (0 : Int) < ((joinR bs m).length : Int) := by rw [joinR_len]; omega
theorem jn_szb {bs : List (List Rg)} {m n : Nat} (hx : ∀ x ∈ bs, x.length = n ∧ fullO x = none) (hs : ∀ x ∈ bs, ∀ p ∈ x, SzB p) (e : m = n) : ∀ p ∈ joinR bs m, SzB p := fun p hp => by
  subst e
  obtain ⟨i, hi, rfl⟩ := List.mem_map.mp hp
  have hi := List.mem_range.mp hi
  have := j_sz (bs := bs) (c := i) (i := bs.length) (n := 200) (fun x hx p hp => hs x hx p hp) (fun x h => by rw [(hx x h).1]; exact hi)
  rw [← j_all]
  exact this
theorem join_szb {bs : List (List Rg)} {n : Nat} (hn : n ≤ 12) (hx : ∀ x ∈ bs, x.length = n ∧ fullO x = none) (hs : ∀ x ∈ bs, ∀ p ∈ x, SzB p) : ∀ p ∈ joinR bs n, SzB p := jn_szb hx hs rfl
theorem jn_szb2 {b c : List Rg} {n : Nat} (h1 : b.length = n ∧ fullO b = none) (h2 : c.length = n ∧ fullO c = none) (s1 : ∀ p ∈ b, SzB p) (s2 : ∀ p ∈ c, SzB p) : ∀ p ∈ joinR [b, c] n, SzB p :=
  jn_szb (n := n) (fun x hx => by simp at hx; rcases hx with e | e <;> rw [e] <;> assumption) (fun x hx => by simp at hx; rcases hx with e | e <;> rw [e] <;> assumption) rfl
theorem mt_pre {b c d : List Rg} {n : Nat} (hn : n ≤ 12) (h : b.length = n) (hs : ∀ x ∈ [b, c, d], ∀ p ∈ x, SzB p) : [c, d].length ≤ 900 ∧ b.length ≤ 1000 ∧ ∀ x ∈ [b, c, d], ∀ p ∈ x, SzR p := ⟨Nat.le_of_ble_eq_true rfl, by omega, fun x hx p hp => szb_r (hs x hx p hp)⟩
theorem mt_pre2 {b c : List Rg} {n : Nat} (hn : n ≤ 12) (h : b.length = n) (s1 : ∀ p ∈ b, SzB p) (s2 : ∀ p ∈ c, SzB p) : [c].length ≤ 900 ∧ b.length ≤ 1000 ∧ ∀ x ∈ [b, c], ∀ p ∈ x, SzR p := ⟨Nat.le_of_ble_eq_true rfl, by omega, fun x hx p hp => by simp at hx; rcases hx with e | e <;> subst e; exact szb_r (s1 p hp); exact szb_r (s2 p hp)⟩
theorem mt_pre1 {b : List Rg} {n : Nat} (hn : n ≤ 12) (h : b.length = n) (s1 : ∀ p ∈ b, SzB p) : ([] : List (List Rg)).length ≤ 900 ∧ b.length ≤ 1000 ∧ ∀ x ∈ [b], ∀ p ∈ x, SzR p := ⟨Nat.zero_le _, by omega, fun x hx p hp => by rw [List.mem_singleton.mp hx] at hp; exact szb_r (s1 p hp)⟩
section
variable {K : PySem.W.Frag} {CS CE : Addr} {b c d : List Rg} {n : Nat}
theorem mo2 (h1 : b.length = n ∧ fullO b = none) (h2 : c.length = n ∧ fullO c = none) (hf : fullO (joinR [b, c] n) = none) : meetO K CS CE b [c] = .ok (.lst ((joinR [b, c] b.length).map (rRg K))) :=
  meet_ok (n := n) (fun x hx => by simp at hx; rcases hx with e | e <;> rw [e] <;> assumption) hf
theorem mo3 (h2 : c.length = n ∧ fullO c = none) (h3 : d.length = n ∧ fullO d = none) (h1 : b.length = n ∧ fullO b = none) (hno : fullO (joinR [b, c, d] n) = none) : meetO K CS CE c [joinR [d, b] d.length] = .ok (.lst ((joinR [c, joinR [d, b] d.length] c.length).map (rRg K))) := by
  rw [h3.1]
  exact mo2 h2 ⟨joinR_len, join_sub hno⟩ (by rw [join_in]; exact hno)
end
end DL

set_option Elab.async false
set_option linter.all false
set_option maxRecDepth 100000
set_option maxHeartbeats 4000000
namespace DL
open PySem L2
/-! ### the worth of a row over a box -/
theorem num0 {q : Rat} : q.num = 0 ↔ q = 0 := Rat.num_eq_zero
theorem nump {q : Rat} : 0 < q.num ↔ 0 < q := by
  constructor
  · intro h
    have a : 0 ≤ q := Rat.num_nonneg.mp (by omega)
    have b : ¬ q = 0 := fun z => by have := num0.mpr z; omega
    grind
  · intro h
    have a : 0 ≤ q.num := Rat.num_nonneg.mpr (by grind)
    have b : ¬ q.num = 0 := fun z => by have := num0.mp z; grind
    omega
theorem cEnd_z {xs : List Rat} {bx : List Rg} {ps : List Rat} {i : Nat} (h : xs.getD i 0 = 0) : cEnd xs bx ps i = some (ps.getD i 0) := by
  unfold cEnd
  rw [if_neg (by rw [num0.mpr h]; decide)]
theorem cEnd_w {xs : List Rat} {bx : List Rg} {ps : List Rat} {i : Nat} (h : ¬ xs.getD i 0 = 0) : cEnd xs bx ps i = wEnd xs bx i := by
  unfold cEnd wEnd towQ
  rw [if_pos (by rw [decide_eq_false (fun z => h (num0.mp z))]; rfl)]
  by_cases k : 0 < xs.getD i 0
  · rw [if_pos (decide_eq_true (nump.mpr k)), if_pos k]
  · rw [if_neg (by rw [decide_eq_false (fun z => k (nump.mp z))]; exact Bool.false_ne_true), if_neg k]
def cnrL (xs : List Rat) (bx : List Rg) (ps : List Rat) : List Rat := (List.range xs.length).map fun j => (cEnd xs bx ps j).getD 0
theorem cnr_len {xs : List Rat} {bx : List Rg} {ps : List Rat} : (cnrL xs bx ps).length = xs.length := by unfold cnrL; rw [List.length_map, List.length_range]
theorem cnr_at {xs : List Rat} {bx : List Rg} {ps : List Rat} {i : Nat} (h : i < xs.length) : (cnrL xs bx ps).getD i 0 = (cEnd xs bx ps i).getD 0 := by
  unfold cnrL
  rw [getD_mapI (d := 0) (fun j => (cEnd xs bx ps j).getD 0) (by rw [List.length_range]; exact h), List.getD_eq_getElem?_getD, List.getElem?_range h]; rfl
theorem corner_some {xs : List Rat} {bx : List Rg} {ps l : List Rat} (h : cornerQ xs bx ps = some l) : l = cnrL xs bx ps ∧ ∀ j, j < xs.length → (cEnd xs bx ps j).isNone = false := by
  unfold cornerQ at h
  split at h
  · rename_i k
    cases h
    exact ⟨rfl, k⟩
  · cases h
theorem corner_none {xs : List Rat} {bx : List Rg} {ps : List Rat} (h : cornerQ xs bx ps = none) : ∃ j, j < xs.length ∧ cEnd xs bx ps j = none := by
  unfold cornerQ at h
  split at h
  · cases h
  · rename_i k
    have k := Classical.not_forall.mp k
    obtain ⟨j, k⟩ := k
    have k := Classical.not_imp.mp k
    refine ⟨j, k.1, ?_⟩
    cases e : cEnd xs bx ps j with
    | none => rfl
    | some q => exact absurd (by rw [e]; rfl) k.2
theorem opt_at {o : Option Rat} (h : o.isNone = false) : o = some (o.getD 0) := by
  cases o with
  | none => cases h
  | some q => rfl
theorem worthN_dot {xs : List Rat} {bx : List Rg} {ps : List Rat} (h : ∀ j, j < xs.length → (cEnd xs bx ps j).isNone = false) : ∀ i, i ≤ xs.length → worthN xs bx i = some (dotN xs (cnrL xs bx ps) i)
  | 0, _ => rfl
  | i + 1, hi => by
    unfold worthN
    rw [worthN_dot h i (by omega), Option.bind_some]
    have e := opt_at (h i (by omega))
    split
    · rename_i z
      show some _ = some (dotN xs (cnrL xs bx ps) i + xs.getD i 0 * (cnrL xs bx ps).getD i 0)
      rw [z, Rat.zero_mul, Rat.add_zero]
    · rename_i z
      rw [← cEnd_w (ps := ps) z, e]
      show some _ = some (dotN xs (cnrL xs bx ps) i + xs.getD i 0 * (cnrL xs bx ps).getD i 0)
      rw [cnr_at (by omega)]
theorem worth_some {xs : List Rat} {bx : List Rg} {ps l : List Rat} (hl : xs.length = bx.length) (h : cornerQ xs bx ps = some l) : worthQ xs bx = some (dotq xs l) := by
  obtain ⟨rfl, k⟩ := corner_some h
  unfold worthQ dotq
  rw [cnr_len, ← hl, Nat.min_self]
  exact worthN_dot k _ (Nat.le_refl _)
theorem worth_none {xs : List Rat} {bx : List Rg} {ps : List Rat} (hl : xs.length = bx.length) (h : cornerQ xs bx ps = none) : worthQ xs bx = none := by
  obtain ⟨j, hj, e⟩ := corner_none h
  have z : ¬ xs.getD j 0 = 0 := fun z => by rw [cEnd_z z] at e; cases e
  exact wo_none (by omega) z (by rw [← cEnd_w (ps := ps) z, e]; rfl)
/-! within -/
theorem lies_lo {q l : Rat} {hi : Option Rat} (h : liesQ q (some l) hi = true) : l ≤ q := by
  unfold liesQ emptyQ at h
  have h := (Bool.and_eq_true _ _ ▸ h : _ ∧ _).1
  have : ¬ q < l := by simpa using h
  grind
theorem lies_hi {q u : Rat} {lo : Option Rat} (h : liesQ q lo (some u) = true) : q ≤ u := by
  unfold liesQ at h
  have h := (Bool.and_eq_true _ _ ▸ h : _ ∧ _).2
  have : ¬ u < q := by simpa [emptyQ] using h
  grind
theorem lies_of {q : Rat} {lo hi : Option Rat} (h1 : ∀ l, lo = some l → l ≤ q) (h2 : ∀ u, hi = some u → q ≤ u) : liesQ q lo hi = true := by
  unfold liesQ
  rw [Bool.and_eq_true]
  constructor
  · cases lo with
    | none => rfl
    | some l =>
      have := h1 l rfl
      show (!decide (q < l)) = true
      rw [decide_eq_false (by grind)]; rfl
  · cases hi with
    | none => rfl
    | some u =>
      have := h2 u rfl
      show (!decide (u < q)) = true
      rw [decide_eq_false (by grind)]; rfl
theorem within_full {xs : List Rat} {bx : List Rg} (hl : xs.length = bx.length) (h : withinQ xs bx = true) : fullO bx = none := full_none fun j hj => by
  have k := wi_all.mp h j (by omega)
  unfold liesAt at k
  cases e1 : (bx.getD j (none, none)).1 with
  | none => cases (bx.getD j (none, none)).2 <;> rfl
  | some l =>
    cases e2 : (bx.getD j (none, none)).2 with
    | none => rfl
    | some u =>
      rw [e1, e2] at k
      have a := lies_lo k
      have b := lies_hi k
      exact decide_eq_false (by grind)
theorem corner_within {xs : List Rat} {bx : List Rg} {ps l : List Rat} (h1 : xs.length = bx.length) (h2 : ps.length = bx.length) (hw : withinQ ps bx = true) (h : cornerQ xs bx ps = some l) : withinQ l bx = true := by
  obtain ⟨rfl, k⟩ := corner_some h
  refine wi_all.mpr fun j hj => ?_
  rw [cnr_len] at hj
  have w := wi_all.mp hw j (by omega)
  have e := opt_at (k j (by omega))
  unfold liesAt at w ⊢
  rw [cnr_at (by omega)]
  by_cases z : xs.getD j 0 = 0
  · rw [cEnd_z z]; exact w
  · rw [cEnd_w z] at e ⊢
    unfold wEnd towQ at e ⊢
    split
    · rename_i p
      rw [if_pos p] at e
      refine lies_of (fun l hl => ?_) (fun u hu => by rw [hu]; exact Rat.le_refl)
      rw [hl] at w
      rw [e] at w
      have a := lies_lo w
      have b := lies_hi w
      grind
    · rename_i p
      rw [if_neg p] at e
      refine lies_of (fun l hl => by rw [hl]; exact Rat.le_refl) (fun u hu => ?_)
      rw [hu, e] at w
      have a := lies_lo w
      have b := lies_hi w
      grind
theorem dot_le {xs : List Rat} {bx : List Rg} {ps : List Rat} (h1 : xs.length = bx.length) (h2 : ps.length = bx.length) (hw : withinQ ps bx = true) (k : ∀ j, j < xs.length → (cEnd xs bx ps j).isNone = false) : ∀ i, i ≤ xs.length → dotN xs ps i ≤ dotN xs (cnrL xs bx ps) i
  | 0, _ => Rat.le_refl
  | i + 1, hi => by
    have ih := dot_le h1 h2 hw k i (by omega)
    show dotN xs ps i + xs.getD i 0 * ps.getD i 0 ≤ dotN xs (cnrL xs bx ps) i + xs.getD i 0 * (cnrL xs bx ps).getD i 0
    rw [cnr_at (by omega)]
    have w := wi_all.mp hw i (by omega)
    unfold liesAt at w
    have e := opt_at (k i (by omega))
    have key : xs.getD i 0 * ps.getD i 0 ≤ xs.getD i 0 * (cEnd xs bx ps i).getD 0 := by
      by_cases z : xs.getD i 0 = 0
      · rw [z]; grind
      · rw [cEnd_w z] at e ⊢
        unfold wEnd towQ at e ⊢
        split
        · rename_i p
          rw [if_pos p] at e
          rw [e] at w
          have b := lies_hi w
          have := Rat.mul_nonneg (a := xs.getD i 0) (b := ((bx.getD i (none, none)).2.getD 0) - ps.getD i 0) (by grind) (by grind)
          grind
        · rename_i p
          rw [if_neg p] at e
          rw [e] at w
          have b := lies_lo w
          have := Rat.mul_nonneg (a := - xs.getD i 0) (b := ps.getD i 0 - ((bx.getD i (none, none)).1.getD 0)) (by grind) (by grind)
          grind
    grind
theorem dot_best {xs : List Rat} {bx : List Rg} {ps l : List Rat} (h1 : xs.length = bx.length) (h2 : ps.length = bx.length) (hw : withinQ ps bx = true) (h : cornerQ xs bx ps = some l) : ¬ dotq xs l < dotq xs ps := by
  obtain ⟨rfl, k⟩ := corner_some h
  unfold dotq
  rw [cnr_len, Nat.min_self, show min xs.length ps.length = xs.length from by omega]
  have := dot_le h1 h2 hw k xs.length (Nat.le_refl _)
  grind
/-! widened -/
theorem wider_len {bx : List Rg} {ws : List Rat} {m : Rat} : (widerQ bx ws m).length = bx.length := by unfold widerQ; rw [List.length_map, List.length_range]
theorem wider_at {bx : List Rg} {ws : List Rat} {m : Rat} {i : Nat} (h : i < bx.length) : (widerQ bx ws m).getD i (none, none) = (movQ (bx.getD i (none, none)).1 (((-1 : Int) : Rat) * (ws.getD i 0 * m)), movQ (bx.getD i (none, none)).2 (ws.getD i 0 * m)) := by
  unfold widerQ
  rw [getD_mapI (d := 0) (fun i => ((movQ (bx.getD i (none, none)).1 (((-1 : Int) : Rat) * (ws.getD i 0 * m)), movQ (bx.getD i (none, none)).2 (ws.getD i 0 * m)) : Rg)) (by rw [List.length_range]; exact h), List.getD_eq_getElem?_getD (l := List.range bx.length), List.getElem?_range h]; rfl
theorem m1_is : ((-1 : Int) : Rat) = -1 := rfl
theorem wider_in {xs : List Rat} {bx : List Rg} {ws : List Rat} {m : Rat} (hl : xs.length = bx.length) (hw : withinQ xs bx = true) (h1 : ∀ i, 0 ≤ ws.getD i 0) (h2 : 0 ≤ m) : withinQ xs (widerQ bx ws m) = true := by
  refine wi_all.mpr fun j hj => ?_
  rw [wider_len] at hj
  have w := wi_all.mp hw j hj
  unfold liesAt at w ⊢
  rw [wider_at (by omega)]
  have p := Rat.mul_nonneg (h1 j) h2
  refine lies_of (fun l hl => ?_) (fun u hu => ?_)
  · cases e : (bx.getD j (none, none)).1 with
    | none => rw [e] at hl; cases hl
    | some a =>
      rw [e] at hl w
      have hl : a + ((-1 : Int) : Rat) * (ws.getD j 0 * m) = l := Option.some.inj hl
      have := lies_lo w
      rw [← hl, m1_is]
      grind
  · cases e : (bx.getD j (none, none)).2 with
    | none => rw [e] at hu; cases hu
    | some a =>
      rw [e] at hu w
      have hu : a + ws.getD j 0 * m = u := Option.some.inj hu
      have := lies_hi w
      rw [← hu]
      grind
theorem mov_none {o : Option Rat} {m : Rat} : movQ o m = none ↔ o = none := by cases o <;> simp [movQ]
theorem cEnd_wide {xs : List Rat} {bx : List Rg} {ps ws : List Rat} {m : Rat} {i : Nat} (hi : i < bx.length) : cEnd xs (widerQ bx ws m) ps i = none ↔ cEnd xs bx ps i = none := by
  by_cases z : xs.getD i 0 = 0
  · rw [cEnd_z z, cEnd_z z]
  · rw [cEnd_w z, cEnd_w z]
    unfold wEnd towQ
    rw [wider_at hi]
    split <;> exact mov_none
theorem wide_none {xs : List Rat} {bx : List Rg} {ps ws : List Rat} {m : Rat} (hl : xs.length = bx.length) (h : cornerQ xs bx ps = none) : worthQ xs (widerQ bx ws m) = none := by
  obtain ⟨j, hj, e⟩ := corner_none h
  refine worth_none (ps := ps) (by rw [wider_len]; exact hl) ?_
  exact (co_none hj (by rw [(cEnd_wide (ws := ws) (m := m) (by omega)).mpr e]; rfl)).symm
def sizesQ (xs : List Rat) : List Rat := xs.map fun q => if decide (0 ≤ q.num) = true then q else ((-1 : Int) : Rat) * q
theorem sizes_at {xs : List Rat} {i : Nat} (h : i < xs.length) : (sizesQ xs).getD i 0 = if decide (0 ≤ (xs.getD i 0).num) = true then xs.getD i 0 else ((-1 : Int) : Rat) * xs.getD i 0 := by
  unfold sizesQ
  exact getD_mapI (d := 0) (fun q : Rat => if decide (0 ≤ q.num) = true then q else ((-1 : Int) : Rat) * q) h
theorem worthN_wide {xs : List Rat} {bx : List Rg} {ps ws : List Rat} {m : Rat} (hl : xs.length = bx.length) (k : ∀ j, j < xs.length → (cEnd xs bx ps j).isNone = false) : ∀ i, i ≤ xs.length → worthN xs (widerQ bx ws m) i = some (dotN xs (cnrL xs bx ps) i + m * dotN (sizesQ xs) ws i)
  | 0, _ => by
    show some (0 : Rat) = some (0 + m * 0)
    congr 1
    grind
  | i + 1, hi => by
    unfold worthN
    rw [worthN_wide hl k i (by omega), Option.bind_some]
    have e := opt_at (k i (by omega))
    show _ = some (dotN xs (cnrL xs bx ps) i + xs.getD i 0 * (cnrL xs bx ps).getD i 0 + m * (dotN (sizesQ xs) ws i + (sizesQ xs).getD i 0 * ws.getD i 0))
    rw [cnr_at (by omega), sizes_at (by omega)]
    generalize dotN xs (cnrL xs bx ps) i = A
    generalize dotN (sizesQ xs) ws i = B
    by_cases z : xs.getD i 0 = 0
    · rw [if_pos z, z]
      congr 1
      split <;> grind
    · rw [if_neg z]
      rw [cEnd_w z] at e ⊢
      unfold wEnd towQ at e ⊢
      rw [wider_at (by omega)]
      by_cases p : 0 < xs.getD i 0
      · rw [if_pos p] at e
        rw [if_pos p, if_pos p, if_pos (decide_eq_true (Rat.num_nonneg.mpr (by grind)))]
        generalize xs.getD i 0 = x at *
        generalize ws.getD i 0 = v at *
        rw [e]
        show some _ = some _
        congr 1
        show A + m * B + x * ((bx.getD i (none, none)).2.getD 0 + v * m) = A + x * (bx.getD i (none, none)).2.getD 0 + m * (B + x * v)
        generalize (bx.getD i (none, none)).2.getD 0 = q
        grind
      · rw [if_neg p] at e
        rw [if_neg p, if_neg p, if_neg (by rw [decide_eq_false (fun y => p (by have := Rat.num_nonneg.mp y; grind))]; exact Bool.false_ne_true)]
        generalize xs.getD i 0 = x at *
        generalize ws.getD i 0 = v at *
        rw [e]
        show some _ = some _
        congr 1
        show A + m * B + x * ((bx.getD i (none, none)).1.getD 0 + ((-1 : Int) : Rat) * (v * m)) = A + x * (bx.getD i (none, none)).1.getD 0 + m * (B + ((-1 : Int) : Rat) * x * v)
        generalize (bx.getD i (none, none)).1.getD 0 = q
        rw [m1_is]
        grind
theorem wide_some {xs : List Rat} {bx : List Rg} {ps ws l : List Rat} {m : Rat} (hl : xs.length = bx.length) (hw : ws.length = bx.length) (h : cornerQ xs bx ps = some l) : worthQ xs (widerQ bx ws m) = some (dotq xs l + m * dotq (sizesQ xs) ws) := by
  obtain ⟨rfl, k⟩ := corner_some h
  unfold worthQ dotq
  rw [wider_len, cnr_len, Nat.min_self, ← hl, Nat.min_self, show min (sizesQ xs).length ws.length = xs.length from by unfold sizesQ; rw [List.length_map]; omega]
  exact worthN_wide hl k _ (Nat.le_refl _)
end DL

set_option Elab.async false
set_option linter.all false
set_option maxRecDepth 100000
set_option maxHeartbeats 4000000
namespace DL
open PySem L2
abbrev G7 (q : Rat) : Prop := Gd 720 (2 ^ 57) q
def G7B (p : Rg) : Prop := G7 (p.1.getD 0) ∧ G7 (p.2.getD 0)
theorem g7_sz {q : Rat} (h : G7 q) : Sz 57 q := gd_sz h (by decide) (by decide) (by decide)
theorem g7_szb {p : Rg} (h : G7B p) : SzB p := ⟨(g7_sz h.1).mono (by decide), (g7_sz h.2).mono (by decide)⟩
structure LawB (xs : List Rat) (bx : List Rg) (ps ws : List Rat) (m : Rat) : Prop where
  l1 : xs.length = bx.length
  l2 : ps.length = bx.length
  l3 : ws.length = bx.length
  hn : bx.length ≤ 12
  gx : ∀ q ∈ xs, G7 q
  gp : ∀ q ∈ ps, G7 q
  gw : ∀ q ∈ ws, G7 q
  gm : G7 m
  gb : ∀ p ∈ bx, G7B p
  win : withinQ ps bx = true
  pw : ∀ q ∈ ws, 0 ≤ q
  pm : 0 ≤ m
def szQ (q : Rat) : Rat := if decide (0 ≤ q.num) = true then q else ((-1 : Int) : Rat) * q
theorem sizesQ_is {xs : List Rat} : sizesQ xs = xs.map szQ := rfl
theorem szq_t {q : Rat} (h : decide (0 ≤ q.num) = true) : q = szQ q := by unfold szQ; rw [if_pos h]
theorem szq_f {q : Rat} (h : decide (0 ≤ q.num) = false) : ((-1 : Int) : Rat) * q = szQ q := by unfold szQ; rw [if_neg (by rw [h]; exact Bool.false_ne_true)]
theorem g7_szQ {q : Rat} (h : G7 q) : G7 (szQ q) := by
  unfold szQ
  split
  · exact h
  · rw [Rat.mul_comm]; exact gd_neg h
section
variable {xs ps ws : List Rat} {bx : List Rg} {m : Rat}
theorem LawB.szb (H : LawB xs bx ps ws m) : ∀ p ∈ bx, SzB p := fun p hp => g7_szb (H.gb p hp)
theorem LawB.rx (H : LawB xs bx ps ws m) : GR xs := ⟨by have := H.l1; have := H.hn; omega, H.gx⟩
theorem LawB.rp (H : LawB xs bx ps ws m) : GR ps := ⟨by have := H.l2; have := H.hn; omega, H.gp⟩
theorem LawB.rw_ (H : LawB xs bx ps ws m) : GR ws := ⟨by have := H.l3; have := H.hn; omega, H.gw⟩
theorem LawB.rs (H : LawB xs bx ps ws m) : GR (sizesQ xs) := ⟨by rw [sizesQ_is, List.length_map]; exact H.rx.1, fun q hq => by
  obtain ⟨y, hy, rfl⟩ := List.mem_map.mp hq
  exact g7_szQ (H.gx y hy)⟩
theorem LawB.rc (H : LawB xs bx ps ws m) : GR (cnrL xs bx ps) := ⟨by rw [cnr_len]; exact H.rx.1, fun q hq => by
  obtain ⟨j, hj, rfl⟩ := List.mem_map.mp hq
  have hj := List.mem_range.mp hj
  have gz : G7 0 := gd_zero
  show G7 ((cEnd xs bx ps j).getD 0)
  unfold cEnd
  split
  · have := H.gb _ (DL.getD_mem (d := ((none, none) : Rg)) (i := j) (by have := H.l1; omega))
    split
    · exact this.2
    · exact this.1
  · exact H.gp _ (DL.getD_mem (by have := H.l1; have := H.l2; omega))⟩
theorem LawB.wid (H : LawB xs bx ps ws m) : widQ bx ws m = widerQ bx ws m := wid_is H.l3
theorem getD_nn (h : ∀ q ∈ ws, 0 ≤ q) (i : Nat) : 0 ≤ ws.getD i 0 := by
  by_cases hi : i < ws.length
  · exact h _ (DL.getD_mem hi)
  · rw [List.getD_eq_getElem?_getD, List.getElem?_eq_none (by omega)]; exact Rat.le_refl
theorem LawB.wwin (H : LawB xs bx ps ws m) : withinQ ps (widQ bx ws m) = true := by
  rw [H.wid]
  exact wider_in H.l2 H.win (getD_nn H.pw) H.pm
theorem LawB.wlen (H : LawB xs bx ps ws m) : (widQ bx ws m).length = bx.length := by rw [H.wid, wider_len]
theorem LawB.wfull (H : LawB xs bx ps ws m) : fullO (widQ bx ws m) = none := within_full (by rw [H.wlen]; exact H.l2) H.wwin
theorem LawB.full (H : LawB xs bx ps ws m) : fullO bx = none := within_full H.l2 H.win
theorem mov_sz {o : Option Rat} {a : Rat} (h : Sz 57 (o.getD 0)) (k : Sz 140 a) : Sz 200 ((movQ o a).getD 0) := by
  cases o with
  | none => exact sz_zero _
  | some q => exact (sz_add h k).mono (by decide)
theorem LawB.wszb (H : LawB xs bx ps ws m) : ∀ p ∈ widQ bx ws m, SzB p := fun p hp => by
  rw [H.wid] at hp
  obtain ⟨i, hi, rfl⟩ := List.mem_map.mp hp
  have hi := List.mem_range.mp hi
  have b := H.gb _ (DL.getD_mem (d := ((none, none) : Rg)) hi)
  have s := sz_mul (H.rw_.szk i) (g7_sz H.gm)
  have e : ((-1 : Int) : Rat) * (ws.getD i 0 * m) = (ws.getD i 0 * m) * ((-1 : Int) : Rat) := Rat.mul_comm _ _
  refine ⟨mov_sz (g7_sz b.1) ?_, mov_sz (g7_sz b.2) (s.mono (by decide))⟩
  exact (sz_mul (show Sz 0 (((-1 : Int) : Rat)) from sz_int (by decide)) s).mono (by decide)
theorem LawB.low (H : LawB xs bx ps ws m) : ¬ lowW (ws ++ [m]) = true := lw_no fun j hj => by
  have h : ∀ q ∈ ws ++ [m], 0 ≤ q := fun q hq => by
    rcases List.mem_append.mp hq with z | z
    · exact H.pw q z
    · rw [List.mem_singleton.mp z]; exact H.pm
  have := h _ (DL.getD_mem (d := (0 : Rat)) hj)
  grind
theorem dotq_gd {us vs : List Rat} (h : GR us) (k : GR vs) : Gd 518400 (12 * 2 ^ 114) (dotq us vs) := gd_mono (dotN_gd h k _) (by have := h.1; have : min us.length vs.length ≤ 12 := by omega
                                                                                                                                  exact Nat.mul_le_mul_right _ this)
theorem dotq_sz {us vs : List Rat} (h : GR us) (k : GR vs) : Sz 130 (dotq us vs) := gd_sz (dotq_gd h k) (by decide) (by decide) (by decide)
theorem ld_pre {us vs : List Rat} (h : GR us) (k : GR vs) (e : us.length = vs.length) : us.length = vs.length ∧ us.length ≤ 1000 ∧ ∀ i, i < min us.length vs.length → Sz 100 (us.getD i 0) ∧ Sz 100 (vs.getD i 0) ∧ Sz 400 (dotN us vs i) :=
  ⟨e, by have := h.1; omega, fun i hi => ⟨(h.szk i).mono (by decide), (k.szk i).mono (by decide), (dotN_sz h k (by omega)).mono (by decide)⟩⟩
theorem grown_sz (H : LawB xs bx ps ws m) : Sz 400 (dotq xs (cnrL xs bx ps) + m * dotq (sizesQ xs) ws) := (sz_add (dotq_sz H.rx H.rc) (sz_mul (g7_sz H.gm) (dotq_sz H.rs H.rw_))).mono (by decide)
theorem tm_pre (H : LawB xs bx ps ws m) : Lg m.num + Lg (dotq (sizesQ xs) ws).num < 980 ∧ Lg (m.den : Int) + Lg ((dotq (sizesQ xs) ws).den : Int) < 980 := by
  have a := g7_sz H.gm
  have b := dotq_sz H.rs H.rw_
  have := a.1; have := a.2; have := b.1; have := b.2
  omega
theorem t1_pre {a : Rat} (h : Sz 57 a) : Lg (((-1 : Int) : Rat)).num + Lg a.num < 980 ∧ Lg ((((-1 : Int) : Rat)).den : Int) + Lg (a.den : Int) < 980 := by
  have e1 : (((-1 : Int) : Rat)).num = -1 := rfl
  have e2 : (((-1 : Int) : Rat)).den = 1 := rfl
  rw [e1, e2]
  have l1 : Lg (-1 : Int) = 0 := by decide
  have l2 : Lg ((1 : Nat) : Int) = 0 := by decide
  have := h.1
  have := h.2
  omega
theorem opt_none {α : Type} {o : Option α} (h : o.isNone = true) : o = none := by
  cases o with
  | none => rfl
  | some q => cases h
theorem opt_some {α : Type} {o : Option α} (h : o.isNone = false) : ∃ l, o = some l := by
  cases o with
  | none => cases h
  | some q => exact ⟨q, rfl⟩
/-- what the law knows where there is a corner -/
structure Cnr (xs : List Rat) (bx : List Rg) (ps ws : List Rat) (m : Rat) : Prop where
  e1 : cornerQ xs bx ps = some (cnrL xs bx ps)
  e2 : worthQ xs bx = some (dotq xs (cnrL xs bx ps))
  e3 : withinQ (cnrL xs bx ps) bx = true
  e4 : worthQ xs (widQ bx ws m) = some (dotq xs (cnrL xs bx ps) + m * dotq (sizesQ xs) ws)
  e5 : ¬ dotq xs (cnrL xs bx ps) < dotq xs ps
theorem cnr_of (H : LawB xs bx ps ws m) (h : (cornerQ xs bx ps).isNone = false) : Cnr xs bx ps ws m := by
  obtain ⟨l, e⟩ := opt_some h
  have k := (corner_some e).1
  subst k
  exact ⟨e, worth_some H.l1 e, corner_within H.l1 H.l2 H.win e, by rw [H.wid]; exact wide_some H.l1 H.l3 e, dot_best H.l1 H.l2 H.win e⟩
theorem cnr_no (H : LawB xs bx ps ws m) (h : (cornerQ xs bx ps).isNone = true) : worthQ xs bx = none ∧ worthQ xs (widQ bx ws m) = none :=
  ⟨worth_none H.l1 (opt_none h), by rw [H.wid]; exact wide_none H.l1 (opt_none h)⟩
end
end DL

set_option Elab.async false
set_option linter.all false
set_option maxRecDepth 100000
set_option maxHeartbeats 4000000
namespace DL
open PySem L2
/-! ### a number outside -/
def stepQ (ns : List Int) : Rat := ((1 + (ns.getD (1 : Int).toNat 0).fmod 9 : Int) : Rat) / ((1 + (ns.getD (2 : Int).toNat 0).fmod 5 : Int) : Rat)
theorem step_pre {ns : List Int} : 1 + (ns.getD (2 : Int).toNat 0).fmod 5 ≠ 0 ∧ Lg (1 + (ns.getD (1 : Int).toNat 0).fmod 9) < 990 ∧ Lg (1 + (ns.getD (2 : Int).toNat 0).fmod 5) < 990 := by
  have a := fm_b (ns.getD (1 : Int).toNat 0) (n := 9) (by decide)
  have b := fm_b (ns.getD (2 : Int).toNat 0) (n := 5) (by decide)
  exact ⟨by omega, lg_b (B := 9) (by omega) (by decide) (by decide), lg_b (B := 5) (by omega) (by decide) (by decide)⟩
theorem step_gd (ns : List Int) : G7 (stepQ ns) := by
  have a := fm_b (ns.getD (1 : Int).toNat 0) (n := 9) (by decide)
  have b := fm_b (ns.getD (2 : Int).toNat 0) (n := 5) (by decide)
  exact gd_div (by omega) (dvd720 (by omega)) (Nat.le_trans (Nat.mul_le_mul_right 720 (show _ ≤ 9 by omega)) (by decide))
theorem rat_pos {t b : Int} (h1 : 0 < t) (h2 : 0 < b) : 0 < (t : Rat) / (b : Rat) := by
  have a : (0 : Rat) < (t : Rat) := by exact_mod_cast h1
  have c : (0 : Rat) < (b : Rat) := by exact_mod_cast h2
  rw [Rat.div_def]
  exact Rat.mul_pos a (Rat.inv_pos.mpr c)
theorem step_pos (ns : List Int) : 0 < stepQ ns := by
  have a := fm_b (ns.getD (1 : Int).toNat 0) (n := 9) (by decide)
  have b := fm_b (ns.getD (2 : Int).toNat 0) (n := 5) (by decide)
  exact rat_pos (by omega) (by omega)
abbrev sdI (i : Nat) : Int := ([0, 1] : List Int).getD i 0
abbrev endS (bx : List Rg) (a i : Nat) : Option Rat := [(bx.getD a (none, none)).1, (bx.getD a (none, none)).2].getD (sdI i).toNat none
theorem set_at {ps : List Rat} {a : Nat} {v : Rat} (h : a < ps.length) : (ps.set a v).getD a 0 = v := by
  rw [List.getD_eq_getElem?_getD, List.getElem?_set_self h]; rfl
theorem out_no {ps : List Rat} {bx : List Rg} {a i : Nat} {st : Rat} (ha : a < bx.length) (hl : ps.length = bx.length) (hi : i < 2) (e : (endS bx a i).isNone = false) (hst : 0 < st) : withinQ (ps.set a ((endS bx a i).getD 0 + ((2 * sdI i - 1 : Int) : Rat) * st)) bx = false := by
  rw [← Bool.not_eq_true, wi_all]
  intro h
  have := h a (by rw [List.length_set]; omega)
  unfold liesAt at this
  rw [set_at (by omega)] at this
  have eo := opt_at e
  match i, hi with
  | 0, _ =>
    have eo : (bx.getD a (none, none)).1 = some ((endS bx a 0).getD 0) := eo
    rw [eo] at this
    have k := lies_lo this
    have e2 : ((2 * sdI 0 - 1 : Int) : Rat) = -1 := rfl
    rw [e2] at k
    grind
  | 1, _ =>
    have eo : (bx.getD a (none, none)).2 = some ((endS bx a 1).getD 0) := eo
    rw [eo] at this
    have k := lies_hi this
    have e2 : ((2 * sdI 1 - 1 : Int) : Rat) = 1 := rfl
    rw [e2] at k
    grind
theorem endS_g7 {bx : List Rg} {a : Nat} (h : ∀ p ∈ bx, G7B p) (ha : a < bx.length) (i : Nat) : G7 ((endS bx a i).getD 0) := by
  have b := h _ (DL.getD_mem (d := ((none, none) : Rg)) ha)
  unfold endS
  match (sdI i).toNat with
  | 0 => exact b.1
  | 1 => exact b.2
  | n + 2 => exact gd_zero
theorem sd_sz {i : Nat} (hi : i < 2) : Sz 1 ((2 * sdI i - 1 : Int) : Rat) := by
  match i, hi with
  | 0, _ => exact sz_int (by decide)
  | 1, _ => exact sz_int (by decide)
theorem out_v {bx : List Rg} {a i : Nat} {ns : List Int} (h : ∀ p ∈ bx, G7B p) (ha : a < bx.length) (hi : i < 2) : Sz 400 ((endS bx a i).getD 0) ∧ Sz 400 (((2 * sdI i - 1 : Int) : Rat) * stepQ ns) :=
  ⟨(g7_sz (endS_g7 h ha i)).mono (by decide), (sz_mul (sd_sz hi) (g7_sz (step_gd ns))).mono (by decide)⟩
theorem out_t {i : Nat} {ns : List Int} (hi : i < 2) : Lg ((2 * sdI i - 1 : Int) : Rat).num + Lg (stepQ ns).num < 980 ∧ Lg (((2 * sdI i - 1 : Int) : Rat).den : Int) + Lg ((stepQ ns).den : Int) < 980 := by
  have a := sd_sz hi
  have b := g7_sz (step_gd ns)
  have := a.1; have := a.2; have := b.1; have := b.2
  omega
theorem mem_set_sz {ps : List Rat} {a : Nat} {v : Rat} {n : Nat} (h : ∀ q ∈ ps, Sz n q) (hv : Sz n v) : ∀ q ∈ ps.set a v, Sz n q := fun q hq => by
  rcases List.mem_or_eq_of_mem_set hq with z | z
  · exact h q z
  · rw [z]; exact hv
theorem at_b {n : Int} {m : Nat} (h : 0 < m) : 0 ≤ n.fmod (m : Int) ∧ n.fmod (m : Int) < (m : Int) := fm_b n (by omega)
/-- the numbers that are changed at one place -/
theorem off1 {ps : List Rat} {bx : List Rg} {a i : Nat} {ns : List Int} (hp : ∀ q ∈ ps, G7 q) (h : ∀ p ∈ bx, G7B p) (ha : a < bx.length) (hi : i < 2) : ∀ q ∈ ps.set a ((endS bx a i).getD 0 + ((2 * sdI i - 1 : Int) : Rat) * stepQ ns), Sz 400 q :=
  mem_set_sz (fun q hq => (g7_sz (hp q hq)).mono (by decide)) ((sz_add (g7_sz (endS_g7 h ha i)) (sz_mul (sd_sz hi) (g7_sz (step_gd ns)))).mono (by decide))
theorem off2 {ps : List Rat} {bx : List Rg} {a i : Nat} (hp : ∀ q ∈ ps, Sz 400 q) (h : ∀ p ∈ bx, G7B p) (ha : a < bx.length) : ∀ q ∈ ps.set a ((endS bx a i).getD 0), Sz 400 q :=
  mem_set_sz hp ((g7_sz (endS_g7 h ha i)).mono (by decide))
theorem nd_no {b : Bool} (h : (!b) = true) : b = false := by cases b <;> first | rfl | cases h
theorem sd_l {i : Nat} (h : i < 2) : 0 ≤ sdI i := by match i, h with
  | 0, _ => decide
  | 1, _ => decide
theorem sd_h {i : Nat} {a b : Option Rat} (h : i < 2) : sdI i < (([a, b] : List (Option Rat)).length : Int) := by match i, h with
  | 0, _ => exact (show (0 : Int) < ((2 : Nat) : Int) by decide)
  | 1, _ => exact (show (1 : Int) < ((2 : Nat) : Int) by decide)
theorem sd_s {i : Nat} (h : i < 2) : (sdI i).natAbs < 18446744073709551616 := by match i, h with
  | 0, _ => decide
  | 1, _ => decide
end DL

set_option Elab.async false
set_option linter.all false
set_option maxRecDepth 100000
set_option maxHeartbeats 4000000
namespace DL
open PySem L2
/-! ### the refusals -/
def q52 : Rat := (5 : Int) / (2 : Int)
theorem q52_num : q52.num = 5 := by decide +kernel
theorem q52_den : q52.den = 2 := by decide +kernel
theorem sub_52 {K : PySem.W.Frag} : Sub (rTup K [rInt 5, rInt 2]) (rNum K q52) := sub_pair (by decide) q52_num (by rw [q52_den]; rfl)
def mhalf : Rat := (-1 : Int) / (2 : Int)
theorem mhalf_num : mhalf.num = -1 := by decide +kernel
theorem mhalf_den : mhalf.den = 2 := by decide +kernel
theorem sub_mh {K : PySem.W.Frag} : Sub (rTup K [rInt (-1), rInt 2]) (rNum K mhalf) := sub_pair (by decide) mhalf_num (by rw [mhalf_den]; rfl)
theorem mhalf_lt : mhalf < 0 := by decide +kernel
def belD (ns : List Int) : Int := (ns.getD (5 : Int).toNat 0).fmod 5
def belQ (ns : List Int) : Rat := ((-1 : Int) : Rat) / ((1 + belD ns : Int) : Rat)
theorem belD_b (ns : List Int) : 0 ≤ belD ns ∧ belD ns < 5 := fm_b _ (by decide)
theorem bel_c {d : Int} (h : 0 ≤ d ∧ d < 5) : (((-1 : Int) : Rat) / ((1 + d : Int) : Rat)).num = -1 ∧ ((((-1 : Int) : Rat) / ((1 + d : Int) : Rat)).den : Int) = 1 + d ∧ ((-1 : Int) : Rat) / ((1 + d : Int) : Rat) < 0 := by
  rcases (by omega : d = 0 ∨ d = 1 ∨ d = 2 ∨ d = 3 ∨ d = 4) with h | h | h | h | h <;> subst h <;> decide +kernel
theorem bel_p {K : PySem.W.Frag} {ns : List Int} (h : decide (0 < belD ns) = true) : Sub (rTup K [rInt (-1), rInt (1 + belD ns)]) (rNum K (belQ ns)) :=
  sub_pair (by have := of_decide_eq_true h; omega) (bel_c (belD_b ns)).1 (bel_c (belD_b ns)).2.1
theorem bel_w {K : PySem.W.Frag} {ns : List Int} (h : decide (0 < belD ns) = false) : Sub (rInt (-1)) (rNum K (belQ ns)) :=
  sub_whole (by have a := of_decide_eq_false h; have b := belD_b ns; have c := (bel_c (belD_b ns)).2.1; show (((-1 : Int) : Rat) / ((1 + belD ns : Int) : Rat)).den = 1; omega) (bel_c (belD_b ns)).1
theorem bel_lt (ns : List Int) : belQ ns < 0 := (bel_c (belD_b ns)).2.2
theorem bel_g7 (ns : List Int) : G7 (belQ ns) := gd_div (by have := belD_b ns; omega) (dvd720 (by have := belD_b ns; omega)) (by decide)
def vdQ (bx : List Rg) (a : Nat) (c : Bool) : Nat → List Rg
  | 0 => bx.set a (some ((3 : Int) : Rat), some q52)
  | i + 1 => if c = true then (vdQ bx a c i).set (a + 1 + i) (some ((1 : Int) : Rat), some ((0 : Int) : Rat)) else vdQ bx a c i
theorem vd_len {bx : List Rg} {a : Nat} {c : Bool} : ∀ i, (vdQ bx a c i).length = bx.length
  | 0 => by unfold vdQ; rw [List.length_set]
  | i + 1 => by
    unfold vdQ
    split
    · rw [List.length_set, vd_len i]
    · exact vd_len i
theorem vd_t {bx : List Rg} {z : Int} {c : Bool} {i : Nat} (h : 0 ≤ z) (e : c = true) : (vdQ bx z.toNat c i).set (z + 1 + (i : Int)).toNat (some ((1 : Int) : Rat), some ((0 : Int) : Rat)) = vdQ bx z.toNat c (i + 1) := by
  show _ = if c = true then _ else _
  rw [if_pos e, show (z + 1 + (i : Int)).toNat = z.toNat + 1 + i from by omega]
theorem vd_f {bx : List Rg} {a : Nat} {c : Bool} {i : Nat} (e : c = false) : vdQ bx a c i = vdQ bx a c (i + 1) := by
  show _ = if c = true then _ else _
  rw [if_neg (by rw [e]; exact Bool.false_ne_true)]
theorem getD_set_ne {l : List Rg} {a j : Nat} {v d : Rg} (h : a ≠ j) : (l.set a v).getD j d = l.getD j d := by
  rw [List.getD_eq_getElem?_getD, List.getElem?_set_ne h, List.getD_eq_getElem?_getD]
theorem vd_lt {bx : List Rg} {a j : Nat} {c : Bool} {d : Rg} (h : j < a) : ∀ i, (vdQ bx a c i).getD j d = bx.getD j d
  | 0 => getD_set_ne (by omega)
  | i + 1 => by
    unfold vdQ
    split
    · rw [getD_set_ne (by omega), vd_lt h i]
    · exact vd_lt h i
theorem vd_at {bx : List Rg} {a : Nat} {c : Bool} {d : Rg} (h : a < bx.length) : ∀ i, (vdQ bx a c i).getD a d = (some ((3 : Int) : Rat), some q52)
  | 0 => by
    show (bx.set a _).getD a d = _
    rw [List.getD_eq_getElem?_getD, List.getElem?_set_self h]; rfl
  | i + 1 => by
    unfold vdQ
    split
    · rw [getD_set_ne (by omega), vd_at h i]
    · exact vd_at h i
theorem vd_full {bx : List Rg} {a : Nat} {c : Bool} (h : a < bx.length) (hf : fullO bx = none) (i : Nat) : fullO (vdQ bx a c i) = some a := by
  refine full_some (by rw [vd_len]; exact h) (fun j hj => ?_) ?_
  · rw [vd_lt hj]
    exact full_none_iff hf j (by omega)
  · rw [vd_at h]
    show decide (q52 < ((3 : Int) : Rat)) = true
    decide +kernel
theorem g7_int {n : Int} (h : n.natAbs ≤ 1000) : G7 (n : Rat) := ⟨n * 720, by rw [Rat.intCast_mul]; rfl, by rw [Int.natAbs_mul]; exact Nat.le_trans (Nat.mul_le_mul_right 720 h) (by decide)⟩
theorem g7_52 : G7 q52 := gd_div (by decide) (by decide) (by decide)
theorem g7_mh : G7 mhalf := gd_div (by decide) (by decide) (by decide)
theorem vd_g7 {bx : List Rg} {a : Nat} {c : Bool} (h : ∀ p ∈ bx, G7B p) : ∀ i, ∀ p ∈ vdQ bx a c i, G7B p
  | 0, p, hp => by
    rcases List.mem_or_eq_of_mem_set hp with z | z
    · exact h p z
    · rw [z]; exact ⟨g7_int (by decide), g7_52⟩
  | i + 1, p, hp => by
    unfold vdQ at hp
    split at hp
    · rcases List.mem_or_eq_of_mem_set hp with z | z
      · exact vd_g7 h i p z
      · rw [z]; exact ⟨g7_int (by decide), g7_int (by decide)⟩
    · exact vd_g7 h i p hp
theorem meet_self {b : List Rg} {bs : List (List Rg)} {n : Nat} (h : fullO b = some n) : MeetBad b bs n := fun K CS CE => by
  unfold meetO meetE
  rw [if_neg (by simp), if_pos (by rw [h]; rfl), h]; rfl
theorem meet_e2 {b c : List Rg} {n : Nat} (h1 : fullO b = none) (hl : b.length = c.length) (h2 : fullO c = some n) : MeetBad b [c] n := fun K CS CE => by
  unfold meetO meetE
  rw [if_neg (by simp), if_neg (by rw [h1]; decide)]
  unfold meetE
  rw [if_neg (by simpa using hl), if_pos (by rw [h2]; rfl), h2]; rfl
theorem meet_s2 {b c : List Rg} (h1 : fullO b = none) (hl : ¬ b.length = c.length) : MeetSize b [c] := fun K CS CE => by
  unfold meetO meetE
  rw [if_neg (by simp), if_neg (by rw [h1]; decide)]
  unfold meetE
  rw [if_pos hl]; rfl
theorem meet_s3 {b c : List Rg} (h1 : fullO b = none) (hl : ¬ b.length = c.length) : MeetSize b [b, c] := fun K CS CE => by
  unfold meetO meetE
  rw [if_neg (by simp), if_neg (by rw [h1]; decide)]
  unfold meetE
  rw [if_neg (by simp), if_neg (by rw [h1]; decide)]
  unfold meetE
  rw [if_pos hl]; rfl
theorem low_at {ws : List Rat} {m : Rat} {a : Nat} {v : Rat} (h : a < ws.length) (hv : v < 0) : lowW (ws.set a v ++ [m]) = true :=
  List.any_eq_true.mpr ⟨v, List.mem_append_left _ (List.mem_set h v), decide_eq_true hv⟩
theorem low_m {ws : List Rat} {m : Rat} (hv : m < 0) : lowW (ws ++ [m]) = true := List.any_eq_true.mpr ⟨m, by simp, decide_eq_true hv⟩
theorem low_no {ws : List Rat} {m : Rat} (h : ∀ q ∈ ws, 0 ≤ q) (hm : 0 ≤ m) : lowW (ws ++ [m]) = false := by
  rw [← Bool.not_eq_true]
  intro z
  obtain ⟨x, hx, hd⟩ := List.any_eq_true.mp z
  have hd := of_decide_eq_true hd
  rcases List.mem_append.mp hx with y | y
  · have := h x y; grind
  · rw [List.mem_singleton.mp y] at hd; grind
theorem k_eq {s : Str} {n m : Int} (h : n = m) : (decide (s = s) && decide (n = m)) = true := by subst h; simp
theorem k_dead {s t : Str} {n m n' m' : Int} (h : n = m) (h' : n' = m') (hc : (!(decide (s = s) && decide (n = m)) || !(decide (t = t) && decide (n' = m'))) = true) : False := by
  rw [k_eq h, k_eq h'] at hc
  cases hc
theorem g7_app {ws : List Rat} {v : Rat} (h : ∀ q ∈ ws, G7 q) (hv : G7 v) : ∀ q ∈ ws ++ [v], G7 q := fun q hq => by
  rcases List.mem_append.mp hq with z | z
  · exact h q z
  · rw [List.mem_singleton.mp z]; exact hv
theorem g7b_app {bx : List Rg} {v : Rg} (h : ∀ p ∈ bx, G7B p) (hv : G7B v) : ∀ p ∈ bx ++ [v], G7B p := fun q hq => by
  rcases List.mem_append.mp hq with z | z
  · exact h q z
  · rw [List.mem_singleton.mp z]; exact hv
theorem g7_set {ws : List Rat} {a : Nat} {v : Rat} (h : ∀ q ∈ ws, G7 q) (hv : G7 v) : ∀ q ∈ ws.set a v, G7 q := fun q hq => by
  rcases List.mem_or_eq_of_mem_set hq with z | z
  · exact h q z
  · rw [z]; exact hv
theorem g7_drop {ws : List Rat} (h : ∀ q ∈ ws, G7 q) : ∀ q ∈ ws.drop 1, G7 q := fun q hq => h q (List.mem_of_mem_drop hq)
theorem g7b_drop {bx : List Rg} (h : ∀ p ∈ bx, G7B p) : ∀ p ∈ bx.drop 1, G7B p := fun p hp => h p (List.mem_of_mem_drop hp)
section
variable {bx b2 b3 : List Rg} {xs ws : List Rat} {m : Rat}
theorem i_pre (h1 : ∀ q ∈ xs, G7 q) (h2 : ∀ p ∈ bx, G7B p) {Z : Prop} (hl : xs.length ≤ 1000) (z : Z) : (∀ q ∈ xs, Sz 2000 q) ∧ (∀ p ∈ bx, SzR p) ∧ xs.length ≤ 1000 ∧ Z := ⟨fun q hq => (g7_sz (h1 q hq)).mono (by decide), fun p hp => szb_r (g7_szb (h2 p hp)), hl, z⟩
theorem g_pre (h1 : ∀ q ∈ xs, G7 q) (h2 : ∀ p ∈ bx, G7B p) {Z : Prop} (hl : xs.length ≤ 12) (z : Z) : (xs.length ≤ 12 ∧ (∀ q ∈ xs, Sz 90 q) ∧ ∀ p ∈ bx, SzB p) ∧ Z := ⟨⟨hl, fun q hq => (g7_sz (h1 q hq)).mono (by decide), fun p hp => g7_szb (h2 p hp)⟩, z⟩
theorem w_pre (h2 : ∀ p ∈ bx, G7B p) (hl : bx.length ≤ 1000) (hw : ws.length ≤ 1000) (h1 : ∀ q ∈ ws, G7 q) (hm : G7 m) {Z : Prop} (z : Z) : ((∀ p ∈ bx, SzR p) ∧ bx.length ≤ 1000 ∧ ws.length ≤ 1000 ∧ (∀ q ∈ ws, Sz 900 q) ∧ Sz 900 m) ∧ Z := ⟨⟨fun p hp => szb_r (g7_szb (h2 p hp)), hl, hw, fun q hq => (g7_sz (h1 q hq)).mono (by decide), (g7_sz hm).mono (by decide)⟩, z⟩
theorem m_pre2 (h1 : ∀ p ∈ bx, G7B p) (h2 : ∀ p ∈ b2, G7B p) (hl : bx.length ≤ 1000) {Z : Prop} (z : Z) : ((∀ x ∈ [bx, b2], ∀ p ∈ x, SzR p) ∧ bx.length ≤ 1000) ∧ Z := ⟨⟨fun x hx p hp => by simp at hx; rcases hx with e | e <;> subst e; exact szb_r (g7_szb (h1 p hp)); exact szb_r (g7_szb (h2 p hp)), hl⟩, z⟩
theorem m_pre3 (h1 : ∀ p ∈ bx, G7B p) (h2 : ∀ p ∈ b2, G7B p) (h3 : ∀ p ∈ b3, G7B p) (hl : bx.length ≤ 1000) {Z : Prop} (z : Z) : ((∀ x ∈ [bx, b2, b3], ∀ p ∈ x, SzR p) ∧ bx.length ≤ 1000) ∧ Z := ⟨⟨fun x hx p hp => by simp at hx; rcases hx with e | e | e <;> subst e; exact szb_r (g7_szb (h1 p hp)); exact szb_r (g7_szb (h2 p hp)); exact szb_r (g7_szb (h3 p hp)), hl⟩, z⟩
end
end DL

set_option Elab.async false
set_option linter.all false
set_option maxRecDepth 100000
set_option maxHeartbeats 4000000
namespace DL
open PySem L2
/-! ### the law -/
theorem fl_g {q : Rat} {B : Nat} (h : Gd 720 B q) : ∃ zz : Int, zz.natAbs ≤ B ∧ 720 * q.floor ≤ zz ∧ zz < 720 * (q.floor + 1) ∧ zz ≤ 720 * q.ceil ∧ 720 * (q.ceil - 1) < zz := by
  obtain ⟨z, e, b⟩ := h
  have h1 := Rat.floor_le (a := q)
  have h2 := Rat.lt_floor_add_one q
  have h3 := Rat.le_ceil (x := q)
  have h4 := Rat.ceil_lt (x := q)
  have e7 : (((720 : Nat) : Int) : Rat) = 720 := rfl
  rw [e7] at e
  refine ⟨z, b, ?_, ?_, ?_, ?_⟩
  · have : ((720 * q.floor : Int) : Rat) ≤ (z : Rat) := by
      rw [← e, Rat.intCast_mul]
      show (720 : Rat) * (q.floor : Rat) ≤ _
      grind
    exact_mod_cast this
  · have : (z : Rat) < ((720 * (q.floor + 1) : Int) : Rat) := by
      rw [← e, Rat.intCast_mul, Rat.intCast_add]
      show _ < (720 : Rat) * ((q.floor : Rat) + 1)
      grind
    exact_mod_cast this
  · have : (z : Rat) ≤ ((720 * q.ceil : Int) : Rat) := by
      rw [← e, Rat.intCast_mul]
      show _ ≤ (720 : Rat) * (q.ceil : Rat)
      grind
    exact_mod_cast this
  · have : ((720 * (q.ceil - 1) : Int) : Rat) < (z : Rat) := by
      rw [← e, Rat.intCast_mul, Rat.intCast_sub]
      show (720 : Rat) * ((q.ceil : Rat) - 1) < _
      grind
    exact_mod_cast this
theorem g7_mono {q : Rat} (h : Gd 720 (2 ^ 56) q) : G7 q := gd_mono h (by decide)
theorem g7_intB {n : Int} (h : n.natAbs * 720 ≤ 2 ^ 57) : G7 (n : Rat) := ⟨n * 720, by rw [Rat.intCast_mul]; rfl, by rw [Int.natAbs_mul]; exact h⟩
theorem end_g7 {x : Rat} {n : Int} {up : Bool} (h : Gd 720 (2 ^ 56) x) : G7 ((endQ x n up).getD 0) := by
  obtain ⟨zz, b, b1, b2, b3, b4⟩ := fl_g h
  have m := fm_b (n.fdiv 5) (n := 4) (by decide)
  have e56 : (2 : Nat) ^ 56 = 72057594037927936 := by decide
  have e57 : (2 : Nat) ^ 57 = 144115188075855872 := by decide
  unfold endQ
  split
  · exact gd_zero
  · split
    · exact g7_mono h
    · split
      · exact g7_intB (by rw [e57]; rw [e56] at b; omega)
      · exact g7_intB (by rw [e57]; rw [e56] at b; omega)
theorem int_le {a b : Int} (h : a ≤ b) : (a : Rat) ≤ (b : Rat) := by exact_mod_cast h
theorem end_lo {x : Rat} {n : Int} {l : Rat} (h : endQ x n false = some l) : l ≤ x := by
  have m := fm_b (n.fdiv 5) (n := 4) (by decide)
  unfold endQ at h
  split at h
  · cases h
  · split at h
    · cases h; exact Rat.le_refl
    · split at h
      · rename_i z; cases z
      · cases h
        exact Rat.le_trans (int_le (by omega)) (Rat.floor_le (a := x))
theorem end_hi {x : Rat} {n : Int} {u : Rat} (h : endQ x n true = some u) : x ≤ u := by
  have m := fm_b (n.fdiv 5) (n := 4) (by decide)
  unfold endQ at h
  split at h
  · cases h
  · split at h
    · cases h; exact Rat.le_refl
    · split at h
      · cases h
        exact Rat.le_trans (Rat.le_ceil (x := x)) (int_le (by omega))
      · rename_i z; exact absurd rfl z
theorem box_at {qs : List Rat} {ns : List Int} {i : Nat} (h : i < qs.length) : (boxQ qs ns).getD i (none, none) = (endQ (qs.getD i 0) (ns.getD i 0) false, endQ (qs.getD i 0) (ns.getD ((qs.length : Int) + (i : Int)).toNat 0) true) := by
  unfold boxQ
  rw [getD_mapI (d := 0) (fun i : Nat => ((endQ (qs.getD (i : Int).toNat 0) (ns.getD (i : Int).toNat 0) false, endQ (qs.getD (i : Int).toNat 0) (ns.getD ((qs.length : Int) + (i : Int)).toNat 0) true) : Rg)) (by rw [List.length_range]; exact h), List.getD_eq_getElem?_getD (l := List.range qs.length), List.getElem?_range h]; rfl
theorem box_in {qs : List Rat} {ns : List Int} : withinQ qs (boxQ qs ns) = true := wi_all.mpr fun j hj => by
  rw [boxQ_len, Nat.min_self] at hj
  unfold liesAt
  rw [box_at hj]
  exact lies_of (fun l h => end_lo h) (fun u h => end_hi h)
theorem box_full {qs : List Rat} {ns : List Int} : fullO (boxQ qs ns) = none := within_full boxQ_len.symm box_in
theorem box_g7 {qs : List Rat} {ns : List Int} (h : ∀ q ∈ qs, Gd 720 (2 ^ 56) q) : ∀ p ∈ boxQ qs ns, G7B p := fun p hp => by
  obtain ⟨i, hi, rfl⟩ := List.mem_map.mp hp
  have hi := List.mem_range.mp hi
  have := h _ (DL.getD_mem (d := (0 : Rat)) hi)
  exact ⟨end_g7 this, end_g7 this⟩
/-! what the law draws -/
section
variable (ns : List Int)
def jN : List Int := lawNums ns 0 60
def jM : List Int := lawNums ns 2 60
def jS : Nat := (1 + (ns.getD 1 0).fmod 7).toNat
def jL : Bool := decide (((ns.getD 1 0).fdiv 7).fmod 6 = 1)
def jP : List Rat := pointQ (jN ns) (jS ns) (jL ns)
def jF : List Rat := pointQ ((jN ns).drop 14) (jS ns) (jL ns)
def jB (i : Nat) : List Rg := boxQ (jP ns) ((jM ns).drop (14 * (i : Int)).toNat)
def jA : Int := ((jN ns).getD 40 0).fmod (jS ns : Int)
def jXi (i : Nat) : Rat := if decide ((i : Int) < jA ns) = true then (jP ns).getD (i : Int).toNat 0 else (jF ns).getD (i : Int).toNat 0
def jX : List Rat := (List.range (jS ns)).map (jXi ns)
def jW : List Rat := (List.range (jS ns)).map fun i : Nat => ((((jN ns).getD (42 + (i : Int)).toNat 0).fmod 7 : Int) : Rat) / ((1 + ((((jN ns).getD (42 + (i : Int)).toNat 0)).fdiv 7).fmod 3 : Int) : Rat)
def jD : Rat := ((((jN ns).getD 49 0).fmod 9 : Int) : Rat) / ((1 + ((jN ns).getD 50 0).fmod 4 : Int) : Rat)
def jR : List Rat := (List.range (jS ns)).map fun i : Nat => ((((jM ns).getD (43 + (i : Int)).toNat 0).fmod 9 - 4 : Int) : Rat) / ((1 + ((((jM ns).getD (43 + (i : Int)).toNat 0)).fdiv 9).fmod 3 : Int) : Rat)
def jZ : List Rat := (List.range (jS ns)).map fun _ => ((0 : Int) : Rat)
theorem jN_len : (jN ns).length = 60 := lawNums_len _ _ _
theorem jM_len : (jM ns).length = 60 := lawNums_len _ _ _
theorem jS_b : 0 < jS ns ∧ jS ns ≤ 7 := by
  have := fm_b (ns.getD 1 0) (n := 7) (by decide)
  unfold jS
  omega
theorem jS_i : ((jS ns : Nat) : Int) = 1 + (ns.getD 1 0).fmod 7 := by
  have := fm_b (ns.getD 1 0) (n := 7) (by decide)
  unfold jS
  omega
theorem jP_len : (jP ns).length = jS ns := pointQ_len
theorem jF_len : (jF ns).length = jS ns := pointQ_len
theorem jX_len : (jX ns).length = jS ns := by unfold jX; rw [List.length_map, List.length_range]
theorem jW_len : (jW ns).length = jS ns := by unfold jW; rw [List.length_map, List.length_range]
theorem jR_len : (jR ns).length = jS ns := by unfold jR; rw [List.length_map, List.length_range]
theorem jZ_len : (jZ ns).length = jS ns := by unfold jZ; rw [List.length_map, List.length_range]
theorem jB_len (i : Nat) : (jB ns i).length = jS ns := by unfold jB; rw [boxQ_len, jP_len]
theorem jP_g : ∀ q ∈ jP ns, Gd 720 (2 ^ 56) q := pointQ_gd
theorem jF_g : ∀ q ∈ jF ns, Gd 720 (2 ^ 56) q := pointQ_gd
theorem jX_g : ∀ q ∈ jX ns, Gd 720 (2 ^ 56) q := fun q hq => by
  obtain ⟨i, hi, rfl⟩ := List.mem_map.mp hq
  have hi := List.mem_range.mp hi
  unfold jXi
  split
  · exact jP_g ns _ (DL.getD_mem (by rw [jP_len]; exact hi))
  · exact jF_g ns _ (DL.getD_mem (by rw [jF_len]; exact hi))
theorem fr_g {t b : Int} (h1 : t.natAbs ≤ 1000) (h2 : 1 ≤ b ∧ b ≤ 6) : G7 ((t : Rat) / (b : Rat)) := gd_div (by omega) (dvd720 h2) (Nat.le_trans (Nat.mul_le_mul_right 720 h1) (by decide))
theorem fr_p {t b : Int} (h1 : 0 ≤ t) (h2 : 1 ≤ b) : 0 ≤ (t : Rat) / (b : Rat) := by
  by_cases h : t = 0
  · subst h
    rw [show ((0 : Int) : Rat) = 0 from rfl, Rat.div_def, Rat.zero_mul]; exact Rat.le_refl
  · exact Rat.le_of_lt (rat_pos (by omega) (by omega))
theorem fr_m {t b : Int} (h1 : t.natAbs ≤ 1000) (h2 : 1 ≤ b ∧ b ≤ 6) : b ≠ 0 ∧ Lg t < 990 ∧ Lg b < 990 := ⟨by omega, lg_b h1 (by decide) (by decide), lg_b (B := 6) (by omega) (by decide) (by decide)⟩
theorem jW_g : ∀ q ∈ jW ns, G7 q := fun q hq => by
  obtain ⟨i, hi, rfl⟩ := List.mem_map.mp hq
  have a := fm_b ((jN ns).getD (42 + (i : Int)).toNat 0) (n := 7) (by decide)
  have b := fm_b (((jN ns).getD (42 + (i : Int)).toNat 0).fdiv 7) (n := 3) (by decide)
  exact fr_g (by omega) (by omega)
theorem jW_p : ∀ q ∈ jW ns, 0 ≤ q := fun q hq => by
  obtain ⟨i, hi, rfl⟩ := List.mem_map.mp hq
  have a := fm_b ((jN ns).getD (42 + (i : Int)).toNat 0) (n := 7) (by decide)
  have b := fm_b (((jN ns).getD (42 + (i : Int)).toNat 0).fdiv 7) (n := 3) (by decide)
  exact fr_p (by omega) (by omega)
theorem jD_g : G7 (jD ns) := by
  have a := fm_b ((jN ns).getD 49 0) (n := 9) (by decide)
  have b := fm_b ((jN ns).getD 50 0) (n := 4) (by decide)
  exact fr_g (by omega) (by omega)
theorem jD_p : 0 ≤ jD ns := by
  have a := fm_b ((jN ns).getD 49 0) (n := 9) (by decide)
  have b := fm_b ((jN ns).getD 50 0) (n := 4) (by decide)
  exact fr_p (by omega) (by omega)
theorem jR_g : ∀ q ∈ jR ns, G7 q := fun q hq => by
  obtain ⟨i, hi, rfl⟩ := List.mem_map.mp hq
  have a := fm_b ((jM ns).getD (43 + (i : Int)).toNat 0) (n := 9) (by decide)
  have b := fm_b (((jM ns).getD (43 + (i : Int)).toNat 0).fdiv 9) (n := 3) (by decide)
  exact fr_g (by omega) (by omega)
theorem jZ_g : ∀ q ∈ jZ ns, G7 q := fun q hq => by
  obtain ⟨i, hi, rfl⟩ := List.mem_map.mp hq
  exact gd_zero
theorem jB_g (i : Nat) : ∀ p ∈ jB ns i, G7B p := box_g7 (jP_g ns)
theorem jB_in (i : Nat) : withinQ (jP ns) (jB ns i) = true := box_in
theorem jLB (i : Nat) : LawB (jR ns) (jB ns i) (jP ns) (jW ns) (jD ns) := ⟨by rw [jR_len, jB_len], by rw [jP_len, jB_len], by rw [jW_len, jB_len], by rw [jB_len]; have := jS_b ns; omega, jR_g ns, fun q hq => g7_mono (jP_g ns q hq), jW_g ns, jD_g ns, jB_g ns i, jB_in ns i, jW_p ns, jD_p ns⟩
theorem jLZ (i : Nat) : LawB (jZ ns) (jB ns i) (jP ns) (jW ns) ((0 : Int) : Rat) := ⟨by rw [jZ_len, jB_len], by rw [jP_len, jB_len], by rw [jW_len, jB_len], by rw [jB_len]; have := jS_b ns; omega, jZ_g ns, fun q hq => g7_mono (jP_g ns q hq), jW_g ns, gd_zero, jB_g ns i, jB_in ns i, jW_p ns, Rat.le_refl⟩
theorem jXi_t {i : Nat} (h : decide ((i : Int) < jA ns) = true) : (jP ns).getD (i : Int).toNat 0 = jXi ns i := by unfold jXi; rw [if_pos h]
theorem jXi_f {i : Nat} (h : decide ((i : Int) < jA ns) = false) : (jF ns).getD (i : Int).toNat 0 = jXi ns i := by unfold jXi; rw [if_neg (by rw [h]; exact Bool.false_ne_true)]
theorem jB_at {i : Nat} (h : i < 3) : ((List.range 3).map (jB ns)).getD i [] = jB ns i := by
  match i, h with
  | 0, _ => rfl
  | 1, _ => rfl
  | 2, _ => rfl
theorem jm_pre {a b c : List Rg} {n : Nat} (h : 0 < n ∧ n ≤ 7) (h1 : a.length = n ∧ fullO a = none) (h2 : b.length = n ∧ fullO b = none) (h3 : c.length = n ∧ fullO c = none) (g1 : ∀ p ∈ a, G7B p) (g2 : ∀ p ∈ b, G7B p) (g3 : ∀ p ∈ c, G7B p) :
    (0 < n ∧ n ≤ 12) ∧ (∀ x ∈ [a, b, c], x.length = n ∧ fullO x = none) ∧ ∀ x ∈ [a, b, c], ∀ p ∈ x, SzB p :=
  ⟨⟨h.1, by omega⟩, fun x hx => by simp at hx; rcases hx with e | e | e <;> subst e <;> assumption, fun x hx p hp => by simp at hx; rcases hx with e | e | e <;> subst e <;> exact g7_szb (by first | exact g1 p hp | exact g2 p hp | exact g3 p hp)⟩
theorem jB_m (i : Nat) : (jB ns i).length = jS ns ∧ fullO (jB ns i) = none := ⟨jB_len ns i, box_full⟩
theorem bx_m {qs : List Rat} {ms : List Int} {n : Nat} (h : qs.length = n) : (boxQ qs ms).length = n ∧ fullO (boxQ qs ms) = none := ⟨by rw [boxQ_len, h], box_full⟩
theorem jx_h {l : List Int} {n : Int} (h : l.length = 60) (hn : n < 60) : n < (l.length : Int) := by rw [h]; exact hn
theorem jm_w (i : Nat) : 1 + ((((jN ns).getD (42 + (i : Int)).toNat 0)).fdiv 7).fmod 3 ≠ 0 ∧ Lg (((jN ns).getD (42 + (i : Int)).toNat 0).fmod 7) < 990 ∧ Lg (1 + ((((jN ns).getD (42 + (i : Int)).toNat 0)).fdiv 7).fmod 3) < 990 := by
  have a := fm_b ((jN ns).getD (42 + (i : Int)).toNat 0) (n := 7) (by decide)
  have b := fm_b (((jN ns).getD (42 + (i : Int)).toNat 0).fdiv 7) (n := 3) (by decide)
  exact fr_m (by omega) (by omega)
theorem jm_r (i : Nat) : 1 + ((((jM ns).getD (43 + (i : Int)).toNat 0)).fdiv 9).fmod 3 ≠ 0 ∧ Lg (((jM ns).getD (43 + (i : Int)).toNat 0).fmod 9 - 4) < 990 ∧ Lg (1 + ((((jM ns).getD (43 + (i : Int)).toNat 0)).fdiv 9).fmod 3) < 990 := by
  have a := fm_b ((jM ns).getD (43 + (i : Int)).toNat 0) (n := 9) (by decide)
  have b := fm_b (((jM ns).getD (43 + (i : Int)).toNat 0).fdiv 9) (n := 3) (by decide)
  exact fr_m (by omega) (by omega)
theorem jm_d : 1 + ((jN ns).getD (50 : Int).toNat 0).fmod 4 ≠ 0 ∧ Lg (((jN ns).getD (49 : Int).toNat 0).fmod 9) < 990 ∧ Lg (1 + ((jN ns).getD (50 : Int).toNat 0).fmod 4) < 990 := by
  have a := fm_b ((jN ns).getD (49 : Int).toNat 0) (n := 9) (by decide)
  have b := fm_b ((jN ns).getD (50 : Int).toNat 0) (n := 4) (by decide)
  exact fr_m (by omega) (by omega)
theorem j_lc2 {K : PySem.W.Frag} {n : Nat} {f : Nat → Rep} {g : Nat → Rat} (h : f = fun i => rNum K (g i)) : ((List.range n).filter fun _ => true).map f = List.map (rNum K) ((List.range n).map g) := by rw [lc_true, List.map_map, h]; rfl
theorem g56_sz {qs : List Rat} {n : Nat} (h : ∀ q ∈ qs, Gd 720 (2 ^ 56) q) (hn : 57 ≤ n) : ∀ q ∈ qs, Sz n q := fun q hq => (g7_sz (g7_mono (h q hq))).mono hn
end
end DL

set_option Elab.async false
set_option linter.all false
set_option maxRecDepth 100000
set_option maxHeartbeats 4000000
namespace K17
open PySem PySem.Spec PyProof.Rows L2 DL
def topS (i : Nat) : Stmt := PySem.Challenge.pw_fineststep_k17_boxes_and_greatest_worths.main.body.getD i (.Pass ⟨0, 0, 0, 0⟩)
abbrev s_ratio : Stmt := topS 8
abbrev s_is_whole : Stmt := topS 9
abbrev s_top_of : Stmt := topS 10
abbrev s_bottom_of : Stmt := topS 11
abbrev s_plus : Stmt := topS 12
abbrev s_minus : Stmt := topS 13
abbrev s_times : Stmt := topS 14
abbrev s_less : Stmt := topS 15
abbrev s_floor_of : Stmt := topS 16
abbrev s_ceiling_of : Stmt := topS 17
abbrev s_least_of : Stmt := topS 18
abbrev s_greatest_of : Stmt := topS 19
abbrev s_is_empty : Stmt := topS 21
abbrev s_lies_within : Stmt := topS 22
abbrev s_check_full : Stmt := topS 23
abbrev s_all_within : Stmt := topS 24
abbrev s_tightest : Stmt := topS 25
abbrev s_end_toward : Stmt := topS 26
abbrev s_given : Stmt := topS 27
abbrev s_around : Stmt := topS 29
abbrev s_inside : Stmt := topS 30
abbrev s_meet : Stmt := topS 31
abbrev s_range_in_all : Stmt := topS 32
abbrev s_widened : Stmt := topS 33
abbrev s_greatest_worth : Stmt := topS 34
abbrev s_worth_over : Stmt := topS 35
abbrev s_check_lengths : Stmt := topS 36
abbrev s_check_weights : Stmt := topS 37
abbrev s_moved : Stmt := topS 38
abbrev s__law_cell : Stmt := topS 40
abbrev s__law_numbers : Stmt := topS 41
abbrev s__law_gcd : Stmt := topS 42
abbrev s__law_make : Stmt := topS 43
abbrev s__law_top : Stmt := topS 44
abbrev s__law_bottom : Stmt := topS 45
abbrev s__law_is_int : Stmt := topS 46
abbrev s__law_is_number : Stmt := topS 47
abbrev s__law_plus : Stmt := topS 48
abbrev s__law_times : Stmt := topS 49
abbrev s__law_dot : Stmt := topS 50
abbrev s__law_less : Stmt := topS 51
abbrev s__law_floor : Stmt := topS 52
abbrev s__law_ceiling : Stmt := topS 53
abbrev s__law_point : Stmt := topS 54
abbrev s__law_end : Stmt := topS 55
abbrev s__law_box : Stmt := topS 56
abbrev s__law_within : Stmt := topS 57
abbrev s__law_is_box : Stmt := topS 58
abbrev s__law_joined : Stmt := topS 59
abbrev s__law_empty : Stmt := topS 60
abbrev s__law_kind : Stmt := topS 61
abbrev s__law_around : Stmt := topS 62
abbrev s__law_meets : Stmt := topS 63
abbrev s__law_wider : Stmt := topS 64
abbrev s__law_corner : Stmt := topS 65
abbrev s__law_worths : Stmt := topS 66
abbrev s__law_out : Stmt := topS 67
abbrev s__law_refusals : Stmt := topS 68
abbrev s_law : Stmt := topS 69
structure Cs where
  BookError : Addr
  EmptyRange : Addr
  ZeroBottom : Addr
  BadSize : Addr
  BadWeight : Addr
structure Txt (K : PySem.W.Frag) (mg : Str → Option Value) (cs : Cs) : Prop where
  b_ValueError : mg "ValueError" = none
  b_abs : mg "abs" = none
  b_all : mg "all" = none
  b_bool : mg "bool" = none
  b_enumerate : mg "enumerate" = none
  b_int : mg "int" = none
  b_isinstance : mg "isinstance" = none
  b_len : mg "len" = none
  b_list : mg "list" = none
  b_range : mg "range" = none
  b_tuple : mg "tuple" = none
  b_zip : mg "zip" = none
  m_gcd : mg "gcd" = some (.builtin "math.gcd")
  x_BookError : XCls K mg "BookError" cs.BookError
  x_EmptyRange : XClsF K mg "EmptyRange" "cell" cs.EmptyRange
  x_ZeroBottom : XCls K mg "ZeroBottom" cs.ZeroBottom
  x_BadSize : XCls K mg "BadSize" cs.BadSize
  x_BadWeight : XCls K mg "BadWeight" cs.BadWeight
  d_ratio : TD K mg "ratio" s_ratio
  d_is_whole : TD K mg "is_whole" s_is_whole
  d_top_of : TD K mg "top_of" s_top_of
  d_bottom_of : TD K mg "bottom_of" s_bottom_of
  d_plus : TD K mg "plus" s_plus
  d_minus : TD K mg "minus" s_minus
  d_times : TD K mg "times" s_times
  d_less : TD K mg "less" s_less
  d_floor_of : TD K mg "floor_of" s_floor_of
  d_ceiling_of : TD K mg "ceiling_of" s_ceiling_of
  d_least_of : TD K mg "least_of" s_least_of
  d_greatest_of : TD K mg "greatest_of" s_greatest_of
  d_is_empty : TD K mg "is_empty" s_is_empty
  d_lies_within : TD K mg "lies_within" s_lies_within
  d_check_full : TD K mg "check_full" s_check_full
  d_all_within : TD K mg "all_within" s_all_within
  d_tightest : TD K mg "tightest" s_tightest
  d_end_toward : TD K mg "end_toward" s_end_toward
  d_given : TD K mg "given" s_given
  d_around : TD K mg "around" s_around
  d_inside : TD K mg "inside" s_inside
  d_meet : TD K mg "meet" s_meet
  d_range_in_all : TD K mg "range_in_all" s_range_in_all
  d_widened : TD K mg "widened" s_widened
  d_greatest_worth : TD K mg "greatest_worth" s_greatest_worth
  d_worth_over : TD K mg "worth_over" s_worth_over
  d_check_lengths : TD K mg "check_lengths" s_check_lengths
  d_check_weights : TD K mg "check_weights" s_check_weights
  d_moved : TD K mg "moved" s_moved
  d__law_cell : TD K mg "_law_cell" s__law_cell
  d__law_numbers : TD K mg "_law_numbers" s__law_numbers
  d__law_gcd : TD K mg "_law_gcd" s__law_gcd
  d__law_make : TD K mg "_law_make" s__law_make
  d__law_top : TD K mg "_law_top" s__law_top
  d__law_bottom : TD K mg "_law_bottom" s__law_bottom
  d__law_is_int : TD K mg "_law_is_int" s__law_is_int
  d__law_is_number : TD K mg "_law_is_number" s__law_is_number
  d__law_plus : TD K mg "_law_plus" s__law_plus
  d__law_times : TD K mg "_law_times" s__law_times
  d__law_dot : TD K mg "_law_dot" s__law_dot
  d__law_less : TD K mg "_law_less" s__law_less
  d__law_floor : TD K mg "_law_floor" s__law_floor
  d__law_ceiling : TD K mg "_law_ceiling" s__law_ceiling
  d__law_point : TD K mg "_law_point" s__law_point
  d__law_end : TD K mg "_law_end" s__law_end
  d__law_box : TD K mg "_law_box" s__law_box
  d__law_within : TD K mg "_law_within" s__law_within
  d__law_is_box : TD K mg "_law_is_box" s__law_is_box
  d__law_joined : TD K mg "_law_joined" s__law_joined
  d__law_empty : TD K mg "_law_empty" s__law_empty
  d__law_kind : TD K mg "_law_kind" s__law_kind
  d__law_around : TD K mg "_law_around" s__law_around
  d__law_meets : TD K mg "_law_meets" s__law_meets
  d__law_wider : TD K mg "_law_wider" s__law_wider
  d__law_corner : TD K mg "_law_corner" s__law_corner
  d__law_worths : TD K mg "_law_worths" s__law_worths
  d__law_out : TD K mg "_law_out" s__law_out
  d__law_refusals : TD K mg "_law_refusals" s__law_refusals
  d_law : TD K mg "law" s_law
  e_BadSize : ExcC K cs.BadSize
  s_BadSize_BookError : PySem.W.subIn K (.ref cs.BadSize) (.ref cs.BookError) = some true
  k_BadSize_BookError : PySem.W.kitOne K (.ref cs.BadSize) (.ref cs.BookError) = some true
  s_BadSize_EmptyRange : PySem.W.subIn K (.ref cs.BadSize) (.ref cs.EmptyRange) = some false
  k_BadSize_EmptyRange : PySem.W.kitOne K (.ref cs.BadSize) (.ref cs.EmptyRange) = some false
  s_BadSize_ZeroBottom : PySem.W.subIn K (.ref cs.BadSize) (.ref cs.ZeroBottom) = some false
  k_BadSize_ZeroBottom : PySem.W.kitOne K (.ref cs.BadSize) (.ref cs.ZeroBottom) = some false
  s_BadSize_BadSize : PySem.W.subIn K (.ref cs.BadSize) (.ref cs.BadSize) = some true
  k_BadSize_BadSize : PySem.W.kitOne K (.ref cs.BadSize) (.ref cs.BadSize) = some true
  s_BadSize_BadWeight : PySem.W.subIn K (.ref cs.BadSize) (.ref cs.BadWeight) = some false
  k_BadSize_BadWeight : PySem.W.kitOne K (.ref cs.BadSize) (.ref cs.BadWeight) = some false
  k_BadSize_ValueError : PySem.W.kitOne K (.ref cs.BadSize) (.type "ValueError") = some true
  e_BadWeight : ExcC K cs.BadWeight
  s_BadWeight_BookError : PySem.W.subIn K (.ref cs.BadWeight) (.ref cs.BookError) = some true
  k_BadWeight_BookError : PySem.W.kitOne K (.ref cs.BadWeight) (.ref cs.BookError) = some true
  s_BadWeight_EmptyRange : PySem.W.subIn K (.ref cs.BadWeight) (.ref cs.EmptyRange) = some false
  k_BadWeight_EmptyRange : PySem.W.kitOne K (.ref cs.BadWeight) (.ref cs.EmptyRange) = some false
  s_BadWeight_ZeroBottom : PySem.W.subIn K (.ref cs.BadWeight) (.ref cs.ZeroBottom) = some false
  k_BadWeight_ZeroBottom : PySem.W.kitOne K (.ref cs.BadWeight) (.ref cs.ZeroBottom) = some false
  s_BadWeight_BadSize : PySem.W.subIn K (.ref cs.BadWeight) (.ref cs.BadSize) = some false
  k_BadWeight_BadSize : PySem.W.kitOne K (.ref cs.BadWeight) (.ref cs.BadSize) = some false
  s_BadWeight_BadWeight : PySem.W.subIn K (.ref cs.BadWeight) (.ref cs.BadWeight) = some true
  k_BadWeight_BadWeight : PySem.W.kitOne K (.ref cs.BadWeight) (.ref cs.BadWeight) = some true
  k_BadWeight_ValueError : PySem.W.kitOne K (.ref cs.BadWeight) (.type "ValueError") = some true
  e_EmptyRange : ExcC K cs.EmptyRange
  s_EmptyRange_BookError : PySem.W.subIn K (.ref cs.EmptyRange) (.ref cs.BookError) = some true
  k_EmptyRange_BookError : PySem.W.kitOne K (.ref cs.EmptyRange) (.ref cs.BookError) = some true
  s_EmptyRange_EmptyRange : PySem.W.subIn K (.ref cs.EmptyRange) (.ref cs.EmptyRange) = some true
  k_EmptyRange_EmptyRange : PySem.W.kitOne K (.ref cs.EmptyRange) (.ref cs.EmptyRange) = some true
  s_EmptyRange_ZeroBottom : PySem.W.subIn K (.ref cs.EmptyRange) (.ref cs.ZeroBottom) = some false
  k_EmptyRange_ZeroBottom : PySem.W.kitOne K (.ref cs.EmptyRange) (.ref cs.ZeroBottom) = some false
  s_EmptyRange_BadSize : PySem.W.subIn K (.ref cs.EmptyRange) (.ref cs.BadSize) = some false
  k_EmptyRange_BadSize : PySem.W.kitOne K (.ref cs.EmptyRange) (.ref cs.BadSize) = some false
  s_EmptyRange_BadWeight : PySem.W.subIn K (.ref cs.EmptyRange) (.ref cs.BadWeight) = some false
  k_EmptyRange_BadWeight : PySem.W.kitOne K (.ref cs.EmptyRange) (.ref cs.BadWeight) = some false
  k_EmptyRange_ValueError : PySem.W.kitOne K (.ref cs.EmptyRange) (.type "ValueError") = some true
variable {P : Program} {w : World} {K : PySem.W.Frag} {mg : Str → Option Value} {base : Heap} {cs : Cs}
theorem sc_ratio : FnScope ["top", "bottom", "common"] ["top", "bottom"] (defScope s_ratio) := ⟨rfl, rfl, rfl, by decide +kernel, rfl, by decide +kernel, by decide +kernel⟩
def sp_ratio (K : PySem.W.Frag) (cs : Cs) : Sp := PmX (ι := Int × Int) (fun ⟨t, b⟩ => Lg b < 9000) (fun ⟨t, b⟩ => [rInt t, rInt b]) (fun ⟨t, b⟩ => if b = 0 then .err cs.ZeroBottom else .ok (.val (rNum K ((t : Rat) / (b : Rat)))))
abbrev okr_ratio (K : PySem.W.Frag) : Int × Int → Ret := fun ⟨t, b⟩ => .val (rNum K ((t : Rat) / (b : Rat)))
theorem ok_ratio (T : Txt K mg cs) : Cal P w K mg base 1 "ratio" (sp_ratio K cs) := by
  refine cal_okX T.d_ratio sc_ratio (fun g => rfl) (fun _ _ _ _ _ _ us hl => match us, hl with | [_, _], _ => rfl) ?_
  rintro X rfl rfl rfl rfl rfl B Bf ⟨t, b⟩ F0 H0 D E tk hp R hnx
  refine go_if (dt_eqI (de_var B (i := 1) rfl rfl (.inl rfl)) de_int) (fun hc => ?gt_1) (fun hc => ?gf_2)
  case gt_1 =>
    replace hc : b = 0 := of_decide_eq_true hc
    refine go_raise B tk T.x_ZeroBottom rfl (fun F H σ en => R.er (C := cs.ZeroBottom) ?re1 H en.gr.h)
    (case re1 => exact if_pos hc)
  case gf_2 =>
    replace hc : b ≠ 0 := of_decide_eq_false hc; have hb := hc
    refine go_then ?go_3
    refine go_set B (i := 2) (de_gcd B T.m_gcd (de_var B (i := 0) rfl rfl (.inl rfl)) (de_var B (i := 1) rfl rfl (.inl rfl)) rfl) rfl (.inl rfl) ?go_4
    refine go_if (dt_lt (de_var B (i := 1) rfl rfl (.inl rfl)) de_int) (fun hc => ?gt_5) (fun hc => ?gf_6)
    case gt_5 =>
      replace hc : b < 0 := of_decide_eq_true hc; have hl : lowC t b = -(Int.gcd t b : Int) := if_pos hc
      refine go_set B (i := 2) (de_neg (de_var B (i := 2) rfl rfl (.inl rfl))) rfl (.inl rfl) ?go_7
      refine go_then ?go_8
      refine go_if (dt_eqI (de_var B (i := 2) rfl rfl (.inl rfl)) (de_var B (i := 1) rfl rfl (.inl rfl))) (fun hc => ?gt_9) (fun hc => ?gf_10)
      case gt_9 =>
        replace hc := of_decide_eq_true hc
        refine go_ret (R.rt (ret := .val (rNum X.K ((t : Rat) / (b : Rat)))) ?ro2) (de_divG ?z3 ?d4 (de_var B (i := 0) rfl rfl (.inl rfl)) (de_var B (i := 2) rfl rfl (.inl rfl))) ?rs_11
        (case ro2 => exact if_neg hb)
        (case z3 => rw [← hl]; exact lowC_ne hb)
        (case d4 => rw [← hl]; exact Nat.lt_of_le_of_lt (lg_lowC hb) hp)
        (case rs_11 => rw [← hl]; exact sub_whole (rat_den1 hb (hl.trans hc)) (rat_num hb))
      case gf_10 =>
        replace hc := of_decide_eq_false hc
        refine go_then ?go_12
        refine go_ret (R.rt (ret := .val (rNum X.K ((t : Rat) / (b : Rat)))) ?ro5) (de_tup (da_cons (de_divG ?z6 ?d7 (de_var B (i := 0) rfl rfl (.inl rfl)) (de_var B (i := 2) rfl rfl (.inl rfl))) (da_cons (de_divG ?z8 ?d9 (de_var B (i := 1) rfl rfl (.inl rfl)) (de_var B (i := 2) rfl rfl (.inl rfl))) da_nil)) (show (2 : Nat) ≤ sizeLine by decide)) ?rs_13
        (case ro5 => exact if_neg hb)
        (case z6 => rw [← hl]; exact lowC_ne hb)
        (case d7 => rw [← hl]; exact Nat.lt_of_le_of_lt (lg_lowC hb) hp)
        (case z8 => rw [← hl]; exact lowC_ne hb)
        (case d9 => rw [← hl]; exact Nat.lt_of_le_of_lt (lg_lowC hb) hp)
        (case rs_13 => rw [← hl]; exact sub_pair (rat_denN hb (fun z => hc (hl.symm.trans z))) (rat_num hb) (rat_den hb))
    case gf_6 =>
      replace hc : ¬ b < 0 := of_decide_eq_false hc; have hl : lowC t b = (Int.gcd t b : Int) := if_neg hc
      refine go_then ?go_14
      refine go_if (dt_eqI (de_var B (i := 2) rfl rfl (.inl rfl)) (de_var B (i := 1) rfl rfl (.inl rfl))) (fun hc => ?gt_15) (fun hc => ?gf_16)
      case gt_15 =>
        replace hc := of_decide_eq_true hc
        refine go_ret (R.rt (ret := .val (rNum X.K ((t : Rat) / (b : Rat)))) ?ro10) (de_divG ?z11 ?d12 (de_var B (i := 0) rfl rfl (.inl rfl)) (de_var B (i := 2) rfl rfl (.inl rfl))) ?rs_17
        (case ro10 => exact if_neg hb)
        (case z11 => rw [← hl]; exact lowC_ne hb)
        (case d12 => rw [← hl]; exact Nat.lt_of_le_of_lt (lg_lowC hb) hp)
        (case rs_17 => rw [← hl]; exact sub_whole (rat_den1 hb (hl.trans hc)) (rat_num hb))
      case gf_16 =>
        replace hc := of_decide_eq_false hc
        refine go_then ?go_18
        refine go_ret (R.rt (ret := .val (rNum X.K ((t : Rat) / (b : Rat)))) ?ro13) (de_tup (da_cons (de_divG ?z14 ?d15 (de_var B (i := 0) rfl rfl (.inl rfl)) (de_var B (i := 2) rfl rfl (.inl rfl))) (da_cons (de_divG ?z16 ?d17 (de_var B (i := 1) rfl rfl (.inl rfl)) (de_var B (i := 2) rfl rfl (.inl rfl))) da_nil)) (show (2 : Nat) ≤ sizeLine by decide)) ?rs_19
        (case ro13 => exact if_neg hb)
        (case z14 => rw [← hl]; exact lowC_ne hb)
        (case d15 => rw [← hl]; exact Nat.lt_of_le_of_lt (lg_lowC hb) hp)
        (case z16 => rw [← hl]; exact lowC_ne hb)
        (case d17 => rw [← hl]; exact Nat.lt_of_le_of_lt (lg_lowC hb) hp)
        (case rs_19 => rw [← hl]; exact sub_pair (rat_denN hb (fun z => hc (hl.symm.trans z))) (rat_num hb) (rat_den hb))
theorem sc_is_whole : FnScope ["number"] ["number"] (defScope s_is_whole) := ⟨rfl, rfl, rfl, by decide +kernel, rfl, by decide +kernel, by decide +kernel⟩
def sp_is_whole (K : PySem.W.Frag) (cs : Cs) : Sp := Pm (ι := Rat) (fun q => True) (fun q => [rNum K q]) (fun q => .val (rBl (decide (q.den = 1))))
theorem ok_is_whole (T : Txt K mg cs) : Cal P w K mg base 1 "is_whole" (sp_is_whole K cs) := by
  refine cal_ok T.d_is_whole sc_is_whole (fun g => rfl) (fun _ _ _ _ _ _ us hl => match us, hl with | [_], _ => rfl) ?_
  rintro X rfl rfl rfl rfl rfl B Bf q F0 H0 D hp R hnx
  refine go_ret R (de_not (de_isi (T := "tuple") B T.b_isinstance rty_num kit_numT (de_var B (i := 0) rfl rfl (.inl rfl)) (de_ty B T.b_tuple (by decide +kernel) rfl) rfl)) ?rs_1
  (case rs_1 => exact Sub.of (by simp))
theorem sc_given : FnScope ["ends", "end"] ["ends"] (defScope s_given) := ⟨rfl, rfl, rfl, by decide +kernel, rfl, by decide +kernel, by decide +kernel⟩
def sp_given (K : PySem.W.Frag) (cs : Cs) : Sp := Pm (ι := List (Option Rat)) (fun os => os.length ≤ 1000) (fun os => [rLst K (os.map (rOpt K))]) (fun os => .lst ((givenQ os).map (rNum K)))
theorem ok_given (T : Txt K mg cs) : Cal P w K mg base 1 "given" (sp_given K cs) := by
  refine cal_ok T.d_given sc_given (fun g => rfl) (fun _ _ _ _ _ _ us hl => match us, hl with | [_], _ => rfl) ?_
  rintro X rfl rfl rfl rfl rfl B Bf os F0 H0 D hp R hnx
  refine go_retL R (DL.to (l' := List.map (rNum X.K) (givenQ os)) (dl_lc B [("end", 1)] (sr_listM (R := (rOpt X.K)) (none : Option Rat) (de_var B (i := 0) rfl rfl (.inl rfl))) (blkOk_by (by decide +kernel)) _ _ (fun i : Nat => rNum X.K ((os.getD i none).getD 0)) ?sz2 (by decide) (fun _ _ _ _ _ B i hi => (dg_name B (i := 1) rfl (.inl rfl))) (fun _ _ _ _ _ B i hi => (dts_one (dt_notNo (de_var B (i := 1) rfl rfl (.inl rfl))))) (fun _ _ _ _ _ B i hi hb => (de_o2n ?on1 (de_var B (i := 1) rfl rfl (.inl rfl))))) ?cl3) ?rs_1
  (case on1 => simpa using hb)
  (case sz2 => exact Nat.lt_of_le_of_lt hp (by decide))
  (case cl3 => exact given_lc)
  (case rs_1 => rfl)
theorem sc_check_lengths : FnScope ["first", "second"] ["first", "second"] (defScope s_check_lengths) := ⟨rfl, rfl, rfl, by decide +kernel, rfl, by decide +kernel, by decide +kernel⟩
def sp_check_lengths (K : PySem.W.Frag) (cs : Cs) : Sp := PmX (ι := List Rep × List Rep) (fun ⟨l, m⟩ => True) (fun ⟨l, m⟩ => [rLst K l, rLst K m]) (fun ⟨l, m⟩ => if ¬ l.length = m.length then .err cs.BadSize else .ok (.val rNon))
abbrev okr_check_lengths (K : PySem.W.Frag) : List Rep × List Rep → Ret := fun ⟨l, m⟩ => .val rNon
theorem ok_check_lengths (T : Txt K mg cs) : Cal P w K mg base 1 "check_lengths" (sp_check_lengths K cs) := by
  refine cal_okX T.d_check_lengths sc_check_lengths (fun g => rfl) (fun _ _ _ _ _ _ us hl => match us, hl with | [_, _], _ => rfl) ?_
  rintro X rfl rfl rfl rfl rfl B Bf ⟨l, m⟩ F0 H0 D E tk hp R hnx
  refine go_if (dt_neI (de_lenL B T.b_len (de_var B (i := 0) rfl rfl (.inl rfl)) rfl) (de_lenL B T.b_len (de_var B (i := 1) rfl rfl (.inl rfl)) rfl)) (fun hc => ?gt_1) (fun hc => ?gf_2)
  case gt_1 =>
    skip
    refine go_raise B tk T.x_BadSize rfl (fun F H σ en => R.er (C := cs.BadSize) ?re1 H en.gr.h)
    (case re1 => exact if_pos fun z => nd_t hc (by rw [z]))
  case gf_2 =>
    skip
    refine go_then ?go_3
    refine go_nil (fun F H σ en => (hnx σ H).symm ▸ (R.rt (ret := .val rNon) ?ro2) .non F H en.gr rfl)
    (case ro2 => exact if_neg fun z => z (by have := nd_f hc; omega))
theorem sc_top_of : FnScope ["number"] ["number"] (defScope s_top_of) := ⟨rfl, rfl, rfl, by decide +kernel, rfl, by decide +kernel, by decide +kernel⟩
def sp_top_of (K : PySem.W.Frag) (cs : Cs) : Sp := Pm (ι := Rat) (fun q => True) (fun q => [rNum K q]) (fun q => .val (rInt q.num))
theorem ok_top_of (T : Txt K mg cs) : Cal P w K mg base 2 "top_of" (sp_top_of K cs) := by
  refine cal_ok T.d_top_of sc_top_of (fun g => rfl) (fun _ _ _ _ _ _ us hl => match us, hl with | [_], _ => rfl) ?_
  rintro X rfl rfl rfl rfl rfl B Bf q F0 H0 D hp R hnx
  refine go_ret R (de_if (dt_val (CA.val (ca_call B (ok_is_whole T) (by decide) _ trivial (da_cons (de_var B (i := 0) rfl rfl (.inl rfl)) da_nil) rfl))) (fun hc => de_n2i ?n1 (de_var B (i := 0) rfl rfl (.inl rfl))) (fun hc => de_num0 ?n2 (de_var B (i := 0) rfl rfl (.inl rfl)))) ?rs_1
  (case n1 => simpa using hc)
  (case n2 => simpa using hc)
  (case rs_1 => exact Sub.rfl)
theorem sc_bottom_of : FnScope ["number"] ["number"] (defScope s_bottom_of) := ⟨rfl, rfl, rfl, by decide +kernel, rfl, by decide +kernel, by decide +kernel⟩
def sp_bottom_of (K : PySem.W.Frag) (cs : Cs) : Sp := Pm (ι := Rat) (fun q => True) (fun q => [rNum K q]) (fun q => .val (rInt (q.den : Int)))
theorem ok_bottom_of (T : Txt K mg cs) : Cal P w K mg base 2 "bottom_of" (sp_bottom_of K cs) := by
  refine cal_ok T.d_bottom_of sc_bottom_of (fun g => rfl) (fun _ _ _ _ _ _ us hl => match us, hl with | [_], _ => rfl) ?_
  rintro X rfl rfl rfl rfl rfl B Bf q F0 H0 D hp R hnx
  refine go_ret R (de_if (dt_val (CA.val (ca_call B (ok_is_whole T) (by decide) _ trivial (da_cons (de_var B (i := 0) rfl rfl (.inl rfl)) da_nil) rfl))) (fun hc => DE.to (r' := rInt (q.den : Int)) de_int ?e1) (fun hc => de_num1 ?n2 (de_var B (i := 0) rfl rfl (.inl rfl)))) ?rs_1
  (case e1 => have h : q.den = 1 := (by simpa using hc); exact congrArg rInt (by omega))
  (case n2 => simpa using hc)
  (case rs_1 => exact Sub.rfl)
theorem sc_plus : FnScope ["x", "y", "bottom"] ["x", "y"] (defScope s_plus) := ⟨rfl, rfl, rfl, by decide +kernel, rfl, by decide +kernel, by decide +kernel⟩
def sp_plus (K : PySem.W.Frag) (cs : Cs) : Sp := Pm (ι := Rat × Rat) (fun ⟨q, r⟩ => Sz 4000 q ∧ Sz 4000 r) (fun ⟨q, r⟩ => [rNum K q, rNum K r]) (fun ⟨q, r⟩ => .val (rNum K (q + r)))
theorem ok_plus (T : Txt K mg cs) : Cal P w K mg base 3 "plus" (sp_plus K cs) := by
  refine cal_ok T.d_plus sc_plus (fun g => rfl) (fun _ _ _ _ _ _ us hl => match us, hl with | [_, _], _ => rfl) ?_
  rintro X rfl rfl rfl rfl rfl B Bf ⟨q, r⟩ F0 H0 D hp R hnx
  refine go_set B (i := 2) (CA.val (ca_call B (ok_bottom_of T) (by decide) _ trivial (da_cons (de_var B (i := 1) rfl rfl (.inl rfl)) da_nil) rfl)) rfl (.inl rfl) ?go_1
  refine go_ret R (CA.val (ca_callO (okr_ratio X.K) B (ok_ratio T) (by decide) (_, _) ?c_ratio_4 ?o_ratio_5 (da_cons (de_add (de_mulG ?m1 (CA.val (ca_call B (ok_top_of T) (by decide) _ trivial (da_cons (de_var B (i := 0) rfl rfl (.inl rfl)) da_nil) rfl)) (de_var B (i := 2) rfl rfl (.inl rfl))) (de_mulG ?m2 (CA.val (ca_call B (ok_top_of T) (by decide) _ trivial (da_cons (de_var B (i := 1) rfl rfl (.inl rfl)) da_nil) rfl)) (CA.val (ca_call B (ok_bottom_of T) (by decide) _ trivial (da_cons (de_var B (i := 0) rfl rfl (.inl rfl)) da_nil) rfl)))) (da_cons (de_mulG ?m3 (CA.val (ca_call B (ok_bottom_of T) (by decide) _ trivial (da_cons (de_var B (i := 0) rfl rfl (.inl rfl)) da_nil) rfl)) (de_var B (i := 2) rfl rfl (.inl rfl))) da_nil)) rfl)) ?rs_2
  (case m1 => grind [lg_mul, lg_add, lg_sub, lg_neg, Sz])
  (case m2 => grind [lg_mul, lg_add, lg_sub, lg_neg, Sz])
  (case m3 => grind [lg_mul, lg_add, lg_sub, lg_neg, Sz])
  (case c_ratio_4 => grind [lg_mul, Sz])
  (case o_ratio_5 => exact if_neg (dd_ne q r))
  (case rs_2 => exact Sub.of (by rw [r_plus]))
theorem sc_minus : FnScope ["x", "y", "bottom"] ["x", "y"] (defScope s_minus) := ⟨rfl, rfl, rfl, by decide +kernel, rfl, by decide +kernel, by decide +kernel⟩
def sp_minus (K : PySem.W.Frag) (cs : Cs) : Sp := Pm (ι := Rat × Rat) (fun ⟨q, r⟩ => Sz 4000 q ∧ Sz 4000 r) (fun ⟨q, r⟩ => [rNum K q, rNum K r]) (fun ⟨q, r⟩ => .val (rNum K (q - r)))
theorem ok_minus (T : Txt K mg cs) : Cal P w K mg base 3 "minus" (sp_minus K cs) := by
  refine cal_ok T.d_minus sc_minus (fun g => rfl) (fun _ _ _ _ _ _ us hl => match us, hl with | [_, _], _ => rfl) ?_
  rintro X rfl rfl rfl rfl rfl B Bf ⟨q, r⟩ F0 H0 D hp R hnx
  refine go_set B (i := 2) (CA.val (ca_call B (ok_bottom_of T) (by decide) _ trivial (da_cons (de_var B (i := 1) rfl rfl (.inl rfl)) da_nil) rfl)) rfl (.inl rfl) ?go_1
  refine go_ret R (CA.val (ca_callO (okr_ratio X.K) B (ok_ratio T) (by decide) (_, _) ?c_ratio_4 ?o_ratio_5 (da_cons (de_sub (de_mulG ?m1 (CA.val (ca_call B (ok_top_of T) (by decide) _ trivial (da_cons (de_var B (i := 0) rfl rfl (.inl rfl)) da_nil) rfl)) (de_var B (i := 2) rfl rfl (.inl rfl))) (de_mulG ?m2 (CA.val (ca_call B (ok_top_of T) (by decide) _ trivial (da_cons (de_var B (i := 1) rfl rfl (.inl rfl)) da_nil) rfl)) (CA.val (ca_call B (ok_bottom_of T) (by decide) _ trivial (da_cons (de_var B (i := 0) rfl rfl (.inl rfl)) da_nil) rfl)))) (da_cons (de_mulG ?m3 (CA.val (ca_call B (ok_bottom_of T) (by decide) _ trivial (da_cons (de_var B (i := 0) rfl rfl (.inl rfl)) da_nil) rfl)) (de_var B (i := 2) rfl rfl (.inl rfl))) da_nil)) rfl)) ?rs_2
  (case m1 => grind [lg_mul, lg_add, lg_sub, lg_neg, Sz])
  (case m2 => grind [lg_mul, lg_add, lg_sub, lg_neg, Sz])
  (case m3 => grind [lg_mul, lg_add, lg_sub, lg_neg, Sz])
  (case c_ratio_4 => grind [lg_mul, Sz])
  (case o_ratio_5 => exact if_neg (dd_ne q r))
  (case rs_2 => exact Sub.of (by rw [r_minus]))
theorem sc_times : FnScope ["x", "y"] ["x", "y"] (defScope s_times) := ⟨rfl, rfl, rfl, by decide +kernel, rfl, by decide +kernel, by decide +kernel⟩
def sp_times (K : PySem.W.Frag) (cs : Cs) : Sp := Pm (ι := Rat × Rat) (fun ⟨q, r⟩ => Sz 4000 q ∧ Sz 4000 r) (fun ⟨q, r⟩ => [rNum K q, rNum K r]) (fun ⟨q, r⟩ => .val (rNum K (q * r)))
theorem ok_times (T : Txt K mg cs) : Cal P w K mg base 3 "times" (sp_times K cs) := by
  refine cal_ok T.d_times sc_times (fun g => rfl) (fun _ _ _ _ _ _ us hl => match us, hl with | [_, _], _ => rfl) ?_
  rintro X rfl rfl rfl rfl rfl B Bf ⟨q, r⟩ F0 H0 D hp R hnx
  refine go_ret R (CA.val (ca_callO (okr_ratio X.K) B (ok_ratio T) (by decide) (_, _) ?c_ratio_3 ?o_ratio_4 (da_cons (de_mulG ?m1 (CA.val (ca_call B (ok_top_of T) (by decide) _ trivial (da_cons (de_var B (i := 0) rfl rfl (.inl rfl)) da_nil) rfl)) (CA.val (ca_call B (ok_top_of T) (by decide) _ trivial (da_cons (de_var B (i := 1) rfl rfl (.inl rfl)) da_nil) rfl))) (da_cons (de_mulG ?m2 (CA.val (ca_call B (ok_bottom_of T) (by decide) _ trivial (da_cons (de_var B (i := 0) rfl rfl (.inl rfl)) da_nil) rfl)) (CA.val (ca_call B (ok_bottom_of T) (by decide) _ trivial (da_cons (de_var B (i := 1) rfl rfl (.inl rfl)) da_nil) rfl))) da_nil)) rfl)) ?rs_1
  (case m1 => grind [lg_mul, lg_add, lg_sub, lg_neg, Sz])
  (case m2 => grind [lg_mul, lg_add, lg_sub, lg_neg, Sz])
  (case c_ratio_3 => grind [lg_mul, Sz])
  (case o_ratio_4 => exact if_neg (dd_ne q r))
  (case rs_1 => exact Sub.of (by rw [r_times]))
theorem sc_less : FnScope ["x", "y"] ["x", "y"] (defScope s_less) := ⟨rfl, rfl, rfl, by decide +kernel, rfl, by decide +kernel, by decide +kernel⟩
def sp_less (K : PySem.W.Frag) (cs : Cs) : Sp := Pm (ι := Rat × Rat) (fun ⟨q, r⟩ => Sz 4000 q ∧ Sz 4000 r) (fun ⟨q, r⟩ => [rNum K q, rNum K r]) (fun ⟨q, r⟩ => .val (rBl (decide (q < r))))
theorem ok_less (T : Txt K mg cs) : Cal P w K mg base 3 "less" (sp_less K cs) := by
  refine cal_ok T.d_less sc_less (fun g => rfl) (fun _ _ _ _ _ _ us hl => match us, hl with | [_, _], _ => rfl) ?_
  rintro X rfl rfl rfl rfl rfl B Bf ⟨q, r⟩ F0 H0 D hp R hnx
  refine go_ret R (de_ltI (de_mulG ?m1 (CA.val (ca_call B (ok_top_of T) (by decide) _ trivial (da_cons (de_var B (i := 0) rfl rfl (.inl rfl)) da_nil) rfl)) (CA.val (ca_call B (ok_bottom_of T) (by decide) _ trivial (da_cons (de_var B (i := 1) rfl rfl (.inl rfl)) da_nil) rfl))) (de_mulG ?m2 (CA.val (ca_call B (ok_top_of T) (by decide) _ trivial (da_cons (de_var B (i := 1) rfl rfl (.inl rfl)) da_nil) rfl)) (CA.val (ca_call B (ok_bottom_of T) (by decide) _ trivial (da_cons (de_var B (i := 0) rfl rfl (.inl rfl)) da_nil) rfl)))) ?rs_1
  (case m1 => grind [lg_mul, lg_add, lg_sub, lg_neg, Sz])
  (case m2 => grind [lg_mul, lg_add, lg_sub, lg_neg, Sz])
  (case rs_1 => exact Sub.of (by rw [r_less]))
theorem sc_floor_of : FnScope ["number"] ["number"] (defScope s_floor_of) := ⟨rfl, rfl, rfl, by decide +kernel, rfl, by decide +kernel, by decide +kernel⟩
def sp_floor_of (K : PySem.W.Frag) (cs : Cs) : Sp := Pm (ι := Rat) (fun q => Sz 4000 q) (fun q => [rNum K q]) (fun q => .val (rInt q.floor))
theorem ok_floor_of (T : Txt K mg cs) : Cal P w K mg base 3 "floor_of" (sp_floor_of K cs) := by
  refine cal_ok T.d_floor_of sc_floor_of (fun g => rfl) (fun _ _ _ _ _ _ us hl => match us, hl with | [_], _ => rfl) ?_
  rintro X rfl rfl rfl rfl rfl B Bf q F0 H0 D hp R hnx
  refine go_ret R (de_divG ?z1 ?d2 (CA.val (ca_call B (ok_top_of T) (by decide) _ trivial (da_cons (de_var B (i := 0) rfl rfl (.inl rfl)) da_nil) rfl)) (CA.val (ca_call B (ok_bottom_of T) (by decide) _ trivial (da_cons (de_var B (i := 0) rfl rfl (.inl rfl)) da_nil) rfl))) ?rs_1
  (case z1 => exact den_neI q)
  (case d2 => grind [Sz])
  (case rs_1 => exact Sub.of (by rw [r_floor]))
theorem sc_ceiling_of : FnScope ["number"] ["number"] (defScope s_ceiling_of) := ⟨rfl, rfl, rfl, by decide +kernel, rfl, by decide +kernel, by decide +kernel⟩
def sp_ceiling_of (K : PySem.W.Frag) (cs : Cs) : Sp := Pm (ι := Rat) (fun q => Sz 4000 q) (fun q => [rNum K q]) (fun q => .val (rInt q.ceil))
theorem ok_ceiling_of (T : Txt K mg cs) : Cal P w K mg base 3 "ceiling_of" (sp_ceiling_of K cs) := by
  refine cal_ok T.d_ceiling_of sc_ceiling_of (fun g => rfl) (fun _ _ _ _ _ _ us hl => match us, hl with | [_], _ => rfl) ?_
  rintro X rfl rfl rfl rfl rfl B Bf q F0 H0 D hp R hnx
  refine go_ret R (de_neg (de_divG ?z1 ?d2 (de_neg (CA.val (ca_call B (ok_top_of T) (by decide) _ trivial (da_cons (de_var B (i := 0) rfl rfl (.inl rfl)) da_nil) rfl))) (CA.val (ca_call B (ok_bottom_of T) (by decide) _ trivial (da_cons (de_var B (i := 0) rfl rfl (.inl rfl)) da_nil) rfl)))) ?rs_1
  (case z1 => exact den_neI q)
  (case d2 => grind [Sz])
  (case rs_1 => exact Sub.of (by rw [r_ceil]))
theorem sc_least_of : FnScope ["numbers", "least", "number"] ["numbers"] (defScope s_least_of) := ⟨rfl, rfl, rfl, by decide +kernel, rfl, by decide +kernel, by decide +kernel⟩
def sp_least_of (K : PySem.W.Frag) (cs : Cs) : Sp := Pm (ι := List Rat) (fun qs => ∀ q ∈ qs, Sz 4000 q) (fun qs => [rLst K (qs.map (rNum K))]) (fun qs => .val (rOpt K (minO qs)))
theorem ok_least_of (T : Txt K mg cs) : Cal P w K mg base 4 "least_of" (sp_least_of K cs) := by
  refine cal_ok T.d_least_of sc_least_of (fun g => rfl) (fun _ _ _ _ _ _ us hl => match us, hl with | [_], _ => rfl) ?_
  rintro X rfl rfl rfl rfl rfl B Bf qs F0 H0 D hp R hnx
  refine go_set B (i := 1) (de_e2o de_non) rfl (.inl rfl) ?go_1
  refine go_forS B (fun i => [(1, .im (rOpt X.K (minO (qs.take i)))), (2, .any)]) (fun i => True) (sr_listM (R := (rNum X.K)) (0 : Rat) (de_var B (i := 0) rfl rfl (.inl rfl))) _ (fun i hi => (dg_name B (i := 2) rfl (.inl rfl))) ?h0_2 ?j0_3 (fun F1 u i hi hj => ?gb_4) (fun hj => ?ge_5)
  (case h0_2 => refine .same ?_; refine .im ?h ?_; (case h => exact Sub.rfl); refine .any ?_; exact .nil)
  (case j0_3 => trivial)
  case gb_4 =>
    refine go_if (DW.t (dw_or (dt_isNo (de_var B (i := 1) rfl rfl (.inl rfl))) (fun hb1 => (dw_or1 (dt_val (CA.val (ca_call B (ok_less T) (by decide) (_, _) ?c_less_2 (da_cons (de_var B (i := 2) rfl rfl (.inl rfl)) (da_cons (de_o2n ?on1 (de_var B (i := 1) rfl rfl (.inl rfl))) da_nil)) rfl))))))) (fun hc => ?gt_6) (fun hc => ?gf_7)
    (case on1 => assumption)
    (case c_less_2 => exact minO_sz hp hi)
    case gt_6 =>
      skip
      refine go_set B (i := 1) (de_n2o (de_var B (i := 2) rfl rfl (.inl rfl))) rfl (.inl rfl) ?go_8
      refine go_then ?go_9
      refine go_turnS ?jn_10 ?ln_11
      (case jn_10 => trivial)
      (case ln_11 => refine .same ?_; refine .im ?h ?_; (case h => first | exact Sub.of (by rw [minO_step hi, stepMin, if_pos hc]) | exact Sub.of (by rw [minO_step hi, stepMin, if_neg (by rw [hc]; exact Bool.false_ne_true)])); refine .any ?_; exact .nil)
    case gf_7 =>
      skip
      refine go_then ?go_12
      refine go_turnS ?jn_13 ?ln_14
      (case jn_13 => trivial)
      (case ln_14 => refine .same ?_; refine .im ?h ?_; (case h => first | exact Sub.of (by rw [minO_step hi, stepMin, if_pos hc]) | exact Sub.of (by rw [minO_step hi, stepMin, if_neg (by rw [hc]; exact Bool.false_ne_true)])); refine .any ?_; exact .nil)
  case ge_5 =>
    refine go_ret R (de_var B (i := 1) rfl rfl (.inl rfl)) ?rs_15
    (case rs_15 => exact Sub.of (by rw [List.take_of_length_le (Nat.le_refl _)]))
theorem sc_greatest_of : FnScope ["numbers", "greatest", "number"] ["numbers"] (defScope s_greatest_of) := ⟨rfl, rfl, rfl, by decide +kernel, rfl, by decide +kernel, by decide +kernel⟩
def sp_greatest_of (K : PySem.W.Frag) (cs : Cs) : Sp := Pm (ι := List Rat) (fun qs => ∀ q ∈ qs, Sz 4000 q) (fun qs => [rLst K (qs.map (rNum K))]) (fun qs => .val (rOpt K (maxO qs)))
theorem ok_greatest_of (T : Txt K mg cs) : Cal P w K mg base 4 "greatest_of" (sp_greatest_of K cs) := by
  refine cal_ok T.d_greatest_of sc_greatest_of (fun g => rfl) (fun _ _ _ _ _ _ us hl => match us, hl with | [_], _ => rfl) ?_
  rintro X rfl rfl rfl rfl rfl B Bf qs F0 H0 D hp R hnx
  refine go_set B (i := 1) (de_e2o de_non) rfl (.inl rfl) ?go_1
  refine go_forS B (fun i => [(1, .im (rOpt X.K (maxO (qs.take i)))), (2, .any)]) (fun i => True) (sr_listM (R := (rNum X.K)) (0 : Rat) (de_var B (i := 0) rfl rfl (.inl rfl))) _ (fun i hi => (dg_name B (i := 2) rfl (.inl rfl))) ?h0_2 ?j0_3 (fun F1 u i hi hj => ?gb_4) (fun hj => ?ge_5)
  (case h0_2 => refine .same ?_; refine .im ?h ?_; (case h => exact Sub.rfl); refine .any ?_; exact .nil)
  (case j0_3 => trivial)
  case gb_4 =>
    refine go_if (DW.t (dw_or (dt_isNo (de_var B (i := 1) rfl rfl (.inl rfl))) (fun hb1 => (dw_or1 (dt_val (CA.val (ca_call B (ok_less T) (by decide) (_, _) ?c_less_2 (da_cons (de_o2n ?on1 (de_var B (i := 1) rfl rfl (.inl rfl))) (da_cons (de_var B (i := 2) rfl rfl (.inl rfl)) da_nil)) rfl))))))) (fun hc => ?gt_6) (fun hc => ?gf_7)
    (case on1 => assumption)
    (case c_less_2 => exact maxO_sz hp hi)
    case gt_6 =>
      skip
      refine go_set B (i := 1) (de_n2o (de_var B (i := 2) rfl rfl (.inl rfl))) rfl (.inl rfl) ?go_8
      refine go_then ?go_9
      refine go_turnS ?jn_10 ?ln_11
      (case jn_10 => trivial)
      (case ln_11 => refine .same ?_; refine .im ?h ?_; (case h => first | exact Sub.of (by rw [maxO_step hi, stepMax, if_pos hc]) | exact Sub.of (by rw [maxO_step hi, stepMax, if_neg (by rw [hc]; exact Bool.false_ne_true)])); refine .any ?_; exact .nil)
    case gf_7 =>
      skip
      refine go_then ?go_12
      refine go_turnS ?jn_13 ?ln_14
      (case jn_13 => trivial)
      (case ln_14 => refine .same ?_; refine .im ?h ?_; (case h => first | exact Sub.of (by rw [maxO_step hi, stepMax, if_pos hc]) | exact Sub.of (by rw [maxO_step hi, stepMax, if_neg (by rw [hc]; exact Bool.false_ne_true)])); refine .any ?_; exact .nil)
  case ge_5 =>
    refine go_ret R (de_var B (i := 1) rfl rfl (.inl rfl)) ?rs_15
    (case rs_15 => exact Sub.of (by rw [List.take_of_length_le (Nat.le_refl _)]))
theorem sc_is_empty : FnScope ["low", "high"] ["low", "high"] (defScope s_is_empty) := ⟨rfl, rfl, rfl, by decide +kernel, rfl, by decide +kernel, by decide +kernel⟩
def sp_is_empty (K : PySem.W.Frag) (cs : Cs) : Sp := Pm (ι := Option Rat × Option Rat) (fun ⟨lo, hi⟩ => SzO lo ∧ SzO hi) (fun ⟨lo, hi⟩ => [rOpt K lo, rOpt K hi]) (fun ⟨lo, hi⟩ => .val (rBl (emptyQ lo hi)))
theorem ok_is_empty (T : Txt K mg cs) : Cal P w K mg base 4 "is_empty" (sp_is_empty K cs) := by
  refine cal_ok T.d_is_empty sc_is_empty (fun g => rfl) (fun _ _ _ _ _ _ us hl => match us, hl with | [_, _], _ => rfl) ?_
  rintro X rfl rfl rfl rfl rfl B Bf ⟨lo, hi⟩ F0 H0 D hp R hnx
  refine go_ret R (de_and (de_notNo (de_var B (i := 0) rfl rfl (.inl rfl))) (fun hb1 => (de_and (de_notNo (de_var B (i := 1) rfl rfl (.inl rfl))) (fun hb2 => (de_one (CA.val (ca_call B (ok_less T) (by decide) (_, _) ?c_less_3 (da_cons (de_o2n ?on1 (de_var B (i := 1) rfl rfl (.inl rfl))) (da_cons (de_o2n ?on2 (de_var B (i := 0) rfl rfl (.inl rfl))) da_nil)) rfl))))))) ?rs_1
  (case on1 => first | (simpa using hb1) | (simpa using hb2))
  (case on2 => first | (simpa using hb1) | (simpa using hb2))
  (case c_less_3 => exact ⟨szo_get hp.2, szo_get hp.1⟩)
  (case rs_1 => exact Sub.of (by rw [empty_is]))
theorem sc_end_toward : FnScope ["number", "low", "high"] ["number", "low", "high"] (defScope s_end_toward) := ⟨rfl, rfl, rfl, by decide +kernel, rfl, by decide +kernel, by decide +kernel⟩
def sp_end_toward (K : PySem.W.Frag) (cs : Cs) : Sp := Pm (ι := Rat × Option Rat × Option Rat) (fun ⟨q, lo, hi⟩ => Sz 2000 q) (fun ⟨q, lo, hi⟩ => [rNum K q, rOpt K lo, rOpt K hi]) (fun ⟨q, lo, hi⟩ => .val (rOpt K (towQ q lo hi)))
theorem ok_end_toward (T : Txt K mg cs) : Cal P w K mg base 4 "end_toward" (sp_end_toward K cs) := by
  refine cal_ok T.d_end_toward sc_end_toward (fun g => rfl) (fun _ _ _ _ _ _ us hl => match us, hl with | [_, _, _], _ => rfl) ?_
  rintro X rfl rfl rfl rfl rfl B Bf ⟨q, lo, hi⟩ F0 H0 D hp R hnx
  refine go_ret R (DE.to (r' := rOpt X.K (towQ q lo hi)) (de_if (dt_val (CA.val (ca_call B (ok_less T) (by decide) (_, _) ?c_less_1 (da_cons (de_i2n de_int) (da_cons (de_var B (i := 0) rfl rfl (.inl rfl)) da_nil)) rfl))) (fun hc => DE.to (r' := rOpt X.K (towQ q lo hi)) (de_var B (i := 2) rfl rfl (.inl rfl)) ?ta2) (fun hc => DE.to (r' := rOpt X.K (towQ q lo hi)) (de_var B (i := 1) rfl rfl (.inl rfl)) ?tb3)) rfl) ?rs_1
  (case c_less_1 => exact ⟨sz_zero _, hp.mono (by decide)⟩)
  (case ta2 => exact congrArg (rOpt X.K) (tow_t hc))
  (case tb3 => exact congrArg (rOpt X.K) (tow_f hc))
  (case rs_1 => exact Sub.rfl)
theorem sc_around : FnScope ["numbers", "number"] ["numbers"] (defScope s_around) := ⟨rfl, rfl, rfl, by decide +kernel, rfl, by decide +kernel, by decide +kernel⟩
def sp_around (K : PySem.W.Frag) (cs : Cs) : Sp := Pm (ι := List Rat) (fun qs => qs.length ≤ 1000 ∧ ∀ q ∈ qs, Sz 2000 q) (fun qs => [rLst K (qs.map (rNum K))]) (fun qs => .lst ((aroundQ qs).map (rRg K)))
theorem ok_around (T : Txt K mg cs) : Cal P w K mg base 4 "around" (sp_around K cs) := by
  refine cal_ok T.d_around sc_around (fun g => rfl) (fun _ _ _ _ _ _ us hl => match us, hl with | [_], _ => rfl) ?_
  rintro X rfl rfl rfl rfl rfl B Bf qs F0 H0 D hp R hnx
  refine go_retL R (DL.to (l' := List.map (rRg X.K) (aroundQ qs)) (dl_lc B [("number", 1)] (sr_listM (R := (rNum X.K)) (0 : Rat) (de_var B (i := 0) rfl rfl (.inl rfl))) (blkOk_by (by decide +kernel)) _ (fun _ => true) (fun i : Nat => rRg X.K (some (((qs.getD i 0).floor : Int) : Rat), some (((qs.getD i 0).ceil : Int) : Rat))) ?sz3 (by decide) (fun _ _ _ _ _ B i hi => (dg_name B (i := 1) rfl (.inl rfl))) (fun _ _ _ _ _ B i hi => dts_nil) (fun _ _ _ _ _ B i hi hb => (de_tup (da_cons (de_n2o (de_i2n (CA.val (ca_call B (ok_floor_of T) (by decide) _ ?c_floor_of_1 (da_cons (de_var B (i := 1) rfl rfl (.inl rfl)) da_nil) rfl)))) (da_cons (de_n2o (de_i2n (CA.val (ca_call B (ok_ceiling_of T) (by decide) _ ?c_ceiling_of_2 (da_cons (de_var B (i := 1) rfl rfl (.inl rfl)) da_nil) rfl)))) da_nil)) (show (2 : Nat) ≤ sizeLine by decide)))) ?cl4) ?rs_1
  (case c_floor_of_1 => exact (hp.2 _ (DL.getD_mem hi)).mono (by decide))
  (case c_ceiling_of_2 => exact (hp.2 _ (DL.getD_mem hi)).mono (by decide))
  (case sz3 => exact Nat.lt_of_le_of_lt hp.1 (by decide))
  (case cl4 => exact around_lc)
  (case rs_1 => rfl)
theorem sc_check_weights : FnScope ["weights", "weight"] ["weights"] (defScope s_check_weights) := ⟨rfl, rfl, rfl, by decide +kernel, rfl, by decide +kernel, by decide +kernel⟩
def sp_check_weights (K : PySem.W.Frag) (cs : Cs) : Sp := PmX (ι := List Rat) (fun ws => ∀ q ∈ ws, Sz 2000 q) (fun ws => [rLst K (ws.map (rNum K))]) (fun ws => if lowW ws = true then .err cs.BadWeight else .ok (.val rNon))
abbrev okr_check_weights (K : PySem.W.Frag) : List Rat → Ret := fun ws => .val rNon
theorem ok_check_weights (T : Txt K mg cs) : Cal P w K mg base 4 "check_weights" (sp_check_weights K cs) := by
  refine cal_okX T.d_check_weights sc_check_weights (fun g => rfl) (fun _ _ _ _ _ _ us hl => match us, hl with | [_], _ => rfl) ?_
  rintro X rfl rfl rfl rfl rfl B Bf ws F0 H0 D E tk hp R hnx
  refine go_forS B (fun i => [(1, .any)]) (fun i => ∀ j, j < i → ¬ ws.getD j 0 < 0) (sr_listM (R := (rNum X.K)) (0 : Rat) (de_var B (i := 0) rfl rfl (.inl rfl))) _ (fun i hi => (dg_name B (i := 1) rfl (.inl rfl))) ?h0_1 ?j0_2 (fun F1 u i hi hj => ?gb_3) (fun hj => ?ge_4)
  (case h0_1 => refine .same ?_; refine .any ?_; exact .nil)
  (case j0_2 => exact fun j hj => absurd hj (Nat.not_lt_zero j))
  case gb_3 =>
    refine go_if (dt_val (CA.val (ca_call B (ok_less T) (by decide) (_, _) ?c_less_1 (da_cons (de_var B (i := 1) rfl rfl (.inl rfl)) (da_cons (de_i2n de_int) da_nil)) rfl))) (fun hc => ?gt_5) (fun hc => ?gf_6)
    (case c_less_1 => exact ⟨(hp _ (DL.getD_mem hi)).mono (by decide), sz_zero _⟩)
    case gt_5 =>
      skip
      refine go_raise B tk T.x_BadWeight rfl (fun F H σ en => R.er (C := cs.BadWeight) ?re2 H en.gr.h)
      (case re2 => exact if_pos (lw_yes hi (of_decide_eq_true hc)))
    case gf_6 =>
      skip
      refine go_then ?go_7
      refine go_turnS ?jn_8 ?ln_9
      (case jn_8 => exact lw_more hj (of_decide_eq_false hc))
      (case ln_9 => refine .same ?_; refine .any ?_; exact .nil)
  case ge_4 =>
    refine go_nil (fun F H σ en => (hnx σ H).symm ▸ (R.rt (ret := .val rNon) ?ro3) .non F H en.gr rfl)
    (case ro3 => exact if_neg (lw_no hj))
theorem sc_moved : FnScope ["end", "move"] ["end", "move"] (defScope s_moved) := ⟨rfl, rfl, rfl, by decide +kernel, rfl, by decide +kernel, by decide +kernel⟩
def sp_moved (K : PySem.W.Frag) (cs : Cs) : Sp := Pm (ι := Option Rat × Rat) (fun ⟨o, m⟩ => SzO o ∧ Sz 2000 m) (fun ⟨o, m⟩ => [rOpt K o, rNum K m]) (fun ⟨o, m⟩ => .val (rOpt K (movQ o m)))
theorem ok_moved (T : Txt K mg cs) : Cal P w K mg base 4 "moved" (sp_moved K cs) := by
  refine cal_ok T.d_moved sc_moved (fun g => rfl) (fun _ _ _ _ _ _ us hl => match us, hl with | [_, _], _ => rfl) ?_
  rintro X rfl rfl rfl rfl rfl B Bf ⟨o, m⟩ F0 H0 D hp R hnx
  refine go_ret R (DE.to (r' := rOpt X.K (movQ o m)) (de_if (dt_isNo (de_var B (i := 0) rfl rfl (.inl rfl))) (fun hc => DE.to (r' := rOpt X.K (movQ o m)) (de_e2o de_non) ?ma3) (fun hc => DE.to (r' := rOpt X.K (movQ o m)) (de_n2o (CA.val (ca_call B (ok_plus T) (by decide) (_, _) ?c_plus_2 (da_cons (de_o2n ?on1 (de_var B (i := 0) rfl rfl (.inl rfl))) (da_cons (de_var B (i := 1) rfl rfl (.inl rfl)) da_nil)) rfl))) ?mb4)) rfl) ?rs_1
  (case on1 => exact hc)
  (case c_plus_2 => exact ⟨szo_get hp.1, hp.2.mono (by decide)⟩)
  (case ma3 => exact congrArg (rOpt X.K) (mov_t hc))
  (case mb4 => exact congrArg (rOpt X.K) (mov_f hc))
  (case rs_1 => exact Sub.rfl)
theorem sc_lies_within : FnScope ["number", "low", "high"] ["number", "low", "high"] (defScope s_lies_within) := ⟨rfl, rfl, rfl, by decide +kernel, rfl, by decide +kernel, by decide +kernel⟩
def sp_lies_within (K : PySem.W.Frag) (cs : Cs) : Sp := Pm (ι := Rat × Option Rat × Option Rat) (fun ⟨q, lo, hi⟩ => Sz 2000 q ∧ SzO lo ∧ SzO hi) (fun ⟨q, lo, hi⟩ => [rNum K q, rOpt K lo, rOpt K hi]) (fun ⟨q, lo, hi⟩ => .val (rBl (liesQ q lo hi)))
theorem ok_lies_within (T : Txt K mg cs) : Cal P w K mg base 5 "lies_within" (sp_lies_within K cs) := by
  refine cal_ok T.d_lies_within sc_lies_within (fun g => rfl) (fun _ _ _ _ _ _ us hl => match us, hl with | [_, _, _], _ => rfl) ?_
  rintro X rfl rfl rfl rfl rfl B Bf ⟨q, lo, hi⟩ F0 H0 D hp R hnx
  refine go_ret R (de_and (de_not (CA.val (ca_call B (ok_is_empty T) (by decide) (_, _) ?c_is_empty_1 (da_cons (de_var B (i := 1) rfl rfl (.inl rfl)) (da_cons (de_n2o (de_var B (i := 0) rfl rfl (.inl rfl))) da_nil)) rfl))) (fun hb1 => (de_one (de_not (CA.val (ca_call B (ok_is_empty T) (by decide) (_, _) ?c_is_empty_2 (da_cons (de_n2o (de_var B (i := 0) rfl rfl (.inl rfl))) (da_cons (de_var B (i := 2) rfl rfl (.inl rfl)) da_nil)) rfl)))))) ?rs_1
  (case c_is_empty_1 => first | exact ⟨hp.2.1, hp.1⟩ | exact ⟨hp.1, hp.2.2⟩)
  (case c_is_empty_2 => first | exact ⟨hp.2.1, hp.1⟩ | exact ⟨hp.1, hp.2.2⟩)
  (case rs_1 => exact Sub.rfl)
theorem sc_check_full : FnScope ["box", "cell", "low", "high"] ["box"] (defScope s_check_full) := ⟨rfl, rfl, rfl, by decide +kernel, rfl, by decide +kernel, by decide +kernel⟩
def sp_check_full (K : PySem.W.Frag) (cs : Cs) : Sp := PmX (ι := List Rg) (fun bx => ∀ p ∈ bx, SzR p) (fun bx => [rLst K (bx.map (rRg K))]) (fun bx => if (fullO bx).isSome = true then .errF cs.EmptyRange [("cell", .int (((fullO bx).getD 0 : Nat) : Int))] else .ok (.val rNon))
abbrev okr_check_full (K : PySem.W.Frag) : List Rg → Ret := fun bx => .val rNon
theorem ok_check_full (T : Txt K mg cs) : Cal P w K mg base 5 "check_full" (sp_check_full K cs) := by
  refine cal_okX T.d_check_full sc_check_full (fun g => rfl) (fun _ _ _ _ _ _ us hl => match us, hl with | [_], _ => rfl) ?_
  rintro X rfl rfl rfl rfl rfl B Bf bx F0 H0 D E tk hp R hnx
  refine go_forS B (fun i => [(1, .any), (2, .any), (3, .any)]) (fun i => ∀ j, j < i → emptyQ (bx.getD j (none, none)).1 (bx.getD j (none, none)).2 = false) (sr_enumM (R := (rRg X.K)) ((none, none) : Rg) B T.b_enumerate (de_var B (i := 0) rfl rfl (.inl rfl)) rfl) _ (fun i hi => (dg_tup B (dgs_cons (dg_name B (i := 1) rfl (.inl rfl)) (dgs_cons (dg_tup B (dgs_cons (dg_name B (i := 2) rfl (.inl rfl)) (dgs_cons (dg_name B (i := 3) rfl (.inl rfl)) dgs_nil))) dgs_nil)))) ?h0_1 ?j0_2 (fun F1 u i hi hj => ?gb_3) (fun hj => ?ge_4)
  (case h0_1 => refine .same ?_; refine .any ?_; refine .any ?_; refine .any ?_; exact .nil)
  (case j0_2 => exact fun j hj => absurd hj (Nat.not_lt_zero j))
  case gb_3 =>
    refine go_if (dt_val (CA.val (ca_call B (ok_is_empty T) (by decide) (_, _) ?c_is_empty_1 (da_cons (de_var B (i := 2) rfl rfl (.inl rfl)) (da_cons (de_var B (i := 3) rfl rfl (.inl rfl)) da_nil)) rfl))) (fun hc => ?gt_5) (fun hc => ?gf_6)
    (case c_is_empty_1 => exact hp _ (DL.getD_mem (d := ((none, none) : Rg)) hi))
    case gt_5 =>
      skip
      refine go_raiseF B (by decide) tk T.x_EmptyRange rfl (de_var B (i := 1) rfl rfl (.inl rfl)) (fun F H σ en H1 d s1 n1 z1 => R.erF (C := cs.EmptyRange) ?re2 H1 d (en.gr.h.trans s1) (en.gr.h.free n1) z1)
      (case re2 => exact full_at hi hj hc)
    case gf_6 =>
      skip
      refine go_then ?go_7
      refine go_turnS ?jn_8 ?ln_9
      (case jn_8 => exact em_more hj hc)
      (case ln_9 => refine .same ?_; refine .any ?_; refine .any ?_; refine .any ?_; exact .nil)
  case ge_4 =>
    refine go_nil (fun F H σ en => (hnx σ H).symm ▸ (R.rt (ret := .val rNon) ?ro3) .non F H en.gr rfl)
    (case ro3 => exact full_no hj)
theorem sc_tightest : FnScope ["lows", "highs"] ["lows", "highs"] (defScope s_tightest) := ⟨rfl, rfl, rfl, by decide +kernel, rfl, by decide +kernel, by decide +kernel⟩
def sp_tightest (K : PySem.W.Frag) (cs : Cs) : Sp := Pm (ι := List (Option Rat) × List (Option Rat)) (fun ⟨ls, hs⟩ => (ls.length ≤ 1000 ∧ ∀ o ∈ ls, SzO o) ∧ hs.length ≤ 1000 ∧ ∀ o ∈ hs, SzO o) (fun ⟨ls, hs⟩ => [rLst K (ls.map (rOpt K)), rLst K (hs.map (rOpt K))]) (fun ⟨ls, hs⟩ => .val (rRg K (maxO (givenQ ls), minO (givenQ hs))))
theorem ok_tightest (T : Txt K mg cs) : Cal P w K mg base 5 "tightest" (sp_tightest K cs) := by
  refine cal_ok T.d_tightest sc_tightest (fun g => rfl) (fun _ _ _ _ _ _ us hl => match us, hl with | [_, _], _ => rfl) ?_
  rintro X rfl rfl rfl rfl rfl B Bf ⟨ls, hs⟩ F0 H0 D hp R hnx
  refine go_ret R (de_tup (da_cons (CA.val (ca_call B (ok_greatest_of T) (by decide) _ ?c_greatest_of_2 (da_cons (DL.froz (CA.lst (ca_call B (ok_given T) (by decide) _ ?c_given_1 (da_cons (de_var B (i := 0) rfl rfl (.inl rfl)) da_nil) rfl))) da_nil) rfl)) (da_cons (CA.val (ca_call B (ok_least_of T) (by decide) _ ?c_least_of_4 (da_cons (DL.froz (CA.lst (ca_call B (ok_given T) (by decide) _ ?c_given_3 (da_cons (de_var B (i := 1) rfl rfl (.inl rfl)) da_nil) rfl))) da_nil) rfl)) da_nil)) (show (2 : Nat) ≤ sizeLine by decide)) ?rs_1
  (case c_given_1 => first | exact hp.1.1 | exact hp.2.1)
  (case c_greatest_of_2 => exact fun q hq => given_sz hp.1.2 q hq)
  (case c_given_3 => first | exact hp.1.1 | exact hp.2.1)
  (case c_least_of_4 => exact fun q hq => given_sz hp.2.2 q hq)
  (case rs_1 => exact Sub.rfl)
theorem sc_worth_over : FnScope ["row", "box", "total", "number", "low", "high", "end"] ["row", "box"] (defScope s_worth_over) := ⟨rfl, rfl, rfl, by decide +kernel, rfl, by decide +kernel, by decide +kernel⟩
def sp_worth_over (K : PySem.W.Frag) (cs : Cs) : Sp := Pm (ι := List Rat × List Rg) (fun ⟨xs, bx⟩ => xs.length ≤ 12 ∧ (∀ q ∈ xs, Sz 90 q) ∧ ∀ p ∈ bx, SzB p) (fun ⟨xs, bx⟩ => [rLst K (xs.map (rNum K)), rLst K (bx.map (rRg K))]) (fun ⟨xs, bx⟩ => .val (rOpt K (worthQ xs bx)))
theorem ok_worth_over (T : Txt K mg cs) : Cal P w K mg base 5 "worth_over" (sp_worth_over K cs) := by
  refine cal_ok T.d_worth_over sc_worth_over (fun g => rfl) (fun _ _ _ _ _ _ us hl => match us, hl with | [_, _], _ => rfl) ?_
  rintro X rfl rfl rfl rfl rfl B Bf ⟨xs, bx⟩ F0 H0 D hp R hnx
  refine go_set B (i := 2) (de_i2n de_int) rfl (.inl rfl) ?go_1
  refine go_forS B (fun i => [(2, .im (rNum X.K ((worthN xs bx i).getD 0))), (3, .any), (4, .any), (5, .any), (6, .any)]) (fun i => (worthN xs bx i).isSome = true) (sr_zipM (R := (rNum X.K)) (R2 := (rRg X.K)) (0 : Rat) ((none, none) : Rg) B T.b_zip (de_var B (i := 0) rfl rfl (.inl rfl)) (de_var B (i := 1) rfl rfl (.inl rfl)) rfl) _ (fun i hi => (dg_tup B (dgs_cons (dg_name B (i := 3) rfl (.inl rfl)) (dgs_cons (dg_tup B (dgs_cons (dg_name B (i := 4) rfl (.inl rfl)) (dgs_cons (dg_name B (i := 5) rfl (.inl rfl)) dgs_nil))) dgs_nil)))) ?h0_2 ?j0_3 (fun F1 u i hi hj => ?gb_4) (fun hj => ?ge_5)
  (case h0_2 => refine .same ?_; refine .same ?_; refine .im ?h ?_; (case h => exact Sub.rfl); refine .any ?_; refine .any ?_; refine .any ?_; refine .any ?_; exact .nil)
  (case j0_3 => rfl)
  case gb_4 =>
    refine go_if (dt_neN B (de_var B (i := 3) rfl rfl (.inl rfl)) (de_i2n de_int)) (fun hc => ?gt_6) (fun hc => ?gf_7)
    case gt_6 =>
      have hcn := hc
      refine go_set B (i := 6) (CA.val (ca_call B (ok_end_toward T) (by decide) (_, _, _) ?c_end_toward_1 (da_cons (de_var B (i := 3) rfl rfl (.inl rfl)) (da_cons (de_var B (i := 4) rfl rfl (.inl rfl)) (da_cons (de_var B (i := 5) rfl rfl (.inl rfl)) da_nil))) rfl)) rfl (.inl rfl) ?go_8
      (case c_end_toward_1 => exact (hp.2.1 _ (DL.getD_mem (by omega))).mono (by decide))
      refine go_if (dt_isNo (de_var B (i := 6) rfl rfl (.inl rfl))) (fun hc => ?gt_9) (fun hc => ?gf_10)
      case gt_9 =>
        have hcs := hc
        refine go_ret (u.rt R) (de_e2o de_non) ?rs_11
        (case rs_11 => exact Sub.of (congrArg (rOpt X.K) (wo_none hi (nd_t hcn) hcs).symm))
      case gf_10 =>
        have hcs := hc
        refine go_then ?go_12
        refine go_set B (i := 2) (CA.val (ca_call B (ok_plus T) (by decide) (_, _) ?c_plus_4 (da_cons (de_var B (i := 2) rfl rfl (.inl rfl)) (da_cons (CA.val (ca_call B (ok_times T) (by decide) (_, _) ?c_times_3 (da_cons (de_var B (i := 3) rfl rfl (.inl rfl)) (da_cons (de_o2n ?on2 (de_var B (i := 6) rfl rfl (.inl rfl))) da_nil)) rfl)) da_nil)) rfl)) rfl (.inl rfl) ?go_13
        (case on2 => exact hcs)
        (case c_times_3 => exact ⟨(hp.2.1 _ (DL.getD_mem (by omega))).mono (by decide), (tow_sz (hp.2.2 _ (DL.getD_mem (d := ((none, none) : Rg)) (by omega)))).mono (by decide)⟩)
        (case c_plus_4 => exact wo_sz hp.1 hp.2.1 hp.2.2 hi)
        refine go_then ?go_14
        refine go_turnS ?jn_15 ?ln_16
        (case jn_15 => first | exact (wo_add hj (nd_t hcn) hcs).1 | exact (wo_skip hj hcn).1)
        (case ln_16 => refine .same ?_; refine .same ?_; refine .im ?h ?_; (case h => first | exact Sub.of (congrArg (rNum X.K) (wo_add hj (nd_t hcn) hcs).2) | exact Sub.of (congrArg (rNum X.K) (wo_skip hj hcn).2)); refine .any ?_; refine .any ?_; refine .any ?_; refine .any ?_; exact .nil)
    case gf_7 =>
      have hcn := nd_f hc
      refine go_then ?go_17
      refine go_turnS ?jn_18 ?ln_19
      (case jn_18 => first | exact (wo_add hj (nd_t hcn) hcs).1 | exact (wo_skip hj hcn).1)
      (case ln_19 => refine .same ?_; refine .same ?_; refine .im ?h ?_; (case h => first | exact Sub.of (congrArg (rNum X.K) (wo_add hj (nd_t hcn) hcs).2) | exact Sub.of (congrArg (rNum X.K) (wo_skip hj hcn).2)); refine .any ?_; refine .any ?_; refine .any ?_; refine .any ?_; exact .nil)
  case ge_5 =>
    refine go_ret R (de_n2o (de_var B (i := 2) rfl rfl (.inl rfl))) ?rs_20
    (case rs_20 => exact Sub.of (congrArg (rOpt X.K) (wo_all hj)))
theorem sc_all_within : FnScope ["numbers", "box", "number", "low", "high"] ["numbers", "box"] (defScope s_all_within) := ⟨rfl, rfl, rfl, by decide +kernel, rfl, by decide +kernel, by decide +kernel⟩
def sp_all_within (K : PySem.W.Frag) (cs : Cs) : Sp := Pm (ι := List Rat × List Rg) (fun ⟨xs, bx⟩ => (∀ q ∈ xs, Sz 2000 q) ∧ (∀ p ∈ bx, SzR p) ∧ xs.length ≤ 1000 ∧ xs.length = bx.length) (fun ⟨xs, bx⟩ => [rLst K (xs.map (rNum K)), rLst K (bx.map (rRg K))]) (fun ⟨xs, bx⟩ => .val (rBl (withinQ xs bx)))
theorem ok_all_within (T : Txt K mg cs) : Cal P w K mg base 6 "all_within" (sp_all_within K cs) := by
  refine cal_ok T.d_all_within sc_all_within (fun g => rfl) (fun _ _ _ _ _ _ us hl => match us, hl with | [_, _], _ => rfl) ?_
  rintro X rfl rfl rfl rfl rfl B Bf ⟨xs, bx⟩ F0 H0 D hp R hnx
  refine go_ret R (de_allB B T.b_all (DL.froz (DL.to (l' := List.map rBl ((List.range (min xs.length bx.length)).map fun i => liesQ (xs.getD i 0) (bx.getD i (none, none)).1 (bx.getD i (none, none)).2)) (dl_lc B [("number", 2), ("low", 3), ("high", 4)] (sr_zipM (R := (rNum X.K)) (R2 := (rRg X.K)) (0 : Rat) ((none, none) : Rg) B T.b_zip (de_var B (i := 0) rfl rfl (.inl rfl)) (de_var B (i := 1) rfl rfl (.inl rfl)) rfl) (blkOk_by (by decide +kernel)) _ (fun _ => true) (fun i : Nat => rBl (liesQ (xs.getD i 0) (bx.getD i (none, none)).1 (bx.getD i (none, none)).2)) ?sz2 (by decide) (fun _ _ _ _ _ B i hi => (dg_tup B (dgs_cons (dg_name B (i := 2) rfl (.inl rfl)) (dgs_cons (dg_tup B (dgs_cons (dg_name B (i := 3) rfl (.inl rfl)) (dgs_cons (dg_name B (i := 4) rfl (.inl rfl)) dgs_nil))) dgs_nil)))) (fun _ _ _ _ _ B i hi => dts_nil) (fun _ _ _ _ _ B i hi hb => (CA.val (ca_call B (ok_lies_within T) (by decide) (_, _, _) ?c_lies_within_1 (da_cons (de_var B (i := 2) rfl rfl (.inl rfl)) (da_cons (de_var B (i := 3) rfl rfl (.inl rfl)) (da_cons (de_var B (i := 4) rfl rfl (.inl rfl)) da_nil))) rfl)))) ?cl3)) rfl) ?rs_1
  (case c_lies_within_1 => exact ⟨hp.1 _ (DL.getD_mem (by omega)), hp.2.1 _ (DL.getD_mem (d := ((none, none) : Rg)) (by omega))⟩)
  (case sz2 => exact Nat.lt_of_le_of_lt (Nat.le_trans (Nat.min_le_left _ _) hp.2.2.1) (by decide))
  (case cl3 => rw [lc_true, List.map_map]; rfl)
  (case rs_1 => exact Sub.of (by rw [within_is]))
theorem sc_range_in_all : FnScope ["boxes", "cell", "box"] ["boxes", "cell"] (defScope s_range_in_all) := ⟨rfl, rfl, rfl, by decide +kernel, rfl, by decide +kernel, by decide +kernel⟩
def sp_range_in_all (K : PySem.W.Frag) (cs : Cs) : Sp := Pm (ι := List (List Rg) × Nat) (fun ⟨bs, c⟩ => bs.length ≤ 1000 ∧ ∀ b ∈ bs, c < b.length ∧ ∀ p ∈ b, SzR p) (fun ⟨bs, c⟩ => [rLst K (bs.map fun l => rLst K (l.map (rRg K))), rInt (c : Int)]) (fun ⟨bs, c⟩ => .val (rRg K (allR bs c)))
theorem ok_range_in_all (T : Txt K mg cs) : Cal P w K mg base 6 "range_in_all" (sp_range_in_all K cs) := by
  refine cal_ok T.d_range_in_all sc_range_in_all (fun g => rfl) (fun _ _ _ _ _ _ us hl => match us, hl with | [_, _], _ => rfl) ?_
  rintro X rfl rfl rfl rfl rfl B Bf ⟨bs, c⟩ F0 H0 D hp R hnx
  refine go_ret R (CA.val (ca_call B (ok_tightest T) (by decide) (_, _) ?c_tightest_9 (da_cons (DL.froz (DL.to (l' := List.map (rOpt X.K) (lowsQ bs c)) (dl_lc B [("box", 2)] (sr_listM (R := (fun l => rLst X.K (List.map (rRg X.K) l))) [] (de_var B (i := 0) rfl rfl (.inl rfl))) (blkOk_by (by decide +kernel)) _ (fun _ => true) (fun i : Nat => rOpt X.K ((bs.getD i []).getD c (none, none)).1) ?sz3 (by decide) (fun _ _ _ _ _ B i hi => (dg_name B (i := 2) rfl (.inl rfl))) (fun _ _ _ _ _ B i hi => dts_nil) (fun _ _ _ _ _ B i hi hb => (de_ixT (r := rOpt X.K (Prod.fst _)) rfl (de_ixM (R := (rRg X.K)) ((none, none) : Rg) ?xl1 ?xh2 (de_var B (i := 2) rfl rfl (.inl rfl)) (de_var B (i := 1) rfl rfl (.inr (.inl rfl)))) de_int))) ?cl4)) (da_cons (DL.froz (DL.to (l' := List.map (rOpt X.K) (highsQ bs c)) (dl_lc B [("box", 2)] (sr_listM (R := (fun l => rLst X.K (List.map (rRg X.K) l))) [] (de_var B (i := 0) rfl rfl (.inl rfl))) (blkOk_by (by decide +kernel)) _ (fun _ => true) (fun i : Nat => rOpt X.K ((bs.getD i []).getD c (none, none)).2) ?sz7 (by decide) (fun _ _ _ _ _ B i hi => (dg_name B (i := 2) rfl (.inl rfl))) (fun _ _ _ _ _ B i hi => dts_nil) (fun _ _ _ _ _ B i hi hb => (de_ixT (r := rOpt X.K (Prod.snd _)) rfl (de_ixM (R := (rRg X.K)) ((none, none) : Rg) ?xl5 ?xh6 (de_var B (i := 2) rfl rfl (.inl rfl)) (de_var B (i := 1) rfl rfl (.inr (.inl rfl)))) de_int))) ?cl8)) da_nil)) rfl)) ?rs_1
  (case xl1 => omega)
  (case xh2 => exact Int.ofNat_lt.mpr (hp.2 _ (DL.getD_mem (d := []) hi)).1)
  (case sz3 => exact Nat.lt_of_le_of_lt hp.1 (by decide))
  (case cl4 => first | exact lows_lc | exact highs_lc)
  (case xl5 => omega)
  (case xh6 => exact Int.ofNat_lt.mpr (hp.2 _ (DL.getD_mem (d := []) hi)).1)
  (case sz7 => exact Nat.lt_of_le_of_lt hp.1 (by decide))
  (case cl8 => first | exact lows_lc | exact highs_lc)
  (case c_tightest_9 => exact lh_ok hp.1 hp.2)
  (case rs_1 => exact Sub.rfl)
theorem sc_widened : FnScope ["box", "weights", "width", "moves", "weight", "low", "high", "move"] ["box", "weights", "width"] (defScope s_widened) := ⟨rfl, rfl, rfl, by decide +kernel, rfl, by decide +kernel, by decide +kernel⟩
def sp_widened (K : PySem.W.Frag) (cs : Cs) : Sp := PmX (ι := List Rg × List Rat × Rat) (fun ⟨bx, ws, m⟩ => (∀ p ∈ bx, SzR p) ∧ bx.length ≤ 1000 ∧ ws.length ≤ 1000 ∧ (∀ q ∈ ws, Sz 900 q) ∧ Sz 900 m) (fun ⟨bx, ws, m⟩ => [rLst K (bx.map (rRg K)), rLst K (ws.map (rNum K)), rNum K m]) (fun ⟨bx, ws, m⟩ => if ¬ ((bx.map (rRg K)).length = (ws.map (rNum K)).length) then .err cs.BadSize else if (fullO bx).isSome = true then .errF cs.EmptyRange [("cell", .int (((fullO bx).getD 0 : Nat) : Int))] else if lowW (ws ++ [m]) = true then .err cs.BadWeight else .ok (.lst ((widQ bx ws m).map (rRg K))))
abbrev okr_widened (K : PySem.W.Frag) : List Rg × List Rat × Rat → Ret := fun ⟨bx, ws, m⟩ => .lst ((widQ bx ws m).map (rRg K))
theorem ok_widened (T : Txt K mg cs) : Cal P w K mg base 6 "widened" (sp_widened K cs) := by
  refine cal_okX T.d_widened sc_widened (fun g => rfl) (fun _ _ _ _ _ _ us hl => match us, hl with | [_, _, _], _ => rfl) ?_
  rintro X rfl rfl rfl rfl rfl B Bf ⟨bx, ws, m⟩ F0 H0 D E tk hp R hnx
  refine @go_nf _ _ _ _ _ _ [_, _, _, _, _, _, _, _] rfl ?go_1
  by_cases hz1 : ¬ ((bx.map (rRg X.K)).length = (ws.map (rNum X.K)).length)
  · refine go_exprE (ex_call B tk (ok_check_lengths T) (by decide) (_, _) trivial (if_pos hz1) (da_cons (de_var B (i := 0) rfl rfl (.inl rfl)) (da_cons (de_var B (i := 1) rfl rfl (.inl rfl)) da_nil)) rfl) (fun F H σ en H1 s1 => R.er (C := cs.BadSize) ?re1 H1 (en.gr.h.trans s1))
    (case re1 => first | exact if_pos hz1 | exact (if_neg hz1).trans (if_pos hz2) | exact (if_neg hz1).trans ((if_neg hz2).trans (if_pos hz3)))
  refine go_expr (CA.val (ca_callO (okr_check_lengths X.K) B (ok_check_lengths T) (by decide) (_, _) trivial (if_neg hz1) (da_cons (de_var B (i := 0) rfl rfl (.inl rfl)) (da_cons (de_var B (i := 1) rfl rfl (.inl rfl)) da_nil)) rfl)) ?go_2
  by_cases hz2 : (fullO bx).isSome = true
  · refine go_exprF (ex_callF B tk (ok_check_full T) (by decide) _ ?c_check_full_2 (if_pos hz2) (da_cons (de_var B (i := 0) rfl rfl (.inl rfl)) da_nil) rfl) (fun F H σ en H1 d s1 n1 z1 => R.erF (C := cs.EmptyRange) (fs := [("cell", .int (((fullO bx).getD 0 : Nat) : Int))]) ?re3 H1 d (en.gr.h.trans s1) (en.gr.h.free n1) z1)
    (case c_check_full_2 => exact hp.1)
    (case re3 => first | exact if_pos hz1 | exact (if_neg hz1).trans (if_pos hz2) | exact (if_neg hz1).trans ((if_neg hz2).trans (if_pos hz3)))
  refine go_expr (CA.val (ca_callO (okr_check_full X.K) B (ok_check_full T) (by decide) _ ?c_check_full_4 (if_neg hz2) (da_cons (de_var B (i := 0) rfl rfl (.inl rfl)) da_nil) rfl)) ?go_3
  (case c_check_full_4 => exact hp.1)
  by_cases hz3 : lowW (ws ++ [m]) = true
  · refine go_exprE (ex_call B tk (ok_check_weights T) (by decide) _ ?c_check_weights_7 (if_pos hz3) (da_cons (DL.froz (DL.to (l' := List.map (rNum X.K) (ws ++ [m])) (dl_catH ?cz5 (DL.hfz (dl_list B T.b_list (de_var B (i := 1) rfl rfl (.inl rfl)) rfl)) (DL.hfz (dl_lst (da_cons (de_var B (i := 2) rfl rfl (.inr (.inl rfl))) da_nil) (show (1 : Nat) ≤ sizeLine by decide)))) ?cl6)) da_nil) rfl) (fun F H σ en H1 s1 => R.er (C := cs.BadWeight) ?re8 H1 (en.gr.h.trans s1))
    (case cz5 => exact cw_cz hp.2.2.1)
    (case cl6 => first | exact cw_cl | exact lc_num (g := fun q => m * q) | exact wid_lc)
    (case c_check_weights_7 => exact cw_ok hp.2.2.2.1 hp.2.2.2.2)
    (case re8 => first | exact if_pos hz1 | exact (if_neg hz1).trans (if_pos hz2) | exact (if_neg hz1).trans ((if_neg hz2).trans (if_pos hz3)))
  refine go_expr (CA.val (ca_callO (okr_check_weights X.K) B (ok_check_weights T) (by decide) _ ?c_check_weights_11 (if_neg hz3) (da_cons (DL.froz (DL.to (l' := List.map (rNum X.K) (ws ++ [m])) (dl_catH ?cz9 (DL.hfz (dl_list B T.b_list (de_var B (i := 1) rfl rfl (.inl rfl)) rfl)) (DL.hfz (dl_lst (da_cons (de_var B (i := 2) rfl rfl (.inr (.inl rfl))) da_nil) (show (1 : Nat) ≤ sizeLine by decide)))) ?cl10)) da_nil) rfl)) ?go_4
  (case cz9 => exact cw_cz hp.2.2.1)
  (case cl10 => first | exact cw_cl | exact lc_num (g := fun q => m * q) | exact wid_lc)
  (case c_check_weights_11 => exact cw_ok hp.2.2.2.1 hp.2.2.2.2)
  refine go_setLc (l' := List.map (rNum X.K) (ws.map fun q => m * q)) B [("weight", 4)] (sr_listM (R := (rNum X.K)) (0 : Rat) (de_var B (i := 1) rfl rfl (.inl rfl))) (blkOk_by (by decide +kernel)) _ (fun _ => true) (fun i : Nat => rNum X.K (m * ws.getD i 0)) ?sz13 (by decide) (fun _ _ _ _ _ B i hi => (dg_name B (i := 4) rfl (.inl rfl))) (fun _ _ _ _ _ B i hi => dts_nil) (fun _ _ _ _ _ B i hi hb => (CA.val (ca_call B (ok_times T) (by decide) (_, _) ?c_times_12 (da_cons (de_var B (i := 2) rfl rfl (.inr (.inl rfl))) (da_cons (de_var B (i := 4) rfl rfl (.inl rfl)) da_nil)) rfl))) (hl := ?cl14) (iy := 3) (hNy := rfl) (hyl := rfl) (h := ?go_5) (hsw := fun env h => by cases env; subst h; with_unfolding_all rfl)
  (case c_times_12 => exact ⟨hp.2.2.2.2.mono (by decide), (hp.2.2.2.1 _ (DL.getD_mem hi)).mono (by decide)⟩)
  (case sz13 => first | exact Nat.lt_of_le_of_lt hp.2.2.1 (by decide) | exact Nat.lt_of_le_of_lt (Nat.le_trans (Nat.min_le_left _ _) hp.2.1) (by decide))
  (case cl14 => first | exact cw_cl | exact lc_num (g := fun q => m * q) | exact wid_lc)
  refine @go_nf _ _ _ _ _ _ [_, _, _, _, _, _, _, _] rfl ?go_6
  refine go_froz 3 rfl ?go_7
  refine @go_nf _ _ _ _ _ _ [_, _, _, _, _, _, _, _] rfl ?go_8
  refine go_retL (R.rt (ret := .lst ((widQ bx ws m).map (rRg X.K))) ?ro15) (DL.to (l' := List.map (rRg X.K) (widQ bx ws m)) (dl_lc B [("low", 5), ("high", 6), ("move", 7)] (sr_zipM (R := (rRg X.K)) (R2 := (rNum X.K)) ((none, none) : Rg) (0 : Rat) B T.b_zip (de_var B (i := 0) rfl rfl (.inl rfl)) (de_var B (i := 3) rfl rfl (.inl rfl)) rfl) (blkOk_by (by decide +kernel)) _ (fun _ => true) (fun i : Nat => rRg X.K (movQ (bx.getD i (none, none)).1 (0 - (ws.map fun q => m * q).getD i 0), movQ (bx.getD i (none, none)).2 ((ws.map fun q => m * q).getD i 0))) ?sz19 (by decide) (fun _ _ _ _ _ B i hi => (dg_tup B (dgs_cons (dg_tup B (dgs_cons (dg_name B (i := 5) rfl (.inl rfl)) (dgs_cons (dg_name B (i := 6) rfl (.inl rfl)) dgs_nil))) (dgs_cons (dg_name B (i := 7) rfl (.inl rfl)) dgs_nil)))) (fun _ _ _ _ _ B i hi => dts_nil) (fun _ _ _ _ _ B i hi hb => (de_tup (da_cons (CA.val (ca_call B (ok_moved T) (by decide) (_, _) ?c_moved_17 (da_cons (de_var B (i := 5) rfl rfl (.inl rfl)) (da_cons (CA.val (ca_call B (ok_minus T) (by decide) (_, _) ?c_minus_16 (da_cons (de_i2n de_int) (da_cons (de_var B (i := 7) rfl rfl (.inl rfl)) da_nil)) rfl)) da_nil)) rfl)) (da_cons (CA.val (ca_call B (ok_moved T) (by decide) (_, _) ?c_moved_18 (da_cons (de_var B (i := 6) rfl rfl (.inl rfl)) (da_cons (de_var B (i := 7) rfl rfl (.inl rfl)) da_nil)) rfl)) da_nil)) (show (2 : Nat) ≤ sizeLine by decide)))) ?cl20) ?rs_9
  (case ro15 => exact (if_neg hz1).trans ((if_neg hz2).trans (if_neg hz3)))
  (case c_minus_16 => exact ⟨sz_zero _, (mv_sz hp.2.2.2.1 hp.2.2.2.2 (by omega)).mono (by decide)⟩)
  (case c_moved_17 => first | exact ⟨(hp.1 _ (DL.getD_mem (d := ((none, none) : Rg)) (by omega))).1, mv_szn hp.2.2.2.1 hp.2.2.2.2 (by omega)⟩ | exact ⟨(hp.1 _ (DL.getD_mem (d := ((none, none) : Rg)) (by omega))).2, mv_sz hp.2.2.2.1 hp.2.2.2.2 (by omega)⟩)
  (case c_moved_18 => first | exact ⟨(hp.1 _ (DL.getD_mem (d := ((none, none) : Rg)) (by omega))).1, mv_szn hp.2.2.2.1 hp.2.2.2.2 (by omega)⟩ | exact ⟨(hp.1 _ (DL.getD_mem (d := ((none, none) : Rg)) (by omega))).2, mv_sz hp.2.2.2.1 hp.2.2.2.2 (by omega)⟩)
  (case sz19 => first | exact Nat.lt_of_le_of_lt hp.2.2.1 (by decide) | exact Nat.lt_of_le_of_lt (Nat.le_trans (Nat.min_le_left _ _) hp.2.1) (by decide))
  (case cl20 => first | exact cw_cl | exact lc_num (g := fun q => m * q) | exact wid_lc)
  (case rs_9 => rfl)
theorem sc_greatest_worth : FnScope ["row", "box"] ["row", "box"] (defScope s_greatest_worth) := ⟨rfl, rfl, rfl, by decide +kernel, rfl, by decide +kernel, by decide +kernel⟩
def sp_greatest_worth (K : PySem.W.Frag) (cs : Cs) : Sp := PmX (ι := List Rat × List Rg) (fun ⟨xs, bx⟩ => xs.length ≤ 12 ∧ (∀ q ∈ xs, Sz 90 q) ∧ ∀ p ∈ bx, SzB p) (fun ⟨xs, bx⟩ => [rLst K (xs.map (rNum K)), rLst K (bx.map (rRg K))]) (fun ⟨xs, bx⟩ => if ¬ ((xs.map (rNum K)).length = (bx.map (rRg K)).length) then .err cs.BadSize else if (fullO bx).isSome = true then .errF cs.EmptyRange [("cell", .int (((fullO bx).getD 0 : Nat) : Int))] else .ok (.val (rOpt K (worthQ xs bx))))
abbrev okr_greatest_worth (K : PySem.W.Frag) : List Rat × List Rg → Ret := fun ⟨xs, bx⟩ => .val (rOpt K (worthQ xs bx))
theorem ok_greatest_worth (T : Txt K mg cs) : Cal P w K mg base 6 "greatest_worth" (sp_greatest_worth K cs) := by
  refine cal_okX T.d_greatest_worth sc_greatest_worth (fun g => rfl) (fun _ _ _ _ _ _ us hl => match us, hl with | [_, _], _ => rfl) ?_
  rintro X rfl rfl rfl rfl rfl B Bf ⟨xs, bx⟩ F0 H0 D E tk hp R hnx
  by_cases hz1 : ¬ ((xs.map (rNum X.K)).length = (bx.map (rRg X.K)).length)
  · refine go_exprE (ex_call B tk (ok_check_lengths T) (by decide) (_, _) trivial (if_pos hz1) (da_cons (de_var B (i := 0) rfl rfl (.inl rfl)) (da_cons (de_var B (i := 1) rfl rfl (.inl rfl)) da_nil)) rfl) (fun F H σ en H1 s1 => R.er (C := cs.BadSize) ?re1 H1 (en.gr.h.trans s1))
    (case re1 => first | exact if_pos hz1 | exact (if_neg hz1).trans (if_pos hz2))
  refine go_expr (CA.val (ca_callO (okr_check_lengths X.K) B (ok_check_lengths T) (by decide) (_, _) trivial (if_neg hz1) (da_cons (de_var B (i := 0) rfl rfl (.inl rfl)) (da_cons (de_var B (i := 1) rfl rfl (.inl rfl)) da_nil)) rfl)) ?go_1
  by_cases hz2 : (fullO bx).isSome = true
  · refine go_exprF (ex_callF B tk (ok_check_full T) (by decide) _ ?c_check_full_2 (if_pos hz2) (da_cons (de_var B (i := 1) rfl rfl (.inl rfl)) da_nil) rfl) (fun F H σ en H1 d s1 n1 z1 => R.erF (C := cs.EmptyRange) (fs := [("cell", .int (((fullO bx).getD 0 : Nat) : Int))]) ?re3 H1 d (en.gr.h.trans s1) (en.gr.h.free n1) z1)
    (case c_check_full_2 => exact fun p h => szb_r (hp.2.2 p h))
    (case re3 => first | exact if_pos hz1 | exact (if_neg hz1).trans (if_pos hz2))
  refine go_expr (CA.val (ca_callO (okr_check_full X.K) B (ok_check_full T) (by decide) _ ?c_check_full_4 (if_neg hz2) (da_cons (de_var B (i := 1) rfl rfl (.inl rfl)) da_nil) rfl)) ?go_2
  (case c_check_full_4 => exact fun p h => szb_r (hp.2.2 p h))
  refine go_ret (R.rt (ret := .val (rOpt X.K (worthQ xs bx))) ?ro5) (CA.val (ca_call B (ok_worth_over T) (by decide) (_, _) ?c_worth_over_6 (da_cons (de_var B (i := 0) rfl rfl (.inl rfl)) (da_cons (de_var B (i := 1) rfl rfl (.inl rfl)) da_nil)) rfl)) ?rs_3
  (case ro5 => exact (if_neg hz1).trans (if_neg hz2))
  (case c_worth_over_6 => exact hp)
  (case rs_3 => exact Sub.rfl)
theorem sc_inside : FnScope ["box", "numbers"] ["box", "numbers"] (defScope s_inside) := ⟨rfl, rfl, rfl, by decide +kernel, rfl, by decide +kernel, by decide +kernel⟩
def sp_inside (K : PySem.W.Frag) (cs : Cs) : Sp := PmX (ι := List Rg × List Rat) (fun ⟨bx, xs⟩ => (∀ q ∈ xs, Sz 2000 q) ∧ (∀ p ∈ bx, SzR p) ∧ xs.length ≤ 1000) (fun ⟨bx, xs⟩ => [rLst K (bx.map (rRg K)), rLst K (xs.map (rNum K))]) (fun ⟨bx, xs⟩ => if ¬ ((bx.map (rRg K)).length = (xs.map (rNum K)).length) then .err cs.BadSize else if (fullO bx).isSome = true then .errF cs.EmptyRange [("cell", .int (((fullO bx).getD 0 : Nat) : Int))] else .ok (.val (rBl (withinQ xs bx))))
abbrev okr_inside (K : PySem.W.Frag) : List Rg × List Rat → Ret := fun ⟨bx, xs⟩ => .val (rBl (withinQ xs bx))
theorem ok_inside (T : Txt K mg cs) : Cal P w K mg base 7 "inside" (sp_inside K cs) := by
  refine cal_okX T.d_inside sc_inside (fun g => rfl) (fun _ _ _ _ _ _ us hl => match us, hl with | [_, _], _ => rfl) ?_
  rintro X rfl rfl rfl rfl rfl B Bf ⟨bx, xs⟩ F0 H0 D E tk hp R hnx
  by_cases hz1 : ¬ ((bx.map (rRg X.K)).length = (xs.map (rNum X.K)).length)
  · refine go_exprE (ex_call B tk (ok_check_lengths T) (by decide) (_, _) trivial (if_pos hz1) (da_cons (de_var B (i := 0) rfl rfl (.inl rfl)) (da_cons (de_var B (i := 1) rfl rfl (.inl rfl)) da_nil)) rfl) (fun F H σ en H1 s1 => R.er (C := cs.BadSize) ?re1 H1 (en.gr.h.trans s1))
    (case re1 => first | exact if_pos hz1 | exact (if_neg hz1).trans (if_pos hz2))
  refine go_expr (CA.val (ca_callO (okr_check_lengths X.K) B (ok_check_lengths T) (by decide) (_, _) trivial (if_neg hz1) (da_cons (de_var B (i := 0) rfl rfl (.inl rfl)) (da_cons (de_var B (i := 1) rfl rfl (.inl rfl)) da_nil)) rfl)) ?go_1
  by_cases hz2 : (fullO bx).isSome = true
  · refine go_exprF (ex_callF B tk (ok_check_full T) (by decide) _ ?c_check_full_2 (if_pos hz2) (da_cons (de_var B (i := 0) rfl rfl (.inl rfl)) da_nil) rfl) (fun F H σ en H1 d s1 n1 z1 => R.erF (C := cs.EmptyRange) (fs := [("cell", .int (((fullO bx).getD 0 : Nat) : Int))]) ?re3 H1 d (en.gr.h.trans s1) (en.gr.h.free n1) z1)
    (case c_check_full_2 => exact hp.2.1)
    (case re3 => first | exact if_pos hz1 | exact (if_neg hz1).trans (if_pos hz2))
  refine go_expr (CA.val (ca_callO (okr_check_full X.K) B (ok_check_full T) (by decide) _ ?c_check_full_4 (if_neg hz2) (da_cons (de_var B (i := 0) rfl rfl (.inl rfl)) da_nil) rfl)) ?go_2
  (case c_check_full_4 => exact hp.2.1)
  refine go_ret (R.rt (ret := .val (rBl (withinQ xs bx))) ?ro5) (CA.val (ca_call B (ok_all_within T) (by decide) (_, _) ?c_all_within_6 (da_cons (de_var B (i := 1) rfl rfl (.inl rfl)) (da_cons (de_var B (i := 0) rfl rfl (.inl rfl)) da_nil)) rfl)) ?rs_3
  (case ro5 => exact (if_neg hz1).trans (if_neg hz2))
  (case c_all_within_6 => exact ⟨hp.1, hp.2.1, hp.2.2, by have := Classical.not_not.mp hz1; simpa using this.symm⟩)
  (case rs_3 => exact Sub.rfl)
theorem sc_meet : FnScope ["first", "others", "boxes", "other", "met", "cell"] ((["first"] : List Str) ++ (["others"] : List Str)) (defScope s_meet) := ⟨rfl, rfl, rfl, by decide +kernel, rfl, by decide +kernel, by decide +kernel⟩
def sp_meet (K : PySem.W.Frag) (cs : Cs) : Sp := PmX (ι := List Rg × List (List Rg)) (fun ⟨b, bs⟩ => bs.length ≤ 900 ∧ b.length ≤ 1000 ∧ ∀ x ∈ b :: bs, ∀ p ∈ x, SzR p) (fun ⟨b, bs⟩ => [rLst K (b.map (rRg K))] ++ (bs.map fun l => rLst K (l.map (rRg K)))) (fun ⟨b, bs⟩ => meetO K cs.BadSize cs.EmptyRange b bs)
abbrev okr_meet (K : PySem.W.Frag) : List Rg × List (List Rg) → Ret := fun ⟨b, bs⟩ => .lst ((joinR (b :: bs) b.length).map (rRg K))
theorem ok_meet (T : Txt K mg cs) : CalR P w K mg base 7 "meet" (sp_meet K cs) := by
  refine cal_okR (ι := List Rg × List (List Rg)) (ps := ["first"]) (pv := "others") (pre := fun ⟨b, bs⟩ => bs.length ≤ 900 ∧ b.length ≤ 1000 ∧ ∀ x ∈ b :: bs, ∀ p ∈ x, SzR p) (first := fun ⟨b, bs⟩ => [rLst K (b.map (rRg K))]) (rest := fun ⟨b, bs⟩ => (bs.map fun l => rLst K (l.map (rRg K)))) T.d_meet sc_meet (fun g => rfl) (fun g hp => by obtain ⟨b, bs⟩ := g; exact mo_hz hp.1) (fun _ _ _ _ _ _ us vs hl => match us, vs, hl with | [_], [], _ => rfl | [_], _ :: _, _ => rfl) ?_
  rintro X rfl rfl rfl rfl rfl B Bf ⟨b, bs⟩ F0 H0 D E tk hp R hnx
  refine go_setL B (i := 2) (DL.to (l' := List.map (fun l => rLst X.K (List.map (rRg X.K) l)) (b :: bs)) (dl_catH ?cz1 (DL.hfz (dl_lst (da_cons (de_var B (i := 0) rfl rfl (.inl rfl)) da_nil) (show (1 : Nat) ≤ sizeLine by decide))) (DL.hfz (dl_listT B T.b_list (de_var B (i := 1) rfl rfl (.inl rfl)) rfl))) ?cl2) rfl (.inr ⟨rfl, Bf _⟩) ?go_1
  (case cz1 => exact mo_cz hp.1)
  (case cl2 => first | rfl | exact join_lc)
  refine go_froz 2 rfl ?go_2
  refine go_forS B (fun i => [(3, .any)]) (fun i => ∀ j, j < i → GoodB b ((b :: bs).getD j [])) (sr_listM (R := (fun l => rLst X.K (List.map (rRg X.K) l))) [] (de_var B (i := 2) rfl rfl (.inr (.inl rfl)))) _ (fun i hi => (dg_name B (i := 3) rfl (.inl rfl))) ?h0_3 ?j0_4 (fun F1 u i hi hj => ?gb_5) (fun hj => ?ge_6)
  (case h0_3 => refine .same ?_; refine .same ?_; refine .same ?_; refine .any ?_; refine .same ?_; refine .same ?_; exact .nil)
  (case j0_4 => exact fun j hj => absurd hj (Nat.not_lt_zero j))
  case gb_5 =>
    by_cases hz1 : ¬ ((b.map (rRg X.K)).length = (((b :: bs).getD i []).map (rRg X.K)).length)
    · refine go_exprE (ex_call B tk (ok_check_lengths T) (by decide) (_, _) trivial (if_pos hz1) (da_cons (de_var B (i := 0) rfl rfl (.inl rfl)) (da_cons (de_var B (i := 3) rfl rfl (.inl rfl)) da_nil)) rfl) (fun F H σ en H1 s1 => R.er (C := cs.BadSize) ?re3 H1 (en.gr.h.trans s1))
      (case re3 => first | exact mo_len hj hi hz1 | exact mo_full hj hi hz1 hz2 | exact mo_met hj hz1)
    refine go_expr (CA.val (ca_callO (okr_check_lengths X.K) B (ok_check_lengths T) (by decide) (_, _) trivial (if_neg hz1) (da_cons (de_var B (i := 0) rfl rfl (.inl rfl)) (da_cons (de_var B (i := 3) rfl rfl (.inl rfl)) da_nil)) rfl)) ?go_7
    by_cases hz2 : (fullO ((b :: bs).getD i [])).isSome = true
    · refine go_exprF (ex_callF B tk (ok_check_full T) (by decide) _ ?c_check_full_4 (if_pos hz2) (da_cons (de_var B (i := 3) rfl rfl (.inl rfl)) da_nil) rfl) (fun F H σ en H1 d s1 n1 z1 => R.erF (C := cs.EmptyRange) (fs := [("cell", .int (((fullO ((b :: bs).getD i [])).getD 0 : Nat) : Int))]) ?re5 H1 d (en.gr.h.trans s1) (en.gr.h.free n1) z1)
      (case c_check_full_4 => first | exact hp.2.2 _ (DL.getD_mem (d := []) hi) | exact join_sz hj hp.2.2)
      (case re5 => first | exact mo_len hj hi hz1 | exact mo_full hj hi hz1 hz2 | exact mo_met hj hz1)
    refine go_expr (CA.val (ca_callO (okr_check_full X.K) B (ok_check_full T) (by decide) _ ?c_check_full_6 (if_neg hz2) (da_cons (de_var B (i := 3) rfl rfl (.inl rfl)) da_nil) rfl)) ?go_8
    (case c_check_full_6 => first | exact hp.2.2 _ (DL.getD_mem (d := []) hi) | exact join_sz hj hp.2.2)
    refine go_turnS ?jn_9 ?ln_10
    (case jn_9 => exact mo_more hj (Classical.not_not.mp hz1) hz2)
    (case ln_10 => refine .same ?_; refine .same ?_; refine .same ?_; refine .any ?_; refine .same ?_; refine .same ?_; exact .nil)
  case ge_6 =>
    refine go_setLc (l' := List.map (rRg X.K) (joinR (b :: bs) b.length)) B [("cell", 5)] (sr_range1 B T.b_range (de_lenM B T.b_len (de_var B (i := 0) rfl rfl (.inl rfl)) rfl) rfl ?r7 ?r8) (blkOk_by (by decide +kernel)) _ (fun _ => true) (fun i : Nat => rRg X.K (allR (b :: bs) i)) ?sz10 (by decide) (fun _ _ _ _ _ B i hi => (dg_name B (i := 5) rfl (.inl rfl))) (fun _ _ _ _ _ B i hi => dts_nil) (fun _ _ _ _ _ B i hi hb => (CA.val (ca_call B (ok_range_in_all T) (by decide) (_, _) ?c_range_in_all_9 (da_cons (de_var B (i := 2) rfl rfl (.inr (.inl rfl))) (da_cons (de_var B (i := 5) rfl rfl (.inl rfl)) da_nil)) rfl))) (hl := ?cl11) (iy := 4) (hNy := rfl) (hyl := rfl) (h := ?go_11) (hsw := fun env h => by cases env; subst h; with_unfolding_all rfl)
    (case r7 => have := hp.2.1; omega)
    (case r8 => have := hp.2.1; omega)
    (case c_range_in_all_9 => exact mo_rng hp.1 hp.2.2 hj hi)
    (case sz10 => exact Nat.lt_of_le_of_lt hp.2.1 (by decide))
    (case cl11 => first | rfl | exact join_lc)
    by_cases hz1 : (fullO (joinR (b :: bs) b.length)).isSome = true
    · refine go_exprF (exf_lend 4 rfl (ex_callF B tk (ok_check_full T) (by decide) _ ?c_check_full_12 (if_pos hz1) (da_cons (de_var B (i := 4) rfl rfl (.inl rfl)) da_nil) rfl)) (fun F H σ en H1 d s1 n1 z1 => R.erF (C := cs.EmptyRange) (fs := [("cell", .int (((fullO (joinR (b :: bs) b.length)).getD 0 : Nat) : Int))]) ?re13 H1 d (en.gr.h.trans s1) (en.gr.h.free n1) z1)
      (case c_check_full_12 => first | exact hp.2.2 _ (DL.getD_mem (d := []) hi) | exact join_sz hj hp.2.2)
      (case re13 => first | exact mo_len hj hi hz1 | exact mo_full hj hi hz1 hz2 | exact mo_met hj hz1)
    refine go_expr (de_lend 4 rfl (fun _ _ _ h => h) (CA.val (ca_callO (okr_check_full X.K) B (ok_check_full T) (by decide) _ ?c_check_full_14 (if_neg hz1) (da_cons (de_var B (i := 4) rfl rfl (.inl rfl)) da_nil) rfl))) ?go_12
    (case c_check_full_14 => first | exact hp.2.2 _ (DL.getD_mem (d := []) hi) | exact join_sz hj hp.2.2)
    refine go_retV B (i := 4) (R.rt (ret := .lst ((joinR (b :: bs) b.length).map (rRg X.K))) ?ro15) rfl ?rs_13 rfl (.inl rfl)
    (case ro15 => exact mo_ok hj hz1)
    (case rs_13 => rfl)
end K17

set_option Elab.async false
set_option linter.all false
set_option maxRecDepth 100000
set_option maxHeartbeats 4000000
namespace K17
open PySem PySem.Spec PyProof.Rows L2 DL
variable {P : Program} {w : World} {K : PySem.W.Frag} {mg : Str → Option Value} {base : Heap} {cs : Cs}
theorem sc__law_kind_v_0e : FnScope ["_law_door", "_law_one", "_law_other", "_law_more", "e", "_law_kinds"] ["_law_door", "_law_one", "_law_other", "_law_more"] (defScope s__law_kind) := ⟨rfl, rfl, rfl, by decide +kernel, rfl, by decide +kernel, by decide +kernel⟩
def sp__law_kind_v_0e (K : PySem.W.Frag) (cs : Cs) : Sp := Pm (ι := List Rg × List Rat × Nat) (fun ⟨bx, xs, n⟩ => (∀ q ∈ xs, Sz 2000 q) ∧ (∀ p ∈ bx, SzR p) ∧ xs.length ≤ 1000 ∧ bx.length = xs.length ∧ fullO bx = some n) (fun ⟨bx, xs, n⟩ => [rInt 0, rLst K (bx.map (rRg K)), rLst K (xs.map (rNum K)), rNon]) (fun ⟨bx, xs, n⟩ => .val (rSI K ("empty", (n : Int))))
theorem ok__law_kind_v_0e (T : Txt K mg cs) : Cal P w K mg base 8 "_law_kind" (sp__law_kind_v_0e K cs) := by
  refine cal_okT T.d__law_kind sc__law_kind_v_0e (fun g => rfl) (fun _ _ _ _ _ _ us hl => match us, hl with | [_, _, _, _], _ => rfl) ?_
  rintro X rfl rfl rfl rfl rfl Z B Bf ⟨bx, xs, n⟩ F0 H0 D hp R hnx
  refine @go_nf _ _ _ _ _ _ [_, _, _, _, _, _] rfl ?go_1
  have BO := B
  refine go_tryR B Z (i := 4) rfl rfl rfl T.x_BookError.g (by decide) (fun pn xe B2 tk2 => ?gy_2)
  refine go_if (dt_eqI (de_var B2 (i := 0) rfl rfl (.inl rfl)) de_int) (fun hc => ?gt_3) (fun hc => ?gf_4)
  case gt_3 =>
    try (simp only [decide_eq_true_eq, decide_eq_false_iff_not, Bool.not_eq_true', Bool.not_eq_false', Bool.not_eq_true, Bool.not_eq_false] at hc)
    refine go_exprF (C := cs.EmptyRange) (fs := [("cell", .int (n : Int))]) (ex_callF B2 tk2 (ok_inside T) (by decide) (_, _) ?c_inside_1 (in_e hp.2.2.2.1 hp.2.2.2.2) (da_cons (de_var B2 (i := 1) rfl rfl (.inl rfl)) (da_cons (de_var B2 (i := 2) rfl rfl (.inl rfl)) da_nil)) rfl) (fun F H σ en H1 d s1 n1 z1 => ⟨true, (PySem.W.exm_ref T.x_BookError.bs T.x_BookError.hd T.x_BookError.ty T.s_EmptyRange_BookError), fun _ al hal oe pn2 hz hv => ?gx_5, nofun⟩)
    (case c_inside_1 => exact ⟨hp.1, hp.2.1, hp.2.2.1⟩)
    have BSu : BS (X.suite al ((al, oe) :: pn2)) _ _ := BO.su
    obtain ⟨F1, en1⟩ := en_errF (i := 4) (a := al) en s1 n1 z1
    refine go_run en1 ?go_6
    refine @go_nf _ _ _ _ _ _ [_, _, _, _, _, _] rfl ?go_7
    refine go_setLS BSu (i := 5) (dl_lst da_nil (show (0 : Nat) ≤ sizeLine by decide)) rfl (.inl rfl) ?go_8
    refine @go_nf _ _ _ _ _ _ [_, _, _, _, _, _] rfl ?go_9
    refine go_if (dt_val (de_isF BSu T.e_EmptyRange hz hv T.b_isinstance rfl (i := 4) rfl rfl (.inl rfl) (clsE_own (BSu.gl rfl) T.x_EmptyRange.g) T.k_EmptyRange_EmptyRange)) (fun hc => ?gt_10) (fun hc => ?gf_11)
    case gt_10 =>
      try (simp only [decide_eq_true_eq, decide_eq_false_iff_not, Bool.not_eq_true', Bool.not_eq_false', Bool.not_eq_true, Bool.not_eq_false] at hc)
      refine go_appendS BSu (i := 5) rfl (de_tup (da_cons de_str (da_cons (de_fldF BSu T.x_EmptyRange.xf T.x_EmptyRange.no hz hv (i := 4) rfl rfl (.inl rfl) (v := .int (n : Int)) rfl) da_nil)) (show (2 : Nat) ≤ sizeLine by decide)) ?s2 rfl (.inl rfl) ?go_12
      (case s2 => decide)
      refine @go_nf _ _ _ _ _ _ [_, _, _, _, _, _] rfl ?go_13
      refine go_then ?go_14
      refine go_if (dt_val (de_isF BSu T.e_EmptyRange hz hv T.b_isinstance rfl (i := 4) rfl rfl (.inl rfl) (clsE_own (BSu.gl rfl) T.x_BadSize.g) T.k_EmptyRange_BadSize)) (fun hc => ?gt_15) (fun hc => ?gf_16)
      case gt_15 =>
        exfalso; revert hc; simp
      case gf_16 =>
        try (simp only [decide_eq_true_eq, decide_eq_false_iff_not, Bool.not_eq_true', Bool.not_eq_false', Bool.not_eq_true, Bool.not_eq_false] at hc)
        refine go_then ?go_17
        refine go_if (dt_val (de_isF BSu T.e_EmptyRange hz hv T.b_isinstance rfl (i := 4) rfl rfl (.inl rfl) (clsE_own (BSu.gl rfl) T.x_BadWeight.g) T.k_EmptyRange_BadWeight)) (fun hc => ?gt_18) (fun hc => ?gf_19)
        case gt_18 =>
          exfalso; revert hc; simp
        case gf_19 =>
          try (simp only [decide_eq_true_eq, decide_eq_false_iff_not, Bool.not_eq_true', Bool.not_eq_false', Bool.not_eq_true, Bool.not_eq_false] at hc)
          refine go_then ?go_20
          refine go_if (DW.t (dw_or (dt_neI (de_lenOS BSu T.b_len (i := 5) rfl rfl (.inl rfl) rfl) de_int) (fun hb1 => (dw_or1 (dt_not (dt_val (de_isF BSu T.e_EmptyRange hz hv T.b_isinstance rfl (i := 4) rfl rfl (.inl rfl) (clsE_blt (BSu.gl rfl) T.b_ValueError (by decide +kernel)) T.k_EmptyRange_ValueError))))))) (fun hc => ?gt_21) (fun hc => ?gf_22)
          case gt_21 =>
            exfalso; revert hc; simp
          case gf_22 =>
            try (simp only [decide_eq_true_eq, decide_eq_false_iff_not, Bool.not_eq_true', Bool.not_eq_false', Bool.not_eq_true, Bool.not_eq_false] at hc)
            refine go_then ?go_23
            refine go_ret (RT.su R) (de_ixOMS (R := (rSI X.K)) (xs := [("empty", (n : Int))]) ((default, 0) : Str × Int) BSu (i := 5) rfl rfl (.inl rfl) ?xl3 ?xh4 de_int) ?rs_24
            (case xl3 => decide)
            (case xh4 => first | decide | (show (0 : Int) < ((1 : Nat) : Int); decide))
            (case rs_24 => exact Sub.rfl)
    case gf_11 =>
      exfalso; revert hc; simp
  case gf_4 =>
    exfalso; revert hc; simp
theorem sc__law_kind_v_0s : FnScope ["_law_door", "_law_one", "_law_other", "_law_more", "e", "_law_kinds"] ["_law_door", "_law_one", "_law_other", "_law_more"] (defScope s__law_kind) := ⟨rfl, rfl, rfl, by decide +kernel, rfl, by decide +kernel, by decide +kernel⟩
def sp__law_kind_v_0s (K : PySem.W.Frag) (cs : Cs) : Sp := Pm (ι := List Rg × List Rat) (fun ⟨bx, xs⟩ => (∀ q ∈ xs, Sz 2000 q) ∧ (∀ p ∈ bx, SzR p) ∧ xs.length ≤ 1000 ∧ ¬ bx.length = xs.length) (fun ⟨bx, xs⟩ => [rInt 0, rLst K (bx.map (rRg K)), rLst K (xs.map (rNum K)), rNon]) (fun ⟨bx, xs⟩ => .val (rSI K ("size", 0)))
theorem ok__law_kind_v_0s (T : Txt K mg cs) : Cal P w K mg base 8 "_law_kind" (sp__law_kind_v_0s K cs) := by
  refine cal_okT T.d__law_kind sc__law_kind_v_0s (fun g => rfl) (fun _ _ _ _ _ _ us hl => match us, hl with | [_, _, _, _], _ => rfl) ?_
  rintro X rfl rfl rfl rfl rfl Z B Bf ⟨bx, xs⟩ F0 H0 D hp R hnx
  refine @go_nf _ _ _ _ _ _ [_, _, _, _, _, _] rfl ?go_1
  have BO := B
  refine go_tryR B Z (i := 4) rfl rfl rfl T.x_BookError.g (by decide) (fun pn xe B2 tk2 => ?gy_2)
  refine go_if (dt_eqI (de_var B2 (i := 0) rfl rfl (.inl rfl)) de_int) (fun hc => ?gt_3) (fun hc => ?gf_4)
  case gt_3 =>
    try (simp only [decide_eq_true_eq, decide_eq_false_iff_not, Bool.not_eq_true', Bool.not_eq_false', Bool.not_eq_true, Bool.not_eq_false] at hc)
    refine go_exprE (C := cs.BadSize) (ex_call B2 tk2 (ok_inside T) (by decide) (_, _) ?c_inside_1 (in_s hp.2.2.2) (da_cons (de_var B2 (i := 1) rfl rfl (.inl rfl)) (da_cons (de_var B2 (i := 2) rfl rfl (.inl rfl)) da_nil)) rfl) (fun F H σ en H1 s1 => ⟨true, (PySem.W.exm_ref T.x_BookError.bs T.x_BookError.hd T.x_BookError.ty T.s_BadSize_BookError), fun _ al hal oe pn2 hz hv => ?gx_5, nofun⟩)
    (case c_inside_1 => exact ⟨hp.1, hp.2.1, hp.2.2.1⟩)
    have BSu : BS (X.suite al ((al, oe) :: pn2)) _ _ := BO.su
    have en1 := en_err (i := 4) (a := al) en s1
    refine go_run en1 ?go_6
    refine @go_nf _ _ _ _ _ _ [_, _, _, _, _, _] rfl ?go_7
    refine go_setLS BSu (i := 5) (dl_lst da_nil (show (0 : Nat) ≤ sizeLine by decide)) rfl (.inl rfl) ?go_8
    refine @go_nf _ _ _ _ _ _ [_, _, _, _, _, _] rfl ?go_9
    refine go_if (dt_val (de_isF BSu T.e_BadSize hz hv T.b_isinstance rfl (i := 4) rfl rfl (.inl rfl) (clsE_own (BSu.gl rfl) T.x_EmptyRange.g) T.k_BadSize_EmptyRange)) (fun hc => ?gt_10) (fun hc => ?gf_11)
    case gt_10 =>
      exfalso; revert hc; simp
    case gf_11 =>
      try (simp only [decide_eq_true_eq, decide_eq_false_iff_not, Bool.not_eq_true', Bool.not_eq_false', Bool.not_eq_true, Bool.not_eq_false] at hc)
      refine go_then ?go_12
      refine go_if (dt_val (de_isF BSu T.e_BadSize hz hv T.b_isinstance rfl (i := 4) rfl rfl (.inl rfl) (clsE_own (BSu.gl rfl) T.x_BadSize.g) T.k_BadSize_BadSize)) (fun hc => ?gt_13) (fun hc => ?gf_14)
      case gt_13 =>
        try (simp only [decide_eq_true_eq, decide_eq_false_iff_not, Bool.not_eq_true', Bool.not_eq_false', Bool.not_eq_true, Bool.not_eq_false] at hc)
        refine go_appendS BSu (i := 5) rfl (de_tup (da_cons de_str (da_cons de_int da_nil)) (show (2 : Nat) ≤ sizeLine by decide)) ?s2 rfl (.inl rfl) ?go_15
        (case s2 => decide)
        refine @go_nf _ _ _ _ _ _ [_, _, _, _, _, _] rfl ?go_16
        refine go_then ?go_17
        refine go_if (dt_val (de_isF BSu T.e_BadSize hz hv T.b_isinstance rfl (i := 4) rfl rfl (.inl rfl) (clsE_own (BSu.gl rfl) T.x_BadWeight.g) T.k_BadSize_BadWeight)) (fun hc => ?gt_18) (fun hc => ?gf_19)
        case gt_18 =>
          exfalso; revert hc; simp
        case gf_19 =>
          try (simp only [decide_eq_true_eq, decide_eq_false_iff_not, Bool.not_eq_true', Bool.not_eq_false', Bool.not_eq_true, Bool.not_eq_false] at hc)
          refine go_then ?go_20
          refine go_if (DW.t (dw_or (dt_neI (de_lenOS BSu T.b_len (i := 5) rfl rfl (.inl rfl) rfl) de_int) (fun hb1 => (dw_or1 (dt_not (dt_val (de_isF BSu T.e_BadSize hz hv T.b_isinstance rfl (i := 4) rfl rfl (.inl rfl) (clsE_blt (BSu.gl rfl) T.b_ValueError (by decide +kernel)) T.k_BadSize_ValueError))))))) (fun hc => ?gt_21) (fun hc => ?gf_22)
          case gt_21 =>
            exfalso; revert hc; simp
          case gf_22 =>
            try (simp only [decide_eq_true_eq, decide_eq_false_iff_not, Bool.not_eq_true', Bool.not_eq_false', Bool.not_eq_true, Bool.not_eq_false] at hc)
            refine go_then ?go_23
            refine go_ret (RT.su R) (de_ixOMS (R := (rSI X.K)) (xs := [("size", 0)]) ((default, 0) : Str × Int) BSu (i := 5) rfl rfl (.inl rfl) ?xl3 ?xh4 de_int) ?rs_24
            (case xl3 => decide)
            (case xh4 => first | decide | (show (0 : Int) < ((1 : Nat) : Int); decide))
            (case rs_24 => exact Sub.rfl)
      case gf_14 =>
        exfalso; revert hc; simp
  case gf_4 =>
    exfalso; revert hc; simp
theorem sc__law_kind_v_1e : FnScope ["_law_door", "_law_one", "_law_other", "_law_more", "e", "_law_kinds"] ["_law_door", "_law_one", "_law_other", "_law_more"] (defScope s__law_kind) := ⟨rfl, rfl, rfl, by decide +kernel, rfl, by decide +kernel, by decide +kernel⟩
def sp__law_kind_v_1e (K : PySem.W.Frag) (cs : Cs) : Sp := Pm (ι := List Rg × List Rg × Nat) (fun ⟨b, b2, n⟩ => ((∀ x ∈ [b, b2], ∀ p ∈ x, SzR p) ∧ b.length ≤ 1000) ∧ MeetBad b [b2] n) (fun ⟨b, b2, n⟩ => [rInt 1, rLst K (b.map (rRg K)), rLst K (b2.map (rRg K)), rNon]) (fun ⟨b, b2, n⟩ => .val (rSI K ("empty", (n : Int))))
theorem ok__law_kind_v_1e (T : Txt K mg cs) : Cal P w K mg base 8 "_law_kind" (sp__law_kind_v_1e K cs) := by
  refine cal_okT T.d__law_kind sc__law_kind_v_1e (fun g => rfl) (fun _ _ _ _ _ _ us hl => match us, hl with | [_, _, _, _], _ => rfl) ?_
  rintro X rfl rfl rfl rfl rfl Z B Bf ⟨b, b2, n⟩ F0 H0 D hp R hnx
  refine @go_nf _ _ _ _ _ _ [_, _, _, _, _, _] rfl ?go_1
  have BO := B
  refine go_tryR B Z (i := 4) rfl rfl rfl T.x_BookError.g (by decide) (fun pn xe B2 tk2 => ?gy_2)
  refine go_if (dt_eqI (de_var B2 (i := 0) rfl rfl (.inl rfl)) de_int) (fun hc => ?gt_3) (fun hc => ?gf_4)
  case gt_3 =>
    exfalso; revert hc; simp
  case gf_4 =>
    try (simp only [decide_eq_true_eq, decide_eq_false_iff_not, Bool.not_eq_true', Bool.not_eq_false', Bool.not_eq_true, Bool.not_eq_false] at hc)
    refine go_then ?go_5
    refine go_if (dt_eqI (de_var B2 (i := 0) rfl rfl (.inl rfl)) de_int) (fun hc => ?gt_6) (fun hc => ?gf_7)
    case gt_6 =>
      try (simp only [decide_eq_true_eq, decide_eq_false_iff_not, Bool.not_eq_true', Bool.not_eq_false', Bool.not_eq_true, Bool.not_eq_false] at hc)
      refine go_exprF (C := cs.EmptyRange) (fs := [("cell", .int (n : Int))]) (ex_callRF B2 tk2 (ok_meet T) (by decide) (b, [b2]) ?c_meet_1 (hp.2 _ _ _) (da_cons (de_var B2 (i := 1) rfl rfl (.inl rfl)) (da_cons (de_var B2 (i := 2) rfl rfl (.inl rfl)) da_nil)) rfl) (fun F H σ en H1 d s1 n1 z1 => ⟨true, (PySem.W.exm_ref T.x_BookError.bs T.x_BookError.hd T.x_BookError.ty T.s_EmptyRange_BookError), fun _ al hal oe pn2 hz hv => ?gx_8, nofun⟩)
      (case c_meet_1 => exact ⟨Nat.le_of_ble_eq_true rfl, hp.1.2, hp.1.1⟩)
      have BSu : BS (X.suite al ((al, oe) :: pn2)) _ _ := BO.su
      obtain ⟨F1, en1⟩ := en_errF (i := 4) (a := al) en s1 n1 z1
      refine go_run en1 ?go_9
      refine @go_nf _ _ _ _ _ _ [_, _, _, _, _, _] rfl ?go_10
      refine go_setLS BSu (i := 5) (dl_lst da_nil (show (0 : Nat) ≤ sizeLine by decide)) rfl (.inl rfl) ?go_11
      refine @go_nf _ _ _ _ _ _ [_, _, _, _, _, _] rfl ?go_12
      refine go_if (dt_val (de_isF BSu T.e_EmptyRange hz hv T.b_isinstance rfl (i := 4) rfl rfl (.inl rfl) (clsE_own (BSu.gl rfl) T.x_EmptyRange.g) T.k_EmptyRange_EmptyRange)) (fun hc => ?gt_13) (fun hc => ?gf_14)
      case gt_13 =>
        try (simp only [decide_eq_true_eq, decide_eq_false_iff_not, Bool.not_eq_true', Bool.not_eq_false', Bool.not_eq_true, Bool.not_eq_false] at hc)
        refine go_appendS BSu (i := 5) rfl (de_tup (da_cons de_str (da_cons (de_fldF BSu T.x_EmptyRange.xf T.x_EmptyRange.no hz hv (i := 4) rfl rfl (.inl rfl) (v := .int (n : Int)) rfl) da_nil)) (show (2 : Nat) ≤ sizeLine by decide)) ?s2 rfl (.inl rfl) ?go_15
        (case s2 => decide)
        refine @go_nf _ _ _ _ _ _ [_, _, _, _, _, _] rfl ?go_16
        refine go_then ?go_17
        refine go_if (dt_val (de_isF BSu T.e_EmptyRange hz hv T.b_isinstance rfl (i := 4) rfl rfl (.inl rfl) (clsE_own (BSu.gl rfl) T.x_BadSize.g) T.k_EmptyRange_BadSize)) (fun hc => ?gt_18) (fun hc => ?gf_19)
        case gt_18 =>
          exfalso; revert hc; simp
        case gf_19 =>
          try (simp only [decide_eq_true_eq, decide_eq_false_iff_not, Bool.not_eq_true', Bool.not_eq_false', Bool.not_eq_true, Bool.not_eq_false] at hc)
          refine go_then ?go_20
          refine go_if (dt_val (de_isF BSu T.e_EmptyRange hz hv T.b_isinstance rfl (i := 4) rfl rfl (.inl rfl) (clsE_own (BSu.gl rfl) T.x_BadWeight.g) T.k_EmptyRange_BadWeight)) (fun hc => ?gt_21) (fun hc => ?gf_22)
          case gt_21 =>
            exfalso; revert hc; simp
          case gf_22 =>
            try (simp only [decide_eq_true_eq, decide_eq_false_iff_not, Bool.not_eq_true', Bool.not_eq_false', Bool.not_eq_true, Bool.not_eq_false] at hc)
            refine go_then ?go_23
            refine go_if (DW.t (dw_or (dt_neI (de_lenOS BSu T.b_len (i := 5) rfl rfl (.inl rfl) rfl) de_int) (fun hb1 => (dw_or1 (dt_not (dt_val (de_isF BSu T.e_EmptyRange hz hv T.b_isinstance rfl (i := 4) rfl rfl (.inl rfl) (clsE_blt (BSu.gl rfl) T.b_ValueError (by decide +kernel)) T.k_EmptyRange_ValueError))))))) (fun hc => ?gt_24) (fun hc => ?gf_25)
            case gt_24 =>
              exfalso; revert hc; simp
            case gf_25 =>
              try (simp only [decide_eq_true_eq, decide_eq_false_iff_not, Bool.not_eq_true', Bool.not_eq_false', Bool.not_eq_true, Bool.not_eq_false] at hc)
              refine go_then ?go_26
              refine go_ret (RT.su R) (de_ixOMS (R := (rSI X.K)) (xs := [("empty", (n : Int))]) ((default, 0) : Str × Int) BSu (i := 5) rfl rfl (.inl rfl) ?xl3 ?xh4 de_int) ?rs_27
              (case xl3 => decide)
              (case xh4 => first | decide | (show (0 : Int) < ((1 : Nat) : Int); decide))
              (case rs_27 => exact Sub.rfl)
      case gf_14 =>
        exfalso; revert hc; simp
    case gf_7 =>
      exfalso; revert hc; simp
theorem sc__law_kind_v_1s : FnScope ["_law_door", "_law_one", "_law_other", "_law_more", "e", "_law_kinds"] ["_law_door", "_law_one", "_law_other", "_law_more"] (defScope s__law_kind) := ⟨rfl, rfl, rfl, by decide +kernel, rfl, by decide +kernel, by decide +kernel⟩
def sp__law_kind_v_1s (K : PySem.W.Frag) (cs : Cs) : Sp := Pm (ι := List Rg × List Rg) (fun ⟨b, b2⟩ => ((∀ x ∈ [b, b2], ∀ p ∈ x, SzR p) ∧ b.length ≤ 1000) ∧ MeetSize b [b2]) (fun ⟨b, b2⟩ => [rInt 1, rLst K (b.map (rRg K)), rLst K (b2.map (rRg K)), rNon]) (fun ⟨b, b2⟩ => .val (rSI K ("size", 0)))
theorem ok__law_kind_v_1s (T : Txt K mg cs) : Cal P w K mg base 8 "_law_kind" (sp__law_kind_v_1s K cs) := by
  refine cal_okT T.d__law_kind sc__law_kind_v_1s (fun g => rfl) (fun _ _ _ _ _ _ us hl => match us, hl with | [_, _, _, _], _ => rfl) ?_
  rintro X rfl rfl rfl rfl rfl Z B Bf ⟨b, b2⟩ F0 H0 D hp R hnx
  refine @go_nf _ _ _ _ _ _ [_, _, _, _, _, _] rfl ?go_1
  have BO := B
  refine go_tryR B Z (i := 4) rfl rfl rfl T.x_BookError.g (by decide) (fun pn xe B2 tk2 => ?gy_2)
  refine go_if (dt_eqI (de_var B2 (i := 0) rfl rfl (.inl rfl)) de_int) (fun hc => ?gt_3) (fun hc => ?gf_4)
  case gt_3 =>
    exfalso; revert hc; simp
  case gf_4 =>
    try (simp only [decide_eq_true_eq, decide_eq_false_iff_not, Bool.not_eq_true', Bool.not_eq_false', Bool.not_eq_true, Bool.not_eq_false] at hc)
    refine go_then ?go_5
    refine go_if (dt_eqI (de_var B2 (i := 0) rfl rfl (.inl rfl)) de_int) (fun hc => ?gt_6) (fun hc => ?gf_7)
    case gt_6 =>
      try (simp only [decide_eq_true_eq, decide_eq_false_iff_not, Bool.not_eq_true', Bool.not_eq_false', Bool.not_eq_true, Bool.not_eq_false] at hc)
      refine go_exprE (C := cs.BadSize) (ex_callR B2 tk2 (ok_meet T) (by decide) (b, [b2]) ?c_meet_1 (hp.2 _ _ _) (da_cons (de_var B2 (i := 1) rfl rfl (.inl rfl)) (da_cons (de_var B2 (i := 2) rfl rfl (.inl rfl)) da_nil)) rfl) (fun F H σ en H1 s1 => ⟨true, (PySem.W.exm_ref T.x_BookError.bs T.x_BookError.hd T.x_BookError.ty T.s_BadSize_BookError), fun _ al hal oe pn2 hz hv => ?gx_8, nofun⟩)
      (case c_meet_1 => exact ⟨Nat.le_of_ble_eq_true rfl, hp.1.2, hp.1.1⟩)
      have BSu : BS (X.suite al ((al, oe) :: pn2)) _ _ := BO.su
      have en1 := en_err (i := 4) (a := al) en s1
      refine go_run en1 ?go_9
      refine @go_nf _ _ _ _ _ _ [_, _, _, _, _, _] rfl ?go_10
      refine go_setLS BSu (i := 5) (dl_lst da_nil (show (0 : Nat) ≤ sizeLine by decide)) rfl (.inl rfl) ?go_11
      refine @go_nf _ _ _ _ _ _ [_, _, _, _, _, _] rfl ?go_12
      refine go_if (dt_val (de_isF BSu T.e_BadSize hz hv T.b_isinstance rfl (i := 4) rfl rfl (.inl rfl) (clsE_own (BSu.gl rfl) T.x_EmptyRange.g) T.k_BadSize_EmptyRange)) (fun hc => ?gt_13) (fun hc => ?gf_14)
      case gt_13 =>
        exfalso; revert hc; simp
      case gf_14 =>
        try (simp only [decide_eq_true_eq, decide_eq_false_iff_not, Bool.not_eq_true', Bool.not_eq_false', Bool.not_eq_true, Bool.not_eq_false] at hc)
        refine go_then ?go_15
        refine go_if (dt_val (de_isF BSu T.e_BadSize hz hv T.b_isinstance rfl (i := 4) rfl rfl (.inl rfl) (clsE_own (BSu.gl rfl) T.x_BadSize.g) T.k_BadSize_BadSize)) (fun hc => ?gt_16) (fun hc => ?gf_17)
        case gt_16 =>
          try (simp only [decide_eq_true_eq, decide_eq_false_iff_not, Bool.not_eq_true', Bool.not_eq_false', Bool.not_eq_true, Bool.not_eq_false] at hc)
          refine go_appendS BSu (i := 5) rfl (de_tup (da_cons de_str (da_cons de_int da_nil)) (show (2 : Nat) ≤ sizeLine by decide)) ?s2 rfl (.inl rfl) ?go_18
          (case s2 => decide)
          refine @go_nf _ _ _ _ _ _ [_, _, _, _, _, _] rfl ?go_19
          refine go_then ?go_20
          refine go_if (dt_val (de_isF BSu T.e_BadSize hz hv T.b_isinstance rfl (i := 4) rfl rfl (.inl rfl) (clsE_own (BSu.gl rfl) T.x_BadWeight.g) T.k_BadSize_BadWeight)) (fun hc => ?gt_21) (fun hc => ?gf_22)
          case gt_21 =>
            exfalso; revert hc; simp
          case gf_22 =>
            try (simp only [decide_eq_true_eq, decide_eq_false_iff_not, Bool.not_eq_true', Bool.not_eq_false', Bool.not_eq_true, Bool.not_eq_false] at hc)
            refine go_then ?go_23
            refine go_if (DW.t (dw_or (dt_neI (de_lenOS BSu T.b_len (i := 5) rfl rfl (.inl rfl) rfl) de_int) (fun hb1 => (dw_or1 (dt_not (dt_val (de_isF BSu T.e_BadSize hz hv T.b_isinstance rfl (i := 4) rfl rfl (.inl rfl) (clsE_blt (BSu.gl rfl) T.b_ValueError (by decide +kernel)) T.k_BadSize_ValueError))))))) (fun hc => ?gt_24) (fun hc => ?gf_25)
            case gt_24 =>
              exfalso; revert hc; simp
            case gf_25 =>
              try (simp only [decide_eq_true_eq, decide_eq_false_iff_not, Bool.not_eq_true', Bool.not_eq_false', Bool.not_eq_true, Bool.not_eq_false] at hc)
              refine go_then ?go_26
              refine go_ret (RT.su R) (de_ixOMS (R := (rSI X.K)) (xs := [("size", 0)]) ((default, 0) : Str × Int) BSu (i := 5) rfl rfl (.inl rfl) ?xl3 ?xh4 de_int) ?rs_27
              (case xl3 => decide)
              (case xh4 => first | decide | (show (0 : Int) < ((1 : Nat) : Int); decide))
              (case rs_27 => exact Sub.rfl)
        case gf_17 =>
          exfalso; revert hc; simp
    case gf_7 =>
      exfalso; revert hc; simp
theorem sc__law_kind_v_2e : FnScope ["_law_door", "_law_one", "_law_other", "_law_more", "e", "_law_kinds"] ["_law_door", "_law_one", "_law_other", "_law_more"] (defScope s__law_kind) := ⟨rfl, rfl, rfl, by decide +kernel, rfl, by decide +kernel, by decide +kernel⟩
def sp__law_kind_v_2e (K : PySem.W.Frag) (cs : Cs) : Sp := Pm (ι := List Rg × List Rg × List Rg × Nat) (fun ⟨b, b2, b3, n⟩ => ((∀ x ∈ [b, b2, b3], ∀ p ∈ x, SzR p) ∧ b.length ≤ 1000) ∧ MeetBad b [b2, b3] n) (fun ⟨b, b2, b3, n⟩ => [rInt 2, rLst K (b.map (rRg K)), rLst K (b2.map (rRg K)), rLst K (b3.map (rRg K))]) (fun ⟨b, b2, b3, n⟩ => .val (rSI K ("empty", (n : Int))))
theorem ok__law_kind_v_2e (T : Txt K mg cs) : Cal P w K mg base 8 "_law_kind" (sp__law_kind_v_2e K cs) := by
  refine cal_okT T.d__law_kind sc__law_kind_v_2e (fun g => rfl) (fun _ _ _ _ _ _ us hl => match us, hl with | [_, _, _, _], _ => rfl) ?_
  rintro X rfl rfl rfl rfl rfl Z B Bf ⟨b, b2, b3, n⟩ F0 H0 D hp R hnx
  refine @go_nf _ _ _ _ _ _ [_, _, _, _, _, _] rfl ?go_1
  have BO := B
  refine go_tryR B Z (i := 4) rfl rfl rfl T.x_BookError.g (by decide) (fun pn xe B2 tk2 => ?gy_2)
  refine go_if (dt_eqI (de_var B2 (i := 0) rfl rfl (.inl rfl)) de_int) (fun hc => ?gt_3) (fun hc => ?gf_4)
  case gt_3 =>
    exfalso; revert hc; simp
  case gf_4 =>
    try (simp only [decide_eq_true_eq, decide_eq_false_iff_not, Bool.not_eq_true', Bool.not_eq_false', Bool.not_eq_true, Bool.not_eq_false] at hc)
    refine go_then ?go_5
    refine go_if (dt_eqI (de_var B2 (i := 0) rfl rfl (.inl rfl)) de_int) (fun hc => ?gt_6) (fun hc => ?gf_7)
    case gt_6 =>
      exfalso; revert hc; simp
    case gf_7 =>
      try (simp only [decide_eq_true_eq, decide_eq_false_iff_not, Bool.not_eq_true', Bool.not_eq_false', Bool.not_eq_true, Bool.not_eq_false] at hc)
      refine go_then ?go_8
      refine go_if (dt_eqI (de_var B2 (i := 0) rfl rfl (.inl rfl)) de_int) (fun hc => ?gt_9) (fun hc => ?gf_10)
      case gt_9 =>
        try (simp only [decide_eq_true_eq, decide_eq_false_iff_not, Bool.not_eq_true', Bool.not_eq_false', Bool.not_eq_true, Bool.not_eq_false] at hc)
        refine go_exprF (C := cs.EmptyRange) (fs := [("cell", .int (n : Int))]) (ex_callRF B2 tk2 (ok_meet T) (by decide) (b, [b2, b3]) ?c_meet_1 (hp.2 _ _ _) (da_cons (de_var B2 (i := 1) rfl rfl (.inl rfl)) (da_cons (de_var B2 (i := 2) rfl rfl (.inl rfl)) (da_cons (de_var B2 (i := 3) rfl rfl (.inl rfl)) da_nil))) rfl) (fun F H σ en H1 d s1 n1 z1 => ⟨true, (PySem.W.exm_ref T.x_BookError.bs T.x_BookError.hd T.x_BookError.ty T.s_EmptyRange_BookError), fun _ al hal oe pn2 hz hv => ?gx_11, nofun⟩)
        (case c_meet_1 => exact ⟨Nat.le_of_ble_eq_true rfl, hp.1.2, hp.1.1⟩)
        have BSu : BS (X.suite al ((al, oe) :: pn2)) _ _ := BO.su
        obtain ⟨F1, en1⟩ := en_errF (i := 4) (a := al) en s1 n1 z1
        refine go_run en1 ?go_12
        refine @go_nf _ _ _ _ _ _ [_, _, _, _, _, _] rfl ?go_13
        refine go_setLS BSu (i := 5) (dl_lst da_nil (show (0 : Nat) ≤ sizeLine by decide)) rfl (.inl rfl) ?go_14
        refine @go_nf _ _ _ _ _ _ [_, _, _, _, _, _] rfl ?go_15
        refine go_if (dt_val (de_isF BSu T.e_EmptyRange hz hv T.b_isinstance rfl (i := 4) rfl rfl (.inl rfl) (clsE_own (BSu.gl rfl) T.x_EmptyRange.g) T.k_EmptyRange_EmptyRange)) (fun hc => ?gt_16) (fun hc => ?gf_17)
        case gt_16 =>
          try (simp only [decide_eq_true_eq, decide_eq_false_iff_not, Bool.not_eq_true', Bool.not_eq_false', Bool.not_eq_true, Bool.not_eq_false] at hc)
          refine go_appendS BSu (i := 5) rfl (de_tup (da_cons de_str (da_cons (de_fldF BSu T.x_EmptyRange.xf T.x_EmptyRange.no hz hv (i := 4) rfl rfl (.inl rfl) (v := .int (n : Int)) rfl) da_nil)) (show (2 : Nat) ≤ sizeLine by decide)) ?s2 rfl (.inl rfl) ?go_18
          (case s2 => decide)
          refine @go_nf _ _ _ _ _ _ [_, _, _, _, _, _] rfl ?go_19
          refine go_then ?go_20
          refine go_if (dt_val (de_isF BSu T.e_EmptyRange hz hv T.b_isinstance rfl (i := 4) rfl rfl (.inl rfl) (clsE_own (BSu.gl rfl) T.x_BadSize.g) T.k_EmptyRange_BadSize)) (fun hc => ?gt_21) (fun hc => ?gf_22)
          case gt_21 =>
            exfalso; revert hc; simp
          case gf_22 =>
            try (simp only [decide_eq_true_eq, decide_eq_false_iff_not, Bool.not_eq_true', Bool.not_eq_false', Bool.not_eq_true, Bool.not_eq_false] at hc)
            refine go_then ?go_23
            refine go_if (dt_val (de_isF BSu T.e_EmptyRange hz hv T.b_isinstance rfl (i := 4) rfl rfl (.inl rfl) (clsE_own (BSu.gl rfl) T.x_BadWeight.g) T.k_EmptyRange_BadWeight)) (fun hc => ?gt_24) (fun hc => ?gf_25)
            case gt_24 =>
              exfalso; revert hc; simp
            case gf_25 =>
              try (simp only [decide_eq_true_eq, decide_eq_false_iff_not, Bool.not_eq_true', Bool.not_eq_false', Bool.not_eq_true, Bool.not_eq_false] at hc)
              refine go_then ?go_26
              refine go_if (DW.t (dw_or (dt_neI (de_lenOS BSu T.b_len (i := 5) rfl rfl (.inl rfl) rfl) de_int) (fun hb1 => (dw_or1 (dt_not (dt_val (de_isF BSu T.e_EmptyRange hz hv T.b_isinstance rfl (i := 4) rfl rfl (.inl rfl) (clsE_blt (BSu.gl rfl) T.b_ValueError (by decide +kernel)) T.k_EmptyRange_ValueError))))))) (fun hc => ?gt_27) (fun hc => ?gf_28)
              case gt_27 =>
                exfalso; revert hc; simp
              case gf_28 =>
                try (simp only [decide_eq_true_eq, decide_eq_false_iff_not, Bool.not_eq_true', Bool.not_eq_false', Bool.not_eq_true, Bool.not_eq_false] at hc)
                refine go_then ?go_29
                refine go_ret (RT.su R) (de_ixOMS (R := (rSI X.K)) (xs := [("empty", (n : Int))]) ((default, 0) : Str × Int) BSu (i := 5) rfl rfl (.inl rfl) ?xl3 ?xh4 de_int) ?rs_30
                (case xl3 => decide)
                (case xh4 => first | decide | (show (0 : Int) < ((1 : Nat) : Int); decide))
                (case rs_30 => exact Sub.rfl)
        case gf_17 =>
          exfalso; revert hc; simp
      case gf_10 =>
        exfalso; revert hc; simp
theorem sc__law_kind_v_2s : FnScope ["_law_door", "_law_one", "_law_other", "_law_more", "e", "_law_kinds"] ["_law_door", "_law_one", "_law_other", "_law_more"] (defScope s__law_kind) := ⟨rfl, rfl, rfl, by decide +kernel, rfl, by decide +kernel, by decide +kernel⟩
def sp__law_kind_v_2s (K : PySem.W.Frag) (cs : Cs) : Sp := Pm (ι := List Rg × List Rg × List Rg) (fun ⟨b, b2, b3⟩ => ((∀ x ∈ [b, b2, b3], ∀ p ∈ x, SzR p) ∧ b.length ≤ 1000) ∧ MeetSize b [b2, b3]) (fun ⟨b, b2, b3⟩ => [rInt 2, rLst K (b.map (rRg K)), rLst K (b2.map (rRg K)), rLst K (b3.map (rRg K))]) (fun ⟨b, b2, b3⟩ => .val (rSI K ("size", 0)))
theorem ok__law_kind_v_2s (T : Txt K mg cs) : Cal P w K mg base 8 "_law_kind" (sp__law_kind_v_2s K cs) := by
  refine cal_okT T.d__law_kind sc__law_kind_v_2s (fun g => rfl) (fun _ _ _ _ _ _ us hl => match us, hl with | [_, _, _, _], _ => rfl) ?_
  rintro X rfl rfl rfl rfl rfl Z B Bf ⟨b, b2, b3⟩ F0 H0 D hp R hnx
  refine @go_nf _ _ _ _ _ _ [_, _, _, _, _, _] rfl ?go_1
  have BO := B
  refine go_tryR B Z (i := 4) rfl rfl rfl T.x_BookError.g (by decide) (fun pn xe B2 tk2 => ?gy_2)
  refine go_if (dt_eqI (de_var B2 (i := 0) rfl rfl (.inl rfl)) de_int) (fun hc => ?gt_3) (fun hc => ?gf_4)
  case gt_3 =>
    exfalso; revert hc; simp
  case gf_4 =>
    try (simp only [decide_eq_true_eq, decide_eq_false_iff_not, Bool.not_eq_true', Bool.not_eq_false', Bool.not_eq_true, Bool.not_eq_false] at hc)
    refine go_then ?go_5
    refine go_if (dt_eqI (de_var B2 (i := 0) rfl rfl (.inl rfl)) de_int) (fun hc => ?gt_6) (fun hc => ?gf_7)
    case gt_6 =>
      exfalso; revert hc; simp
    case gf_7 =>
      try (simp only [decide_eq_true_eq, decide_eq_false_iff_not, Bool.not_eq_true', Bool.not_eq_false', Bool.not_eq_true, Bool.not_eq_false] at hc)
      refine go_then ?go_8
      refine go_if (dt_eqI (de_var B2 (i := 0) rfl rfl (.inl rfl)) de_int) (fun hc => ?gt_9) (fun hc => ?gf_10)
      case gt_9 =>
        try (simp only [decide_eq_true_eq, decide_eq_false_iff_not, Bool.not_eq_true', Bool.not_eq_false', Bool.not_eq_true, Bool.not_eq_false] at hc)
        refine go_exprE (C := cs.BadSize) (ex_callR B2 tk2 (ok_meet T) (by decide) (b, [b2, b3]) ?c_meet_1 (hp.2 _ _ _) (da_cons (de_var B2 (i := 1) rfl rfl (.inl rfl)) (da_cons (de_var B2 (i := 2) rfl rfl (.inl rfl)) (da_cons (de_var B2 (i := 3) rfl rfl (.inl rfl)) da_nil))) rfl) (fun F H σ en H1 s1 => ⟨true, (PySem.W.exm_ref T.x_BookError.bs T.x_BookError.hd T.x_BookError.ty T.s_BadSize_BookError), fun _ al hal oe pn2 hz hv => ?gx_11, nofun⟩)
        (case c_meet_1 => exact ⟨Nat.le_of_ble_eq_true rfl, hp.1.2, hp.1.1⟩)
        have BSu : BS (X.suite al ((al, oe) :: pn2)) _ _ := BO.su
        have en1 := en_err (i := 4) (a := al) en s1
        refine go_run en1 ?go_12
        refine @go_nf _ _ _ _ _ _ [_, _, _, _, _, _] rfl ?go_13
        refine go_setLS BSu (i := 5) (dl_lst da_nil (show (0 : Nat) ≤ sizeLine by decide)) rfl (.inl rfl) ?go_14
        refine @go_nf _ _ _ _ _ _ [_, _, _, _, _, _] rfl ?go_15
        refine go_if (dt_val (de_isF BSu T.e_BadSize hz hv T.b_isinstance rfl (i := 4) rfl rfl (.inl rfl) (clsE_own (BSu.gl rfl) T.x_EmptyRange.g) T.k_BadSize_EmptyRange)) (fun hc => ?gt_16) (fun hc => ?gf_17)
        case gt_16 =>
          exfalso; revert hc; simp
        case gf_17 =>
          try (simp only [decide_eq_true_eq, decide_eq_false_iff_not, Bool.not_eq_true', Bool.not_eq_false', Bool.not_eq_true, Bool.not_eq_false] at hc)
          refine go_then ?go_18
          refine go_if (dt_val (de_isF BSu T.e_BadSize hz hv T.b_isinstance rfl (i := 4) rfl rfl (.inl rfl) (clsE_own (BSu.gl rfl) T.x_BadSize.g) T.k_BadSize_BadSize)) (fun hc => ?gt_19) (fun hc => ?gf_20)
          case gt_19 =>
            try (simp only [decide_eq_true_eq, decide_eq_false_iff_not, Bool.not_eq_true', Bool.not_eq_false', Bool.not_eq_true, Bool.not_eq_false] at hc)
            refine go_appendS BSu (i := 5) rfl (de_tup (da_cons de_str (da_cons de_int da_nil)) (show (2 : Nat) ≤ sizeLine by decide)) ?s2 rfl (.inl rfl) ?go_21
            (case s2 => decide)
            refine @go_nf _ _ _ _ _ _ [_, _, _, _, _, _] rfl ?go_22
            refine go_then ?go_23
            refine go_if (dt_val (de_isF BSu T.e_BadSize hz hv T.b_isinstance rfl (i := 4) rfl rfl (.inl rfl) (clsE_own (BSu.gl rfl) T.x_BadWeight.g) T.k_BadSize_BadWeight)) (fun hc => ?gt_24) (fun hc => ?gf_25)
            case gt_24 =>
              exfalso; revert hc; simp
            case gf_25 =>
              try (simp only [decide_eq_true_eq, decide_eq_false_iff_not, Bool.not_eq_true', Bool.not_eq_false', Bool.not_eq_true, Bool.not_eq_false] at hc)
              refine go_then ?go_26
              refine go_if (DW.t (dw_or (dt_neI (de_lenOS BSu T.b_len (i := 5) rfl rfl (.inl rfl) rfl) de_int) (fun hb1 => (dw_or1 (dt_not (dt_val (de_isF BSu T.e_BadSize hz hv T.b_isinstance rfl (i := 4) rfl rfl (.inl rfl) (clsE_blt (BSu.gl rfl) T.b_ValueError (by decide +kernel)) T.k_BadSize_ValueError))))))) (fun hc => ?gt_27) (fun hc => ?gf_28)
              case gt_27 =>
                exfalso; revert hc; simp
              case gf_28 =>
                try (simp only [decide_eq_true_eq, decide_eq_false_iff_not, Bool.not_eq_true', Bool.not_eq_false', Bool.not_eq_true, Bool.not_eq_false] at hc)
                refine go_then ?go_29
                refine go_ret (RT.su R) (de_ixOMS (R := (rSI X.K)) (xs := [("size", 0)]) ((default, 0) : Str × Int) BSu (i := 5) rfl rfl (.inl rfl) ?xl3 ?xh4 de_int) ?rs_30
                (case xl3 => decide)
                (case xh4 => first | decide | (show (0 : Int) < ((1 : Nat) : Int); decide))
                (case rs_30 => exact Sub.rfl)
          case gf_20 =>
            exfalso; revert hc; simp
      case gf_10 =>
        exfalso; revert hc; simp
theorem sc__law_kind_v_3s : FnScope ["_law_door", "_law_one", "_law_other", "_law_more", "e", "_law_kinds"] ["_law_door", "_law_one", "_law_other", "_law_more"] (defScope s__law_kind) := ⟨rfl, rfl, rfl, by decide +kernel, rfl, by decide +kernel, by decide +kernel⟩
def sp__law_kind_v_3s (K : PySem.W.Frag) (cs : Cs) : Sp := Pm (ι := List Rg × List Rat × Rat) (fun ⟨bx, ws, m⟩ => ((∀ p ∈ bx, SzR p) ∧ bx.length ≤ 1000 ∧ ws.length ≤ 1000 ∧ (∀ q ∈ ws, Sz 900 q) ∧ Sz 900 m) ∧ ¬ bx.length = ws.length) (fun ⟨bx, ws, m⟩ => [rInt 3, rLst K (bx.map (rRg K)), rLst K (ws.map (rNum K)), rNum K m]) (fun ⟨bx, ws, m⟩ => .val (rSI K ("size", 0)))
theorem ok__law_kind_v_3s (T : Txt K mg cs) : Cal P w K mg base 8 "_law_kind" (sp__law_kind_v_3s K cs) := by
  refine cal_okT T.d__law_kind sc__law_kind_v_3s (fun g => rfl) (fun _ _ _ _ _ _ us hl => match us, hl with | [_, _, _, _], _ => rfl) ?_
  rintro X rfl rfl rfl rfl rfl Z B Bf ⟨bx, ws, m⟩ F0 H0 D hp R hnx
  refine @go_nf _ _ _ _ _ _ [_, _, _, _, _, _] rfl ?go_1
  have BO := B
  refine go_tryR B Z (i := 4) rfl rfl rfl T.x_BookError.g (by decide) (fun pn xe B2 tk2 => ?gy_2)
  refine go_if (dt_eqI (de_var B2 (i := 0) rfl rfl (.inl rfl)) de_int) (fun hc => ?gt_3) (fun hc => ?gf_4)
  case gt_3 =>
    exfalso; revert hc; simp
  case gf_4 =>
    try (simp only [decide_eq_true_eq, decide_eq_false_iff_not, Bool.not_eq_true', Bool.not_eq_false', Bool.not_eq_true, Bool.not_eq_false] at hc)
    refine go_then ?go_5
    refine go_if (dt_eqI (de_var B2 (i := 0) rfl rfl (.inl rfl)) de_int) (fun hc => ?gt_6) (fun hc => ?gf_7)
    case gt_6 =>
      exfalso; revert hc; simp
    case gf_7 =>
      try (simp only [decide_eq_true_eq, decide_eq_false_iff_not, Bool.not_eq_true', Bool.not_eq_false', Bool.not_eq_true, Bool.not_eq_false] at hc)
      refine go_then ?go_8
      refine go_if (dt_eqI (de_var B2 (i := 0) rfl rfl (.inl rfl)) de_int) (fun hc => ?gt_9) (fun hc => ?gf_10)
      case gt_9 =>
        exfalso; revert hc; simp
      case gf_10 =>
        try (simp only [decide_eq_true_eq, decide_eq_false_iff_not, Bool.not_eq_true', Bool.not_eq_false', Bool.not_eq_true, Bool.not_eq_false] at hc)
        refine go_then ?go_11
        refine go_if (dt_eqI (de_var B2 (i := 0) rfl rfl (.inl rfl)) de_int) (fun hc => ?gt_12) (fun hc => ?gf_13)
        case gt_12 =>
          try (simp only [decide_eq_true_eq, decide_eq_false_iff_not, Bool.not_eq_true', Bool.not_eq_false', Bool.not_eq_true, Bool.not_eq_false] at hc)
          refine go_exprE (C := cs.BadSize) (ex_call B2 tk2 (ok_widened T) (by decide) (_, _, _) ?c_widened_1 (in_s hp.2) (da_cons (de_var B2 (i := 1) rfl rfl (.inl rfl)) (da_cons (de_var B2 (i := 2) rfl rfl (.inl rfl)) (da_cons (de_var B2 (i := 3) rfl rfl (.inl rfl)) da_nil))) rfl) (fun F H σ en H1 s1 => ⟨true, (PySem.W.exm_ref T.x_BookError.bs T.x_BookError.hd T.x_BookError.ty T.s_BadSize_BookError), fun _ al hal oe pn2 hz hv => ?gx_14, nofun⟩)
          (case c_widened_1 => exact hp.1)
          have BSu : BS (X.suite al ((al, oe) :: pn2)) _ _ := BO.su
          have en1 := en_err (i := 4) (a := al) en s1
          refine go_run en1 ?go_15
          refine @go_nf _ _ _ _ _ _ [_, _, _, _, _, _] rfl ?go_16
          refine go_setLS BSu (i := 5) (dl_lst da_nil (show (0 : Nat) ≤ sizeLine by decide)) rfl (.inl rfl) ?go_17
          refine @go_nf _ _ _ _ _ _ [_, _, _, _, _, _] rfl ?go_18
          refine go_if (dt_val (de_isF BSu T.e_BadSize hz hv T.b_isinstance rfl (i := 4) rfl rfl (.inl rfl) (clsE_own (BSu.gl rfl) T.x_EmptyRange.g) T.k_BadSize_EmptyRange)) (fun hc => ?gt_19) (fun hc => ?gf_20)
          case gt_19 =>
            exfalso; revert hc; simp
          case gf_20 =>
            try (simp only [decide_eq_true_eq, decide_eq_false_iff_not, Bool.not_eq_true', Bool.not_eq_false', Bool.not_eq_true, Bool.not_eq_false] at hc)
            refine go_then ?go_21
            refine go_if (dt_val (de_isF BSu T.e_BadSize hz hv T.b_isinstance rfl (i := 4) rfl rfl (.inl rfl) (clsE_own (BSu.gl rfl) T.x_BadSize.g) T.k_BadSize_BadSize)) (fun hc => ?gt_22) (fun hc => ?gf_23)
            case gt_22 =>
              try (simp only [decide_eq_true_eq, decide_eq_false_iff_not, Bool.not_eq_true', Bool.not_eq_false', Bool.not_eq_true, Bool.not_eq_false] at hc)
              refine go_appendS BSu (i := 5) rfl (de_tup (da_cons de_str (da_cons de_int da_nil)) (show (2 : Nat) ≤ sizeLine by decide)) ?s2 rfl (.inl rfl) ?go_24
              (case s2 => decide)
              refine @go_nf _ _ _ _ _ _ [_, _, _, _, _, _] rfl ?go_25
              refine go_then ?go_26
              refine go_if (dt_val (de_isF BSu T.e_BadSize hz hv T.b_isinstance rfl (i := 4) rfl rfl (.inl rfl) (clsE_own (BSu.gl rfl) T.x_BadWeight.g) T.k_BadSize_BadWeight)) (fun hc => ?gt_27) (fun hc => ?gf_28)
              case gt_27 =>
                exfalso; revert hc; simp
              case gf_28 =>
                try (simp only [decide_eq_true_eq, decide_eq_false_iff_not, Bool.not_eq_true', Bool.not_eq_false', Bool.not_eq_true, Bool.not_eq_false] at hc)
                refine go_then ?go_29
                refine go_if (DW.t (dw_or (dt_neI (de_lenOS BSu T.b_len (i := 5) rfl rfl (.inl rfl) rfl) de_int) (fun hb1 => (dw_or1 (dt_not (dt_val (de_isF BSu T.e_BadSize hz hv T.b_isinstance rfl (i := 4) rfl rfl (.inl rfl) (clsE_blt (BSu.gl rfl) T.b_ValueError (by decide +kernel)) T.k_BadSize_ValueError))))))) (fun hc => ?gt_30) (fun hc => ?gf_31)
                case gt_30 =>
                  exfalso; revert hc; simp
                case gf_31 =>
                  try (simp only [decide_eq_true_eq, decide_eq_false_iff_not, Bool.not_eq_true', Bool.not_eq_false', Bool.not_eq_true, Bool.not_eq_false] at hc)
                  refine go_then ?go_32
                  refine go_ret (RT.su R) (de_ixOMS (R := (rSI X.K)) (xs := [("size", 0)]) ((default, 0) : Str × Int) BSu (i := 5) rfl rfl (.inl rfl) ?xl3 ?xh4 de_int) ?rs_33
                  (case xl3 => decide)
                  (case xh4 => first | decide | (show (0 : Int) < ((1 : Nat) : Int); decide))
                  (case rs_33 => exact Sub.rfl)
            case gf_23 =>
              exfalso; revert hc; simp
        case gf_13 =>
          exfalso; revert hc; simp
theorem sc__law_kind_v_3e : FnScope ["_law_door", "_law_one", "_law_other", "_law_more", "e", "_law_kinds"] ["_law_door", "_law_one", "_law_other", "_law_more"] (defScope s__law_kind) := ⟨rfl, rfl, rfl, by decide +kernel, rfl, by decide +kernel, by decide +kernel⟩
def sp__law_kind_v_3e (K : PySem.W.Frag) (cs : Cs) : Sp := Pm (ι := List Rg × List Rat × Rat × Nat) (fun ⟨bx, ws, m, n⟩ => ((∀ p ∈ bx, SzR p) ∧ bx.length ≤ 1000 ∧ ws.length ≤ 1000 ∧ (∀ q ∈ ws, Sz 900 q) ∧ Sz 900 m) ∧ bx.length = ws.length ∧ fullO bx = some n) (fun ⟨bx, ws, m, n⟩ => [rInt 3, rLst K (bx.map (rRg K)), rLst K (ws.map (rNum K)), rNum K m]) (fun ⟨bx, ws, m, n⟩ => .val (rSI K ("empty", (n : Int))))
theorem ok__law_kind_v_3e (T : Txt K mg cs) : Cal P w K mg base 8 "_law_kind" (sp__law_kind_v_3e K cs) := by
  refine cal_okT T.d__law_kind sc__law_kind_v_3e (fun g => rfl) (fun _ _ _ _ _ _ us hl => match us, hl with | [_, _, _, _], _ => rfl) ?_
  rintro X rfl rfl rfl rfl rfl Z B Bf ⟨bx, ws, m, n⟩ F0 H0 D hp R hnx
  refine @go_nf _ _ _ _ _ _ [_, _, _, _, _, _] rfl ?go_1
  have BO := B
  refine go_tryR B Z (i := 4) rfl rfl rfl T.x_BookError.g (by decide) (fun pn xe B2 tk2 => ?gy_2)
  refine go_if (dt_eqI (de_var B2 (i := 0) rfl rfl (.inl rfl)) de_int) (fun hc => ?gt_3) (fun hc => ?gf_4)
  case gt_3 =>
    exfalso; revert hc; simp
  case gf_4 =>
    try (simp only [decide_eq_true_eq, decide_eq_false_iff_not, Bool.not_eq_true', Bool.not_eq_false', Bool.not_eq_true, Bool.not_eq_false] at hc)
    refine go_then ?go_5
    refine go_if (dt_eqI (de_var B2 (i := 0) rfl rfl (.inl rfl)) de_int) (fun hc => ?gt_6) (fun hc => ?gf_7)
    case gt_6 =>
      exfalso; revert hc; simp
    case gf_7 =>
      try (simp only [decide_eq_true_eq, decide_eq_false_iff_not, Bool.not_eq_true', Bool.not_eq_false', Bool.not_eq_true, Bool.not_eq_false] at hc)
      refine go_then ?go_8
      refine go_if (dt_eqI (de_var B2 (i := 0) rfl rfl (.inl rfl)) de_int) (fun hc => ?gt_9) (fun hc => ?gf_10)
      case gt_9 =>
        exfalso; revert hc; simp
      case gf_10 =>
        try (simp only [decide_eq_true_eq, decide_eq_false_iff_not, Bool.not_eq_true', Bool.not_eq_false', Bool.not_eq_true, Bool.not_eq_false] at hc)
        refine go_then ?go_11
        refine go_if (dt_eqI (de_var B2 (i := 0) rfl rfl (.inl rfl)) de_int) (fun hc => ?gt_12) (fun hc => ?gf_13)
        case gt_12 =>
          try (simp only [decide_eq_true_eq, decide_eq_false_iff_not, Bool.not_eq_true', Bool.not_eq_false', Bool.not_eq_true, Bool.not_eq_false] at hc)
          refine go_exprF (C := cs.EmptyRange) (fs := [("cell", .int (n : Int))]) (ex_callF B2 tk2 (ok_widened T) (by decide) (_, _, _) ?c_widened_1 (in_e hp.2.1 hp.2.2) (da_cons (de_var B2 (i := 1) rfl rfl (.inl rfl)) (da_cons (de_var B2 (i := 2) rfl rfl (.inl rfl)) (da_cons (de_var B2 (i := 3) rfl rfl (.inl rfl)) da_nil))) rfl) (fun F H σ en H1 d s1 n1 z1 => ⟨true, (PySem.W.exm_ref T.x_BookError.bs T.x_BookError.hd T.x_BookError.ty T.s_EmptyRange_BookError), fun _ al hal oe pn2 hz hv => ?gx_14, nofun⟩)
          (case c_widened_1 => exact hp.1)
          have BSu : BS (X.suite al ((al, oe) :: pn2)) _ _ := BO.su
          obtain ⟨F1, en1⟩ := en_errF (i := 4) (a := al) en s1 n1 z1
          refine go_run en1 ?go_15
          refine @go_nf _ _ _ _ _ _ [_, _, _, _, _, _] rfl ?go_16
          refine go_setLS BSu (i := 5) (dl_lst da_nil (show (0 : Nat) ≤ sizeLine by decide)) rfl (.inl rfl) ?go_17
          refine @go_nf _ _ _ _ _ _ [_, _, _, _, _, _] rfl ?go_18
          refine go_if (dt_val (de_isF BSu T.e_EmptyRange hz hv T.b_isinstance rfl (i := 4) rfl rfl (.inl rfl) (clsE_own (BSu.gl rfl) T.x_EmptyRange.g) T.k_EmptyRange_EmptyRange)) (fun hc => ?gt_19) (fun hc => ?gf_20)
          case gt_19 =>
            try (simp only [decide_eq_true_eq, decide_eq_false_iff_not, Bool.not_eq_true', Bool.not_eq_false', Bool.not_eq_true, Bool.not_eq_false] at hc)
            refine go_appendS BSu (i := 5) rfl (de_tup (da_cons de_str (da_cons (de_fldF BSu T.x_EmptyRange.xf T.x_EmptyRange.no hz hv (i := 4) rfl rfl (.inl rfl) (v := .int (n : Int)) rfl) da_nil)) (show (2 : Nat) ≤ sizeLine by decide)) ?s2 rfl (.inl rfl) ?go_21
            (case s2 => decide)
            refine @go_nf _ _ _ _ _ _ [_, _, _, _, _, _] rfl ?go_22
            refine go_then ?go_23
            refine go_if (dt_val (de_isF BSu T.e_EmptyRange hz hv T.b_isinstance rfl (i := 4) rfl rfl (.inl rfl) (clsE_own (BSu.gl rfl) T.x_BadSize.g) T.k_EmptyRange_BadSize)) (fun hc => ?gt_24) (fun hc => ?gf_25)
            case gt_24 =>
              exfalso; revert hc; simp
            case gf_25 =>
              try (simp only [decide_eq_true_eq, decide_eq_false_iff_not, Bool.not_eq_true', Bool.not_eq_false', Bool.not_eq_true, Bool.not_eq_false] at hc)
              refine go_then ?go_26
              refine go_if (dt_val (de_isF BSu T.e_EmptyRange hz hv T.b_isinstance rfl (i := 4) rfl rfl (.inl rfl) (clsE_own (BSu.gl rfl) T.x_BadWeight.g) T.k_EmptyRange_BadWeight)) (fun hc => ?gt_27) (fun hc => ?gf_28)
              case gt_27 =>
                exfalso; revert hc; simp
              case gf_28 =>
                try (simp only [decide_eq_true_eq, decide_eq_false_iff_not, Bool.not_eq_true', Bool.not_eq_false', Bool.not_eq_true, Bool.not_eq_false] at hc)
                refine go_then ?go_29
                refine go_if (DW.t (dw_or (dt_neI (de_lenOS BSu T.b_len (i := 5) rfl rfl (.inl rfl) rfl) de_int) (fun hb1 => (dw_or1 (dt_not (dt_val (de_isF BSu T.e_EmptyRange hz hv T.b_isinstance rfl (i := 4) rfl rfl (.inl rfl) (clsE_blt (BSu.gl rfl) T.b_ValueError (by decide +kernel)) T.k_EmptyRange_ValueError))))))) (fun hc => ?gt_30) (fun hc => ?gf_31)
                case gt_30 =>
                  exfalso; revert hc; simp
                case gf_31 =>
                  try (simp only [decide_eq_true_eq, decide_eq_false_iff_not, Bool.not_eq_true', Bool.not_eq_false', Bool.not_eq_true, Bool.not_eq_false] at hc)
                  refine go_then ?go_32
                  refine go_ret (RT.su R) (de_ixOMS (R := (rSI X.K)) (xs := [("empty", (n : Int))]) ((default, 0) : Str × Int) BSu (i := 5) rfl rfl (.inl rfl) ?xl3 ?xh4 de_int) ?rs_33
                  (case xl3 => decide)
                  (case xh4 => first | decide | (show (0 : Int) < ((1 : Nat) : Int); decide))
                  (case rs_33 => exact Sub.rfl)
          case gf_20 =>
            exfalso; revert hc; simp
        case gf_13 =>
          exfalso; revert hc; simp
theorem sc__law_kind_v_3w : FnScope ["_law_door", "_law_one", "_law_other", "_law_more", "e", "_law_kinds"] ["_law_door", "_law_one", "_law_other", "_law_more"] (defScope s__law_kind) := ⟨rfl, rfl, rfl, by decide +kernel, rfl, by decide +kernel, by decide +kernel⟩
def sp__law_kind_v_3w (K : PySem.W.Frag) (cs : Cs) : Sp := Pm (ι := List Rg × List Rat × Rat) (fun ⟨bx, ws, m⟩ => ((∀ p ∈ bx, SzR p) ∧ bx.length ≤ 1000 ∧ ws.length ≤ 1000 ∧ (∀ q ∈ ws, Sz 900 q) ∧ Sz 900 m) ∧ bx.length = ws.length ∧ fullO bx = none ∧ lowW (ws ++ [m]) = true) (fun ⟨bx, ws, m⟩ => [rInt 3, rLst K (bx.map (rRg K)), rLst K (ws.map (rNum K)), rNum K m]) (fun ⟨bx, ws, m⟩ => .val (rSI K ("weight", 0)))
theorem ok__law_kind_v_3w (T : Txt K mg cs) : Cal P w K mg base 8 "_law_kind" (sp__law_kind_v_3w K cs) := by
  refine cal_okT T.d__law_kind sc__law_kind_v_3w (fun g => rfl) (fun _ _ _ _ _ _ us hl => match us, hl with | [_, _, _, _], _ => rfl) ?_
  rintro X rfl rfl rfl rfl rfl Z B Bf ⟨bx, ws, m⟩ F0 H0 D hp R hnx
  refine @go_nf _ _ _ _ _ _ [_, _, _, _, _, _] rfl ?go_1
  have BO := B
  refine go_tryR B Z (i := 4) rfl rfl rfl T.x_BookError.g (by decide) (fun pn xe B2 tk2 => ?gy_2)
  refine go_if (dt_eqI (de_var B2 (i := 0) rfl rfl (.inl rfl)) de_int) (fun hc => ?gt_3) (fun hc => ?gf_4)
  case gt_3 =>
    exfalso; revert hc; simp
  case gf_4 =>
    try (simp only [decide_eq_true_eq, decide_eq_false_iff_not, Bool.not_eq_true', Bool.not_eq_false', Bool.not_eq_true, Bool.not_eq_false] at hc)
    refine go_then ?go_5
    refine go_if (dt_eqI (de_var B2 (i := 0) rfl rfl (.inl rfl)) de_int) (fun hc => ?gt_6) (fun hc => ?gf_7)
    case gt_6 =>
      exfalso; revert hc; simp
    case gf_7 =>
      try (simp only [decide_eq_true_eq, decide_eq_false_iff_not, Bool.not_eq_true', Bool.not_eq_false', Bool.not_eq_true, Bool.not_eq_false] at hc)
      refine go_then ?go_8
      refine go_if (dt_eqI (de_var B2 (i := 0) rfl rfl (.inl rfl)) de_int) (fun hc => ?gt_9) (fun hc => ?gf_10)
      case gt_9 =>
        exfalso; revert hc; simp
      case gf_10 =>
        try (simp only [decide_eq_true_eq, decide_eq_false_iff_not, Bool.not_eq_true', Bool.not_eq_false', Bool.not_eq_true, Bool.not_eq_false] at hc)
        refine go_then ?go_11
        refine go_if (dt_eqI (de_var B2 (i := 0) rfl rfl (.inl rfl)) de_int) (fun hc => ?gt_12) (fun hc => ?gf_13)
        case gt_12 =>
          try (simp only [decide_eq_true_eq, decide_eq_false_iff_not, Bool.not_eq_true', Bool.not_eq_false', Bool.not_eq_true, Bool.not_eq_false] at hc)
          refine go_exprE (C := cs.BadWeight) (ex_call B2 tk2 (ok_widened T) (by decide) (_, _, _) ?c_widened_1 ((in_o hp.2.1 hp.2.2.1).trans (if_pos hp.2.2.2)) (da_cons (de_var B2 (i := 1) rfl rfl (.inl rfl)) (da_cons (de_var B2 (i := 2) rfl rfl (.inl rfl)) (da_cons (de_var B2 (i := 3) rfl rfl (.inl rfl)) da_nil))) rfl) (fun F H σ en H1 s1 => ⟨true, (PySem.W.exm_ref T.x_BookError.bs T.x_BookError.hd T.x_BookError.ty T.s_BadWeight_BookError), fun _ al hal oe pn2 hz hv => ?gx_14, nofun⟩)
          (case c_widened_1 => exact hp.1)
          have BSu : BS (X.suite al ((al, oe) :: pn2)) _ _ := BO.su
          have en1 := en_err (i := 4) (a := al) en s1
          refine go_run en1 ?go_15
          refine @go_nf _ _ _ _ _ _ [_, _, _, _, _, _] rfl ?go_16
          refine go_setLS BSu (i := 5) (dl_lst da_nil (show (0 : Nat) ≤ sizeLine by decide)) rfl (.inl rfl) ?go_17
          refine @go_nf _ _ _ _ _ _ [_, _, _, _, _, _] rfl ?go_18
          refine go_if (dt_val (de_isF BSu T.e_BadWeight hz hv T.b_isinstance rfl (i := 4) rfl rfl (.inl rfl) (clsE_own (BSu.gl rfl) T.x_EmptyRange.g) T.k_BadWeight_EmptyRange)) (fun hc => ?gt_19) (fun hc => ?gf_20)
          case gt_19 =>
            exfalso; revert hc; simp
          case gf_20 =>
            try (simp only [decide_eq_true_eq, decide_eq_false_iff_not, Bool.not_eq_true', Bool.not_eq_false', Bool.not_eq_true, Bool.not_eq_false] at hc)
            refine go_then ?go_21
            refine go_if (dt_val (de_isF BSu T.e_BadWeight hz hv T.b_isinstance rfl (i := 4) rfl rfl (.inl rfl) (clsE_own (BSu.gl rfl) T.x_BadSize.g) T.k_BadWeight_BadSize)) (fun hc => ?gt_22) (fun hc => ?gf_23)
            case gt_22 =>
              exfalso; revert hc; simp
            case gf_23 =>
              try (simp only [decide_eq_true_eq, decide_eq_false_iff_not, Bool.not_eq_true', Bool.not_eq_false', Bool.not_eq_true, Bool.not_eq_false] at hc)
              refine go_then ?go_24
              refine go_if (dt_val (de_isF BSu T.e_BadWeight hz hv T.b_isinstance rfl (i := 4) rfl rfl (.inl rfl) (clsE_own (BSu.gl rfl) T.x_BadWeight.g) T.k_BadWeight_BadWeight)) (fun hc => ?gt_25) (fun hc => ?gf_26)
              case gt_25 =>
                try (simp only [decide_eq_true_eq, decide_eq_false_iff_not, Bool.not_eq_true', Bool.not_eq_false', Bool.not_eq_true, Bool.not_eq_false] at hc)
                refine go_appendS BSu (i := 5) rfl (de_tup (da_cons de_str (da_cons de_int da_nil)) (show (2 : Nat) ≤ sizeLine by decide)) ?s2 rfl (.inl rfl) ?go_27
                (case s2 => decide)
                refine @go_nf _ _ _ _ _ _ [_, _, _, _, _, _] rfl ?go_28
                refine go_then ?go_29
                refine go_if (DW.t (dw_or (dt_neI (de_lenOS BSu T.b_len (i := 5) rfl rfl (.inl rfl) rfl) de_int) (fun hb1 => (dw_or1 (dt_not (dt_val (de_isF BSu T.e_BadWeight hz hv T.b_isinstance rfl (i := 4) rfl rfl (.inl rfl) (clsE_blt (BSu.gl rfl) T.b_ValueError (by decide +kernel)) T.k_BadWeight_ValueError))))))) (fun hc => ?gt_30) (fun hc => ?gf_31)
                case gt_30 =>
                  exfalso; revert hc; simp
                case gf_31 =>
                  try (simp only [decide_eq_true_eq, decide_eq_false_iff_not, Bool.not_eq_true', Bool.not_eq_false', Bool.not_eq_true, Bool.not_eq_false] at hc)
                  refine go_then ?go_32
                  refine go_ret (RT.su R) (de_ixOMS (R := (rSI X.K)) (xs := [("weight", 0)]) ((default, 0) : Str × Int) BSu (i := 5) rfl rfl (.inl rfl) ?xl3 ?xh4 de_int) ?rs_33
                  (case xl3 => decide)
                  (case xh4 => first | decide | (show (0 : Int) < ((1 : Nat) : Int); decide))
                  (case rs_33 => exact Sub.rfl)
              case gf_26 =>
                exfalso; revert hc; simp
        case gf_13 =>
          exfalso; revert hc; simp
theorem sc__law_kind_v_3n : FnScope ["_law_door", "_law_one", "_law_other", "_law_more", "e", "_law_kinds"] ["_law_door", "_law_one", "_law_other", "_law_more"] (defScope s__law_kind) := ⟨rfl, rfl, rfl, by decide +kernel, rfl, by decide +kernel, by decide +kernel⟩
def sp__law_kind_v_3n (K : PySem.W.Frag) (cs : Cs) : Sp := Pm (ι := List Rg × List Rat × Rat) (fun ⟨bx, ws, m⟩ => ((∀ p ∈ bx, SzR p) ∧ bx.length ≤ 1000 ∧ ws.length ≤ 1000 ∧ (∀ q ∈ ws, Sz 900 q) ∧ Sz 900 m) ∧ bx.length = ws.length ∧ fullO bx = none ∧ lowW (ws ++ [m]) = false) (fun ⟨bx, ws, m⟩ => [rInt 3, rLst K (bx.map (rRg K)), rLst K (ws.map (rNum K)), rNum K m]) (fun ⟨bx, ws, m⟩ => .val (rSI K ("none", 0)))
theorem ok__law_kind_v_3n (T : Txt K mg cs) : Cal P w K mg base 8 "_law_kind" (sp__law_kind_v_3n K cs) := by
  refine cal_okT T.d__law_kind sc__law_kind_v_3n (fun g => rfl) (fun _ _ _ _ _ _ us hl => match us, hl with | [_, _, _, _], _ => rfl) ?_
  rintro X rfl rfl rfl rfl rfl Z B Bf ⟨bx, ws, m⟩ F0 H0 D hp R hnx
  refine @go_nf _ _ _ _ _ _ [_, _, _, _, _, _] rfl ?go_1
  have BO := B
  refine go_tryR B Z (i := 4) rfl rfl rfl T.x_BookError.g (by decide) (fun pn xe B2 tk2 => ?gy_2)
  refine go_if (dt_eqI (de_var B2 (i := 0) rfl rfl (.inl rfl)) de_int) (fun hc => ?gt_3) (fun hc => ?gf_4)
  case gt_3 =>
    exfalso; revert hc; simp
  case gf_4 =>
    try (simp only [decide_eq_true_eq, decide_eq_false_iff_not, Bool.not_eq_true', Bool.not_eq_false', Bool.not_eq_true, Bool.not_eq_false] at hc)
    refine go_then ?go_5
    refine go_if (dt_eqI (de_var B2 (i := 0) rfl rfl (.inl rfl)) de_int) (fun hc => ?gt_6) (fun hc => ?gf_7)
    case gt_6 =>
      exfalso; revert hc; simp
    case gf_7 =>
      try (simp only [decide_eq_true_eq, decide_eq_false_iff_not, Bool.not_eq_true', Bool.not_eq_false', Bool.not_eq_true, Bool.not_eq_false] at hc)
      refine go_then ?go_8
      refine go_if (dt_eqI (de_var B2 (i := 0) rfl rfl (.inl rfl)) de_int) (fun hc => ?gt_9) (fun hc => ?gf_10)
      case gt_9 =>
        exfalso; revert hc; simp
      case gf_10 =>
        try (simp only [decide_eq_true_eq, decide_eq_false_iff_not, Bool.not_eq_true', Bool.not_eq_false', Bool.not_eq_true, Bool.not_eq_false] at hc)
        refine go_then ?go_11
        refine go_if (dt_eqI (de_var B2 (i := 0) rfl rfl (.inl rfl)) de_int) (fun hc => ?gt_12) (fun hc => ?gf_13)
        case gt_12 =>
          try (simp only [decide_eq_true_eq, decide_eq_false_iff_not, Bool.not_eq_true', Bool.not_eq_false', Bool.not_eq_true, Bool.not_eq_false] at hc)
          refine go_expr (DL.froz (CA.lst (ca_callO (okr_widened X.K) B2 (ok_widened T) (by decide) (_, _, _) ?c_widened_1 ?o_widened_2 (da_cons (de_var B2 (i := 1) rfl rfl (.inl rfl)) (da_cons (de_var B2 (i := 2) rfl rfl (.inl rfl)) (da_cons (de_var B2 (i := 3) rfl rfl (.inl rfl)) da_nil))) rfl))) ?go_14
          (case c_widened_1 => exact hp.1)
          (case o_widened_2 => exact (in_o hp.2.1 hp.2.2.1).trans (if_neg (by rw [hp.2.2.2]; decide)))
          refine go_then ?go_15
          refine go_if (dt_eqI (de_var B2 (i := 0) rfl rfl (.inl rfl)) de_int) (fun hc => ?gt_16) (fun hc => ?gf_17)
          case gt_16 =>
            exfalso; revert hc; simp
          case gf_17 =>
            try (simp only [decide_eq_true_eq, decide_eq_false_iff_not, Bool.not_eq_true', Bool.not_eq_false', Bool.not_eq_true, Bool.not_eq_false] at hc)
            refine go_then ?go_18
            refine go_thenY ?go_19
            refine go_ret R (de_tup (da_cons de_str (da_cons de_int da_nil)) (show (2 : Nat) ≤ sizeLine by decide)) ?rs_20
            (case rs_20 => exact Sub.rfl)
        case gf_13 =>
          exfalso; revert hc; simp
theorem sc__law_kind_v_4e : FnScope ["_law_door", "_law_one", "_law_other", "_law_more", "e", "_law_kinds"] ["_law_door", "_law_one", "_law_other", "_law_more"] (defScope s__law_kind) := ⟨rfl, rfl, rfl, by decide +kernel, rfl, by decide +kernel, by decide +kernel⟩
def sp__law_kind_v_4e (K : PySem.W.Frag) (cs : Cs) : Sp := Pm (ι := List Rg × List Rat × Nat) (fun ⟨bx, xs, n⟩ => (xs.length ≤ 12 ∧ (∀ q ∈ xs, Sz 90 q) ∧ ∀ p ∈ bx, SzB p) ∧ xs.length = bx.length ∧ fullO bx = some n) (fun ⟨bx, xs, n⟩ => [rInt 4, rLst K (bx.map (rRg K)), rLst K (xs.map (rNum K)), rNon]) (fun ⟨bx, xs, n⟩ => .val (rSI K ("empty", (n : Int))))
theorem ok__law_kind_v_4e (T : Txt K mg cs) : Cal P w K mg base 8 "_law_kind" (sp__law_kind_v_4e K cs) := by
  refine cal_okT T.d__law_kind sc__law_kind_v_4e (fun g => rfl) (fun _ _ _ _ _ _ us hl => match us, hl with | [_, _, _, _], _ => rfl) ?_
  rintro X rfl rfl rfl rfl rfl Z B Bf ⟨bx, xs, n⟩ F0 H0 D hp R hnx
  refine @go_nf _ _ _ _ _ _ [_, _, _, _, _, _] rfl ?go_1
  have BO := B
  refine go_tryR B Z (i := 4) rfl rfl rfl T.x_BookError.g (by decide) (fun pn xe B2 tk2 => ?gy_2)
  refine go_if (dt_eqI (de_var B2 (i := 0) rfl rfl (.inl rfl)) de_int) (fun hc => ?gt_3) (fun hc => ?gf_4)
  case gt_3 =>
    exfalso; revert hc; simp
  case gf_4 =>
    try (simp only [decide_eq_true_eq, decide_eq_false_iff_not, Bool.not_eq_true', Bool.not_eq_false', Bool.not_eq_true, Bool.not_eq_false] at hc)
    refine go_then ?go_5
    refine go_if (dt_eqI (de_var B2 (i := 0) rfl rfl (.inl rfl)) de_int) (fun hc => ?gt_6) (fun hc => ?gf_7)
    case gt_6 =>
      exfalso; revert hc; simp
    case gf_7 =>
      try (simp only [decide_eq_true_eq, decide_eq_false_iff_not, Bool.not_eq_true', Bool.not_eq_false', Bool.not_eq_true, Bool.not_eq_false] at hc)
      refine go_then ?go_8
      refine go_if (dt_eqI (de_var B2 (i := 0) rfl rfl (.inl rfl)) de_int) (fun hc => ?gt_9) (fun hc => ?gf_10)
      case gt_9 =>
        exfalso; revert hc; simp
      case gf_10 =>
        try (simp only [decide_eq_true_eq, decide_eq_false_iff_not, Bool.not_eq_true', Bool.not_eq_false', Bool.not_eq_true, Bool.not_eq_false] at hc)
        refine go_then ?go_11
        refine go_if (dt_eqI (de_var B2 (i := 0) rfl rfl (.inl rfl)) de_int) (fun hc => ?gt_12) (fun hc => ?gf_13)
        case gt_12 =>
          exfalso; revert hc; simp
        case gf_13 =>
          try (simp only [decide_eq_true_eq, decide_eq_false_iff_not, Bool.not_eq_true', Bool.not_eq_false', Bool.not_eq_true, Bool.not_eq_false] at hc)
          refine go_then ?go_14
          refine go_if (dt_eqI (de_var B2 (i := 0) rfl rfl (.inl rfl)) de_int) (fun hc => ?gt_15) (fun hc => ?gf_16)
          case gt_15 =>
            try (simp only [decide_eq_true_eq, decide_eq_false_iff_not, Bool.not_eq_true', Bool.not_eq_false', Bool.not_eq_true, Bool.not_eq_false] at hc)
            refine go_exprF (C := cs.EmptyRange) (fs := [("cell", .int (n : Int))]) (ex_callF B2 tk2 (ok_greatest_worth T) (by decide) (_, _) ?c_greatest_worth_1 (gw_e hp.2.1 hp.2.2) (da_cons (de_var B2 (i := 2) rfl rfl (.inl rfl)) (da_cons (de_var B2 (i := 1) rfl rfl (.inl rfl)) da_nil)) rfl) (fun F H σ en H1 d s1 n1 z1 => ⟨true, (PySem.W.exm_ref T.x_BookError.bs T.x_BookError.hd T.x_BookError.ty T.s_EmptyRange_BookError), fun _ al hal oe pn2 hz hv => ?gx_17, nofun⟩)
            (case c_greatest_worth_1 => exact hp.1)
            have BSu : BS (X.suite al ((al, oe) :: pn2)) _ _ := BO.su
            obtain ⟨F1, en1⟩ := en_errF (i := 4) (a := al) en s1 n1 z1
            refine go_run en1 ?go_18
            refine @go_nf _ _ _ _ _ _ [_, _, _, _, _, _] rfl ?go_19
            refine go_setLS BSu (i := 5) (dl_lst da_nil (show (0 : Nat) ≤ sizeLine by decide)) rfl (.inl rfl) ?go_20
            refine @go_nf _ _ _ _ _ _ [_, _, _, _, _, _] rfl ?go_21
            refine go_if (dt_val (de_isF BSu T.e_EmptyRange hz hv T.b_isinstance rfl (i := 4) rfl rfl (.inl rfl) (clsE_own (BSu.gl rfl) T.x_EmptyRange.g) T.k_EmptyRange_EmptyRange)) (fun hc => ?gt_22) (fun hc => ?gf_23)
            case gt_22 =>
              try (simp only [decide_eq_true_eq, decide_eq_false_iff_not, Bool.not_eq_true', Bool.not_eq_false', Bool.not_eq_true, Bool.not_eq_false] at hc)
              refine go_appendS BSu (i := 5) rfl (de_tup (da_cons de_str (da_cons (de_fldF BSu T.x_EmptyRange.xf T.x_EmptyRange.no hz hv (i := 4) rfl rfl (.inl rfl) (v := .int (n : Int)) rfl) da_nil)) (show (2 : Nat) ≤ sizeLine by decide)) ?s2 rfl (.inl rfl) ?go_24
              (case s2 => decide)
              refine @go_nf _ _ _ _ _ _ [_, _, _, _, _, _] rfl ?go_25
              refine go_then ?go_26
              refine go_if (dt_val (de_isF BSu T.e_EmptyRange hz hv T.b_isinstance rfl (i := 4) rfl rfl (.inl rfl) (clsE_own (BSu.gl rfl) T.x_BadSize.g) T.k_EmptyRange_BadSize)) (fun hc => ?gt_27) (fun hc => ?gf_28)
              case gt_27 =>
                exfalso; revert hc; simp
              case gf_28 =>
                try (simp only [decide_eq_true_eq, decide_eq_false_iff_not, Bool.not_eq_true', Bool.not_eq_false', Bool.not_eq_true, Bool.not_eq_false] at hc)
                refine go_then ?go_29
                refine go_if (dt_val (de_isF BSu T.e_EmptyRange hz hv T.b_isinstance rfl (i := 4) rfl rfl (.inl rfl) (clsE_own (BSu.gl rfl) T.x_BadWeight.g) T.k_EmptyRange_BadWeight)) (fun hc => ?gt_30) (fun hc => ?gf_31)
                case gt_30 =>
                  exfalso; revert hc; simp
                case gf_31 =>
                  try (simp only [decide_eq_true_eq, decide_eq_false_iff_not, Bool.not_eq_true', Bool.not_eq_false', Bool.not_eq_true, Bool.not_eq_false] at hc)
                  refine go_then ?go_32
                  refine go_if (DW.t (dw_or (dt_neI (de_lenOS BSu T.b_len (i := 5) rfl rfl (.inl rfl) rfl) de_int) (fun hb1 => (dw_or1 (dt_not (dt_val (de_isF BSu T.e_EmptyRange hz hv T.b_isinstance rfl (i := 4) rfl rfl (.inl rfl) (clsE_blt (BSu.gl rfl) T.b_ValueError (by decide +kernel)) T.k_EmptyRange_ValueError))))))) (fun hc => ?gt_33) (fun hc => ?gf_34)
                  case gt_33 =>
                    exfalso; revert hc; simp
                  case gf_34 =>
                    try (simp only [decide_eq_true_eq, decide_eq_false_iff_not, Bool.not_eq_true', Bool.not_eq_false', Bool.not_eq_true, Bool.not_eq_false] at hc)
                    refine go_then ?go_35
                    refine go_ret (RT.su R) (de_ixOMS (R := (rSI X.K)) (xs := [("empty", (n : Int))]) ((default, 0) : Str × Int) BSu (i := 5) rfl rfl (.inl rfl) ?xl3 ?xh4 de_int) ?rs_36
                    (case xl3 => decide)
                    (case xh4 => first | decide | (show (0 : Int) < ((1 : Nat) : Int); decide))
                    (case rs_36 => exact Sub.rfl)
            case gf_23 =>
              exfalso; revert hc; simp
          case gf_16 =>
            exfalso; revert hc; simp
theorem sc__law_kind_v_4s : FnScope ["_law_door", "_law_one", "_law_other", "_law_more", "e", "_law_kinds"] ["_law_door", "_law_one", "_law_other", "_law_more"] (defScope s__law_kind) := ⟨rfl, rfl, rfl, by decide +kernel, rfl, by decide +kernel, by decide +kernel⟩
def sp__law_kind_v_4s (K : PySem.W.Frag) (cs : Cs) : Sp := Pm (ι := List Rg × List Rat) (fun ⟨bx, xs⟩ => (xs.length ≤ 12 ∧ (∀ q ∈ xs, Sz 90 q) ∧ ∀ p ∈ bx, SzB p) ∧ ¬ xs.length = bx.length) (fun ⟨bx, xs⟩ => [rInt 4, rLst K (bx.map (rRg K)), rLst K (xs.map (rNum K)), rNon]) (fun ⟨bx, xs⟩ => .val (rSI K ("size", 0)))
theorem ok__law_kind_v_4s (T : Txt K mg cs) : Cal P w K mg base 8 "_law_kind" (sp__law_kind_v_4s K cs) := by
  refine cal_okT T.d__law_kind sc__law_kind_v_4s (fun g => rfl) (fun _ _ _ _ _ _ us hl => match us, hl with | [_, _, _, _], _ => rfl) ?_
  rintro X rfl rfl rfl rfl rfl Z B Bf ⟨bx, xs⟩ F0 H0 D hp R hnx
  refine @go_nf _ _ _ _ _ _ [_, _, _, _, _, _] rfl ?go_1
  have BO := B
  refine go_tryR B Z (i := 4) rfl rfl rfl T.x_BookError.g (by decide) (fun pn xe B2 tk2 => ?gy_2)
  refine go_if (dt_eqI (de_var B2 (i := 0) rfl rfl (.inl rfl)) de_int) (fun hc => ?gt_3) (fun hc => ?gf_4)
  case gt_3 =>
    exfalso; revert hc; simp
  case gf_4 =>
    try (simp only [decide_eq_true_eq, decide_eq_false_iff_not, Bool.not_eq_true', Bool.not_eq_false', Bool.not_eq_true, Bool.not_eq_false] at hc)
    refine go_then ?go_5
    refine go_if (dt_eqI (de_var B2 (i := 0) rfl rfl (.inl rfl)) de_int) (fun hc => ?gt_6) (fun hc => ?gf_7)
    case gt_6 =>
      exfalso; revert hc; simp
    case gf_7 =>
      try (simp only [decide_eq_true_eq, decide_eq_false_iff_not, Bool.not_eq_true', Bool.not_eq_false', Bool.not_eq_true, Bool.not_eq_false] at hc)
      refine go_then ?go_8
      refine go_if (dt_eqI (de_var B2 (i := 0) rfl rfl (.inl rfl)) de_int) (fun hc => ?gt_9) (fun hc => ?gf_10)
      case gt_9 =>
        exfalso; revert hc; simp
      case gf_10 =>
        try (simp only [decide_eq_true_eq, decide_eq_false_iff_not, Bool.not_eq_true', Bool.not_eq_false', Bool.not_eq_true, Bool.not_eq_false] at hc)
        refine go_then ?go_11
        refine go_if (dt_eqI (de_var B2 (i := 0) rfl rfl (.inl rfl)) de_int) (fun hc => ?gt_12) (fun hc => ?gf_13)
        case gt_12 =>
          exfalso; revert hc; simp
        case gf_13 =>
          try (simp only [decide_eq_true_eq, decide_eq_false_iff_not, Bool.not_eq_true', Bool.not_eq_false', Bool.not_eq_true, Bool.not_eq_false] at hc)
          refine go_then ?go_14
          refine go_if (dt_eqI (de_var B2 (i := 0) rfl rfl (.inl rfl)) de_int) (fun hc => ?gt_15) (fun hc => ?gf_16)
          case gt_15 =>
            try (simp only [decide_eq_true_eq, decide_eq_false_iff_not, Bool.not_eq_true', Bool.not_eq_false', Bool.not_eq_true, Bool.not_eq_false] at hc)
            refine go_exprE (C := cs.BadSize) (ex_call B2 tk2 (ok_greatest_worth T) (by decide) (_, _) ?c_greatest_worth_1 (gw_s hp.2) (da_cons (de_var B2 (i := 2) rfl rfl (.inl rfl)) (da_cons (de_var B2 (i := 1) rfl rfl (.inl rfl)) da_nil)) rfl) (fun F H σ en H1 s1 => ⟨true, (PySem.W.exm_ref T.x_BookError.bs T.x_BookError.hd T.x_BookError.ty T.s_BadSize_BookError), fun _ al hal oe pn2 hz hv => ?gx_17, nofun⟩)
            (case c_greatest_worth_1 => exact hp.1)
            have BSu : BS (X.suite al ((al, oe) :: pn2)) _ _ := BO.su
            have en1 := en_err (i := 4) (a := al) en s1
            refine go_run en1 ?go_18
            refine @go_nf _ _ _ _ _ _ [_, _, _, _, _, _] rfl ?go_19
            refine go_setLS BSu (i := 5) (dl_lst da_nil (show (0 : Nat) ≤ sizeLine by decide)) rfl (.inl rfl) ?go_20
            refine @go_nf _ _ _ _ _ _ [_, _, _, _, _, _] rfl ?go_21
            refine go_if (dt_val (de_isF BSu T.e_BadSize hz hv T.b_isinstance rfl (i := 4) rfl rfl (.inl rfl) (clsE_own (BSu.gl rfl) T.x_EmptyRange.g) T.k_BadSize_EmptyRange)) (fun hc => ?gt_22) (fun hc => ?gf_23)
            case gt_22 =>
              exfalso; revert hc; simp
            case gf_23 =>
              try (simp only [decide_eq_true_eq, decide_eq_false_iff_not, Bool.not_eq_true', Bool.not_eq_false', Bool.not_eq_true, Bool.not_eq_false] at hc)
              refine go_then ?go_24
              refine go_if (dt_val (de_isF BSu T.e_BadSize hz hv T.b_isinstance rfl (i := 4) rfl rfl (.inl rfl) (clsE_own (BSu.gl rfl) T.x_BadSize.g) T.k_BadSize_BadSize)) (fun hc => ?gt_25) (fun hc => ?gf_26)
              case gt_25 =>
                try (simp only [decide_eq_true_eq, decide_eq_false_iff_not, Bool.not_eq_true', Bool.not_eq_false', Bool.not_eq_true, Bool.not_eq_false] at hc)
                refine go_appendS BSu (i := 5) rfl (de_tup (da_cons de_str (da_cons de_int da_nil)) (show (2 : Nat) ≤ sizeLine by decide)) ?s2 rfl (.inl rfl) ?go_27
                (case s2 => decide)
                refine @go_nf _ _ _ _ _ _ [_, _, _, _, _, _] rfl ?go_28
                refine go_then ?go_29
                refine go_if (dt_val (de_isF BSu T.e_BadSize hz hv T.b_isinstance rfl (i := 4) rfl rfl (.inl rfl) (clsE_own (BSu.gl rfl) T.x_BadWeight.g) T.k_BadSize_BadWeight)) (fun hc => ?gt_30) (fun hc => ?gf_31)
                case gt_30 =>
                  exfalso; revert hc; simp
                case gf_31 =>
                  try (simp only [decide_eq_true_eq, decide_eq_false_iff_not, Bool.not_eq_true', Bool.not_eq_false', Bool.not_eq_true, Bool.not_eq_false] at hc)
                  refine go_then ?go_32
                  refine go_if (DW.t (dw_or (dt_neI (de_lenOS BSu T.b_len (i := 5) rfl rfl (.inl rfl) rfl) de_int) (fun hb1 => (dw_or1 (dt_not (dt_val (de_isF BSu T.e_BadSize hz hv T.b_isinstance rfl (i := 4) rfl rfl (.inl rfl) (clsE_blt (BSu.gl rfl) T.b_ValueError (by decide +kernel)) T.k_BadSize_ValueError))))))) (fun hc => ?gt_33) (fun hc => ?gf_34)
                  case gt_33 =>
                    exfalso; revert hc; simp
                  case gf_34 =>
                    try (simp only [decide_eq_true_eq, decide_eq_false_iff_not, Bool.not_eq_true', Bool.not_eq_false', Bool.not_eq_true, Bool.not_eq_false] at hc)
                    refine go_then ?go_35
                    refine go_ret (RT.su R) (de_ixOMS (R := (rSI X.K)) (xs := [("size", 0)]) ((default, 0) : Str × Int) BSu (i := 5) rfl rfl (.inl rfl) ?xl3 ?xh4 de_int) ?rs_36
                    (case xl3 => decide)
                    (case xh4 => first | decide | (show (0 : Int) < ((1 : Nat) : Int); decide))
                    (case rs_36 => exact Sub.rfl)
              case gf_26 =>
                exfalso; revert hc; simp
          case gf_16 =>
            exfalso; revert hc; simp
end K17

set_option Elab.async false
set_option linter.all false
set_option maxRecDepth 100000
set_option maxHeartbeats 4000000
namespace K17
open PySem PySem.Spec PyProof.Rows L2 DL
variable {P : Program} {w : World} {K : PySem.W.Frag} {mg : Str → Option Value} {base : Heap} {cs : Cs}
theorem sc__law_cell : FnScope ["_law_script", "_law_k"] ["_law_script", "_law_k"] (defScope s__law_cell) := ⟨rfl, rfl, rfl, by decide +kernel, rfl, by decide +kernel, by decide +kernel⟩
def sp__law_cell (K : PySem.W.Frag) (cs : Cs) : Sp := Pm (ι := List Int × Nat) (fun ⟨ns, k⟩ => True) (fun ⟨ns, k⟩ => [rLst K (ns.map rInt), rInt (k : Int)]) (fun ⟨ns, k⟩ => .val (rInt (ns.getD k 0)))
theorem ok__law_cell (T : Txt K mg cs) : Cal P w K mg base 1 "_law_cell" (sp__law_cell K cs) := by
  refine cal_ok T.d__law_cell sc__law_cell (fun g => rfl) (fun _ _ _ _ _ _ us hl => match us, hl with | [_, _], _ => rfl) ?_
  rintro X rfl rfl rfl rfl rfl B Bf ⟨ns, k⟩ F0 H0 D hp R hnx
  refine go_if (dt_lt (de_var B (i := 1) rfl rfl (.inl rfl)) (de_lenM B T.b_len (de_var B (i := 0) rfl rfl (.inl rfl)) rfl)) (fun hc => ?gt_1) (fun hc => ?gf_2)
  case gt_1 =>
    try (simp only [decide_eq_true_eq, decide_eq_false_iff_not, Bool.not_eq_true', Bool.not_eq_false', Bool.not_eq_true, Bool.not_eq_false] at hc)
    refine go_ret R (de_ixM (R := rInt) (0 : Int) ?xl1 ?xh2 (de_var B (i := 0) rfl rfl (.inl rfl)) (de_var B (i := 1) rfl rfl (.inl rfl))) ?rs_3
    (case xl1 => omega)
    (case xh2 => simpa using hc)
    (case rs_3 => exact Sub.rfl)
  case gf_2 =>
    try (simp only [decide_eq_true_eq, decide_eq_false_iff_not, Bool.not_eq_true', Bool.not_eq_false', Bool.not_eq_true, Bool.not_eq_false] at hc)
    refine go_then ?go_4
    refine go_ret R de_int ?rs_5
    (case rs_5 => exact Sub.of (by rw [getD_out (by simpa using hc)]))
theorem sc__law_gcd : FnScope ["_law_one", "_law_other", "_law_k"] ["_law_one", "_law_other"] (defScope s__law_gcd) := ⟨rfl, rfl, rfl, by decide +kernel, rfl, by decide +kernel, by decide +kernel⟩
def sp__law_gcd (K : PySem.W.Frag) (cs : Cs) : Sp := Pm (ι := Int × Int) (fun ⟨s, t⟩ => Lg s < 990 ∧ Lg t < 990) (fun ⟨s, t⟩ => [rInt s, rInt t]) (fun ⟨s, t⟩ => .val (rInt (Int.gcd s t : Nat)))
theorem ok__law_gcd (T : Txt K mg cs) : Cal P w K mg base 1 "_law_gcd" (sp__law_gcd K cs) := by
  refine cal_ok T.d__law_gcd sc__law_gcd (fun g => rfl) (fun _ _ _ _ _ _ us hl => match us, hl with | [_, _], _ => rfl) ?_
  rintro X rfl rfl rfl rfl rfl B Bf ⟨s, t⟩ F0 H0 D hp R hnx
  refine go_set B (i := 0) (de_abs B T.b_abs (de_var B (i := 0) rfl rfl (.inl rfl)) rfl) rfl (.inl rfl) ?go_1
  refine go_set B (i := 1) (de_abs B T.b_abs (de_var B (i := 1) rfl rfl (.inl rfl)) rfl) rfl (.inl rfl) ?go_2
  refine go_forS B (fun i => [(0, .im (rInt (eu i ((s.natAbs : Int), (t.natAbs : Int))).1)), (1, .im (rInt (eu i ((s.natAbs : Int), (t.natAbs : Int))).2)), (2, .any)]) (fun i => EuJ (s.natAbs : Int) (t.natAbs : Int) i) (sr_range1 B T.b_range de_int rfl ?r1 ?r2) _ (fun i hi => (dg_name B (i := 2) rfl (.inl rfl))) ?h0_3 ?j0_4 (fun F1 u i hi hj => ?gb_5) (fun hj => ?ge_6)
  (case r1 => decide)
  (case r2 => decide)
  (case h0_3 => refine .im ?h ?_; (case h => exact Sub.rfl); refine .im ?h ?_; (case h => exact Sub.rfl); refine .any ?_; exact .nil)
  (case j0_4 => exact euJ0 (by omega) (by omega))
  case gb_5 =>
    refine go_if (dt_eqI (de_var B (i := 1) rfl rfl (.inl rfl)) de_int) (fun hc => ?gt_7) (fun hc => ?gf_8)
    case gt_7 =>
      replace hc := of_decide_eq_true hc
      refine go_brk u ?gk_9
      case gk_9 =>
        refine go_ret R (de_var B (i := 0) rfl rfl (.inl rfl)) ?rs_10
        (case rs_10 => first | exact Sub.of (by rw [eu_gcd hj hc, gcd_abs]) | exact Sub.of (by rw [eu_gcd hj (eu_end hj (by omega) (by omega) (lg_abs hp.1) (lg_abs hp.2)), gcd_abs]))
    case gf_8 =>
      replace hc := of_decide_eq_false hc
      refine go_then ?go_11
      refine go_par B (i := 0) (j := 1) (de_var B (i := 1) rfl rfl (.inl rfl)) (de_mod ?z3 (de_toInt B T.b_int (de_var B (i := 0) rfl rfl (.inl rfl)) rfl) (de_var B (i := 1) rfl rfl (.inl rfl))) rfl rfl (by decide) rfl rfl ?go_12 (fun env h => by cases env; subst h; with_unfolding_all rfl)
      (case z3 => exact hc)
      refine go_turnS ?jn_13 ?ln_14
      (case jn_13 => exact euJ_step hj hc)
      (case ln_14 => refine .im ?h ?_; (case h => exact Sub.rfl); refine .im ?h ?_; (case h => exact Sub.rfl); refine .any ?_; exact .nil)
  case ge_6 =>
    refine go_ret R (de_var B (i := 0) rfl rfl (.inl rfl)) ?rs_15
    (case rs_15 => first | exact Sub.of (by rw [eu_gcd hj hc, gcd_abs]) | exact Sub.of (by rw [eu_gcd hj (eu_end hj (by omega) (by omega) (lg_abs hp.1) (lg_abs hp.2)), gcd_abs]))
theorem sc__law_top : FnScope ["_law_x"] ["_law_x"] (defScope s__law_top) := ⟨rfl, rfl, rfl, by decide +kernel, rfl, by decide +kernel, by decide +kernel⟩
def sp__law_top (K : PySem.W.Frag) (cs : Cs) : Sp := Pm (ι := Rat) (fun q => True) (fun q => [rNum K q]) (fun q => .val (rInt q.num))
theorem ok__law_top (T : Txt K mg cs) : Cal P w K mg base 1 "_law_top" (sp__law_top K cs) := by
  refine cal_ok T.d__law_top sc__law_top (fun g => rfl) (fun _ _ _ _ _ _ us hl => match us, hl with | [_], _ => rfl) ?_
  rintro X rfl rfl rfl rfl rfl B Bf q F0 H0 D hp R hnx
  refine go_if (dt_val (de_isi (T := "tuple") B T.b_isinstance rty_num kit_numT (de_var B (i := 0) rfl rfl (.inl rfl)) (de_ty B T.b_tuple (by decide +kernel) rfl) rfl)) (fun hc => ?gt_1) (fun hc => ?gf_2)
  case gt_1 =>
    try (simp only [decide_eq_true_eq, decide_eq_false_iff_not, Bool.not_eq_true', Bool.not_eq_false', Bool.not_eq_true, Bool.not_eq_false] at hc)
    refine go_ret R (de_num0 ?n1 (de_var B (i := 0) rfl rfl (.inl rfl))) ?rs_3
    (case n1 => simpa using hc)
    (case rs_3 => exact Sub.rfl)
  case gf_2 =>
    try (simp only [decide_eq_true_eq, decide_eq_false_iff_not, Bool.not_eq_true', Bool.not_eq_false', Bool.not_eq_true, Bool.not_eq_false] at hc)
    refine go_then ?go_4
    refine go_ret R (de_n2i ?n2 (de_var B (i := 0) rfl rfl (.inl rfl))) ?rs_5
    (case n2 => simpa using hc)
    (case rs_5 => exact Sub.rfl)
theorem sc__law_bottom : FnScope ["_law_x"] ["_law_x"] (defScope s__law_bottom) := ⟨rfl, rfl, rfl, by decide +kernel, rfl, by decide +kernel, by decide +kernel⟩
def sp__law_bottom (K : PySem.W.Frag) (cs : Cs) : Sp := Pm (ι := Rat) (fun q => True) (fun q => [rNum K q]) (fun q => .val (rInt (q.den : Int)))
theorem ok__law_bottom (T : Txt K mg cs) : Cal P w K mg base 1 "_law_bottom" (sp__law_bottom K cs) := by
  refine cal_ok T.d__law_bottom sc__law_bottom (fun g => rfl) (fun _ _ _ _ _ _ us hl => match us, hl with | [_], _ => rfl) ?_
  rintro X rfl rfl rfl rfl rfl B Bf q F0 H0 D hp R hnx
  refine go_if (dt_val (de_isi (T := "tuple") B T.b_isinstance rty_num kit_numT (de_var B (i := 0) rfl rfl (.inl rfl)) (de_ty B T.b_tuple (by decide +kernel) rfl) rfl)) (fun hc => ?gt_1) (fun hc => ?gf_2)
  case gt_1 =>
    try (simp only [decide_eq_true_eq, decide_eq_false_iff_not, Bool.not_eq_true', Bool.not_eq_false', Bool.not_eq_true, Bool.not_eq_false] at hc)
    refine go_ret R (de_num1 ?n1 (de_var B (i := 0) rfl rfl (.inl rfl))) ?rs_3
    (case n1 => simpa using hc)
    (case rs_3 => exact Sub.rfl)
  case gf_2 =>
    try (simp only [decide_eq_true_eq, decide_eq_false_iff_not, Bool.not_eq_true', Bool.not_eq_false', Bool.not_eq_true, Bool.not_eq_false] at hc)
    refine go_then ?go_4
    refine go_ret R de_int ?rs_5
    (case rs_5 => exact Sub.of (congrArg rInt (by simp at hc; omega)))
theorem sc__law_is_int : FnScope ["_law_x"] ["_law_x"] (defScope s__law_is_int) := ⟨rfl, rfl, rfl, by decide +kernel, rfl, by decide +kernel, by decide +kernel⟩
def sp__law_is_int (K : PySem.W.Frag) (cs : Cs) : Sp := Pm (ι := Rat) (fun q => True) (fun q => [rNum K q]) (fun q => .val (rBl (decide (q.den = 1))))
theorem ok__law_is_int (T : Txt K mg cs) : Cal P w K mg base 1 "_law_is_int" (sp__law_is_int K cs) := by
  refine cal_ok T.d__law_is_int sc__law_is_int (fun g => rfl) (fun _ _ _ _ _ _ us hl => match us, hl with | [_], _ => rfl) ?_
  rintro X rfl rfl rfl rfl rfl B Bf q F0 H0 D hp R hnx
  refine go_ret R (de_and (de_isi (T := "int") B T.b_isinstance rty_num kit_numI (de_var B (i := 0) rfl rfl (.inl rfl)) (de_ty B T.b_int (by decide +kernel) rfl) rfl) (fun hb1 => (de_one (de_not (de_isi (T := "bool") B T.b_isinstance rty_num kit_numB (de_var B (i := 0) rfl rfl (.inl rfl)) (de_ty B T.b_bool (by decide +kernel) rfl) rfl))))) ?rs_1
  (case rs_1 => exact Sub.of (by simp))
theorem sc__law_numbers : FnScope ["_law_script", "_law_k", "_law_many", "_law_cell_here", "_law_row", "_law_j", "_law_mixed"] ["_law_script", "_law_k", "_law_many"] (defScope s__law_numbers) := ⟨rfl, rfl, rfl, by decide +kernel, rfl, by decide +kernel, by decide +kernel⟩
def sp__law_numbers (K : PySem.W.Frag) (cs : Cs) : Sp := Pm (ι := List Int × Nat × Nat) (fun ⟨ns, k, many⟩ => many ≤ 100) (fun ⟨ns, k, many⟩ => [rLst K (ns.map rInt), rInt (k : Int), rInt (many : Int)]) (fun ⟨ns, k, many⟩ => .lst ((lawNums ns k many).map rInt))
theorem ok__law_numbers (T : Txt K mg cs) : Cal P w K mg base 2 "_law_numbers" (sp__law_numbers K cs) := by
  refine cal_ok T.d__law_numbers sc__law_numbers (fun g => rfl) (fun _ _ _ _ _ _ us hl => match us, hl with | [_, _, _], _ => rfl) ?_
  rintro X rfl rfl rfl rfl rfl B Bf ⟨ns, k, many⟩ F0 H0 D hp R hnx
  refine @go_nf _ _ _ _ _ _ [_, _, _, _, _, _, _] rfl ?go_1
  refine go_set B (i := 3) (de_abs B T.b_abs (CA.val (ca_call B (ok__law_cell T) (by decide) (_, _) trivial (da_cons (de_var B (i := 0) rfl rfl (.inl rfl)) (da_cons (de_var B (i := 1) rfl rfl (.inl rfl)) da_nil)) rfl)) rfl) rfl (.inl rfl) ?go_2
  refine @go_nf _ _ _ _ _ _ [_, _, _, _, _, _, _] rfl ?go_3
  refine go_setL B (i := 4) (dl_lst da_nil (show (0 : Nat) ≤ sizeLine by decide)) rfl (.inl rfl) ?go_4
  refine @go_nf _ _ _ _ _ _ [_, _, _, _, _, _, _] rfl ?go_5
  refine go_if (dt_ge (de_var B (i := 3) rfl rfl (.inl rfl)) (de_pow ⟨by decide, by decide, by decide⟩ de_int de_int)) (fun hc => ?gt_6) (fun hc => ?gf_7)
  case gt_6 =>
    replace hc : (10 : Int) ^ 18 ≤ ((ns.getD k 0).natAbs : Int) := of_decide_eq_true hc
    refine go_forS B (fun i => [(3, .im (rInt (divs (ns.getD k 0).natAbs i))), (4, .ow (((List.range i).map (bigN (ns.getD k 0).natAbs)).map rInt)), (5, .any)]) (fun i => True) (sr_range1 B T.b_range (de_var B (i := 2) rfl rfl (.inl rfl)) rfl ?r1 ?r2) _ (fun i hi => (dg_name B (i := 5) rfl (.inl rfl))) ?h0_8 ?j0_9 (fun F1 u i hi hj => ?gb_10) (fun hj => ?ge_11)
    (case r1 => first | omega | (have := hp; omega))
    (case r2 => first | omega | (have := hp; omega))
    (case h0_8 => refine .same ?_; refine .same ?_; refine .same ?_; refine .im ?h ?_; (case h => exact Sub.rfl); refine .ow ?h ?_; (case h => rfl); refine .any ?_; refine .same ?_; exact .nil)
    (case j0_9 => trivial)
    case gb_10 =>
      refine @go_nf _ _ _ _ _ _ [_, _, _, _, _, _, _] rfl ?go_12
      refine go_append B (i := 4) rfl (de_mod ?z3 (de_toInt B T.b_int (de_var B (i := 3) rfl rfl (.inl rfl)) rfl) de_int) ?s4 rfl (.inl rfl) ?go_13
      (case z3 => decide)
      (case s4 => simp; exact Nat.lt_of_le_of_lt (by omega : i ≤ 100) (by decide))
      refine @go_nf _ _ _ _ _ _ [_, _, _, _, _, _, _] rfl ?go_14
      refine go_set B (i := 3) (de_divG ?z5 ?d6 (de_var B (i := 3) rfl rfl (.inl rfl)) de_int) rfl (.inl rfl) ?go_15
      (case z5 => decide)
      (case d6 => decide)
      refine @go_nf _ _ _ _ _ _ [_, _, _, _, _, _, _] rfl ?go_16
      refine go_turnS ?jn_17 ?ln_18
      (case jn_17 => trivial)
      (case ln_18 => refine .same ?_; refine .same ?_; refine .same ?_; refine .im ?h ?_; (case h => exact Sub.rfl); refine .ow ?h ?_; (case h => rw [List.range_succ]; simp [bigN]); refine .any ?_; refine .same ?_; exact .nil)
    case ge_11 =>
      refine @go_nf _ _ _ _ _ _ [_, _, _, _, _, _, _] rfl ?go_19
      refine go_retV B (i := 4) R rfl ?rs_20 rfl (.inl rfl)
      (case rs_20 => first | rw [lawNums, if_pos hc, Int.toNat_natCast] | rw [lawNums, if_neg hc, Int.toNat_natCast])
  case gf_7 =>
    replace hc : ¬ (10 : Int) ^ 18 ≤ ((ns.getD k 0).natAbs : Int) := of_decide_eq_false hc; have hc2 : (((ns.getD k 0).natAbs : Int)).natAbs < 18446744073709551616 := by omega
    refine go_then ?go_21
    refine go_forS B (fun i => [(4, .ow (((List.range i).map (smallN (ns.getD k 0).natAbs)).map rInt)), (5, .any), (6, .any)]) (fun i => True) (sr_range1 B T.b_range (de_var B (i := 2) rfl rfl (.inl rfl)) rfl ?r7 ?r8) _ (fun i hi => (dg_name B (i := 5) rfl (.inl rfl))) ?h0_22 ?j0_23 (fun F1 u i hi hj => ?gb_24) (fun hj => ?ge_25)
    (case r7 => first | omega | (have := hp; omega))
    (case r8 => first | omega | (have := hp; omega))
    (case h0_22 => refine .same ?_; refine .same ?_; refine .same ?_; refine .same ?_; refine .ow ?h ?_; (case h => rfl); refine .any ?_; refine .any ?_; exact .nil)
    (case j0_23 => trivial)
    case gb_24 =>
      refine @go_nf _ _ _ _ _ _ [_, _, _, _, _, _, _] rfl ?go_26
      refine go_set B (i := 6) (de_mod ?z11 (de_toInt B T.b_int (de_add (de_add (de_mulG ?m9 (de_var B (i := 3) rfl rfl (.inl rfl)) de_int) (de_mulG ?m10 de_int (de_var B (i := 5) rfl rfl (.inl rfl)))) de_int) rfl) de_int) rfl (.inl rfl) ?go_27
      (case m9 => first | exact mul_s hc2 (by decide) | exact mul_s (by decide) (by omega) | exact mul_s (sm16 _) (by decide))
      (case m10 => first | exact mul_s hc2 (by decide) | exact mul_s (by decide) (by omega) | exact mul_s (sm16 _) (by decide))
      (case z11 => decide)
      refine @go_nf _ _ _ _ _ _ [_, _, _, _, _, _, _] rfl ?go_28
      refine go_append B (i := 4) rfl (de_mod ?z15 (de_toInt B T.b_int (de_add (de_mulG ?m14 (de_divG ?z12 ?d13 (de_var B (i := 6) rfl rfl (.inl rfl)) de_int) de_int) (de_var B (i := 5) rfl rfl (.inl rfl))) rfl) de_int) ?s16 rfl (.inl rfl) ?go_29
      (case z12 => decide)
      (case d13 => decide)
      (case m14 => first | exact mul_s hc2 (by decide) | exact mul_s (by decide) (by omega) | exact mul_s (sm16 _) (by decide))
      (case z15 => decide)
      (case s16 => simp; exact Nat.lt_of_le_of_lt (by omega : i ≤ 100) (by decide))
      refine @go_nf _ _ _ _ _ _ [_, _, _, _, _, _, _] rfl ?go_30
      refine go_turnS ?jn_31 ?ln_32
      (case jn_31 => trivial)
      (case ln_32 => refine .same ?_; refine .same ?_; refine .same ?_; refine .same ?_; refine .ow ?h ?_; (case h => rw [List.range_succ]; simp [smallN]); refine .any ?_; refine .any ?_; exact .nil)
    case ge_25 =>
      refine @go_nf _ _ _ _ _ _ [_, _, _, _, _, _, _] rfl ?go_33
      refine go_retV B (i := 4) R rfl ?rs_34 rfl (.inl rfl)
      (case rs_34 => first | rw [lawNums, if_pos hc, Int.toNat_natCast] | rw [lawNums, if_neg hc, Int.toNat_natCast])
theorem sc__law_make : FnScope ["_law_top_here", "_law_bottom_here", "_law_common"] ["_law_top_here", "_law_bottom_here"] (defScope s__law_make) := ⟨rfl, rfl, rfl, by decide +kernel, rfl, by decide +kernel, by decide +kernel⟩
def sp__law_make (K : PySem.W.Frag) (cs : Cs) : Sp := Pm (ι := Int × Int) (fun ⟨t, b⟩ => b ≠ 0 ∧ Lg t < 990 ∧ Lg b < 990) (fun ⟨t, b⟩ => [rInt t, rInt b]) (fun ⟨t, b⟩ => .val (rNum K ((t : Rat) / (b : Rat))))
theorem ok__law_make (T : Txt K mg cs) : Cal P w K mg base 2 "_law_make" (sp__law_make K cs) := by
  refine cal_ok T.d__law_make sc__law_make (fun g => rfl) (fun _ _ _ _ _ _ us hl => match us, hl with | [_, _], _ => rfl) ?_
  rintro X rfl rfl rfl rfl rfl B Bf ⟨t, b⟩ F0 H0 D hp R hnx
  obtain ⟨hb, hp1, hp2⟩ := hp
  refine go_set B (i := 2) (CA.val (ca_call B (ok__law_gcd T) (by decide) (_, _) ?c_law_gcd_1 (da_cons (de_var B (i := 0) rfl rfl (.inl rfl)) (da_cons (de_var B (i := 1) rfl rfl (.inl rfl)) da_nil)) rfl)) rfl (.inl rfl) ?go_1
  (case c_law_gcd_1 => exact ⟨hp1, hp2⟩)
  refine go_if (dt_lt (de_var B (i := 1) rfl rfl (.inl rfl)) de_int) (fun hc => ?gt_2) (fun hc => ?gf_3)
  case gt_2 =>
    replace hc : b < 0 := of_decide_eq_true hc; have hl : lowC t b = -(Int.gcd t b : Int) := if_pos hc
    refine go_set B (i := 2) (de_neg (de_var B (i := 2) rfl rfl (.inl rfl))) rfl (.inl rfl) ?go_4
    refine go_then ?go_5
    refine go_if (dt_eqI (de_divG ?z2 ?d3 (de_var B (i := 1) rfl rfl (.inl rfl)) (de_var B (i := 2) rfl rfl (.inl rfl))) de_int) (fun hc => ?gt_6) (fun hc => ?gf_7)
    (case z2 => rw [← hl]; exact lowC_ne hb)
    (case d3 => rw [← hl]; exact Nat.lt_of_le_of_lt (lg_lowC hb) (Nat.lt_trans hp2 (by decide)))
    case gt_6 =>
      replace hc := of_decide_eq_true hc
      refine go_ret R (de_divG ?z4 ?d5 (de_var B (i := 0) rfl rfl (.inl rfl)) (de_var B (i := 2) rfl rfl (.inl rfl))) ?rs_8
      (case z4 => rw [← hl]; exact lowC_ne hb)
      (case d5 => rw [← hl]; exact Nat.lt_of_le_of_lt (lg_lowC hb) (Nat.lt_trans hp2 (by decide)))
      (case rs_8 => rw [← hl] at hc ⊢; exact sub_whole (rat_den1b hb hc) (rat_num hb))
    case gf_7 =>
      replace hc := of_decide_eq_false hc
      refine go_then ?go_9
      refine go_ret R (de_tup (da_cons (de_divG ?z6 ?d7 (de_var B (i := 0) rfl rfl (.inl rfl)) (de_var B (i := 2) rfl rfl (.inl rfl))) (da_cons (de_divG ?z8 ?d9 (de_var B (i := 1) rfl rfl (.inl rfl)) (de_var B (i := 2) rfl rfl (.inl rfl))) da_nil)) (show (2 : Nat) ≤ sizeLine by decide)) ?rs_10
      (case z6 => rw [← hl]; exact lowC_ne hb)
      (case d7 => rw [← hl]; exact Nat.lt_of_le_of_lt (lg_lowC hb) (Nat.lt_trans hp2 (by decide)))
      (case z8 => rw [← hl]; exact lowC_ne hb)
      (case d9 => rw [← hl]; exact Nat.lt_of_le_of_lt (lg_lowC hb) (Nat.lt_trans hp2 (by decide)))
      (case rs_10 => rw [← hl] at hc ⊢; exact sub_pair hc (rat_num hb) (rat_den hb))
  case gf_3 =>
    replace hc : ¬ b < 0 := of_decide_eq_false hc; have hl : lowC t b = (Int.gcd t b : Int) := if_neg hc
    refine go_then ?go_11
    refine go_if (dt_eqI (de_divG ?z10 ?d11 (de_var B (i := 1) rfl rfl (.inl rfl)) (de_var B (i := 2) rfl rfl (.inl rfl))) de_int) (fun hc => ?gt_12) (fun hc => ?gf_13)
    (case z10 => rw [← hl]; exact lowC_ne hb)
    (case d11 => rw [← hl]; exact Nat.lt_of_le_of_lt (lg_lowC hb) (Nat.lt_trans hp2 (by decide)))
    case gt_12 =>
      replace hc := of_decide_eq_true hc
      refine go_ret R (de_divG ?z12 ?d13 (de_var B (i := 0) rfl rfl (.inl rfl)) (de_var B (i := 2) rfl rfl (.inl rfl))) ?rs_14
      (case z12 => rw [← hl]; exact lowC_ne hb)
      (case d13 => rw [← hl]; exact Nat.lt_of_le_of_lt (lg_lowC hb) (Nat.lt_trans hp2 (by decide)))
      (case rs_14 => rw [← hl] at hc ⊢; exact sub_whole (rat_den1b hb hc) (rat_num hb))
    case gf_13 =>
      replace hc := of_decide_eq_false hc
      refine go_then ?go_15
      refine go_ret R (de_tup (da_cons (de_divG ?z14 ?d15 (de_var B (i := 0) rfl rfl (.inl rfl)) (de_var B (i := 2) rfl rfl (.inl rfl))) (da_cons (de_divG ?z16 ?d17 (de_var B (i := 1) rfl rfl (.inl rfl)) (de_var B (i := 2) rfl rfl (.inl rfl))) da_nil)) (show (2 : Nat) ≤ sizeLine by decide)) ?rs_16
      (case z14 => rw [← hl]; exact lowC_ne hb)
      (case d15 => rw [← hl]; exact Nat.lt_of_le_of_lt (lg_lowC hb) (Nat.lt_trans hp2 (by decide)))
      (case z16 => rw [← hl]; exact lowC_ne hb)
      (case d17 => rw [← hl]; exact Nat.lt_of_le_of_lt (lg_lowC hb) (Nat.lt_trans hp2 (by decide)))
      (case rs_16 => rw [← hl] at hc ⊢; exact sub_pair hc (rat_num hb) (rat_den hb))
theorem sc__law_is_number : FnScope ["_law_x"] ["_law_x"] (defScope s__law_is_number) := ⟨rfl, rfl, rfl, by decide +kernel, rfl, by decide +kernel, by decide +kernel⟩
def sp__law_is_number (K : PySem.W.Frag) (cs : Cs) : Sp := Pm (ι := Rat) (fun q => Sz 989 q) (fun q => [rNum K q]) (fun q => .val (rBl true))
theorem ok__law_is_number (T : Txt K mg cs) : Cal P w K mg base 2 "_law_is_number" (sp__law_is_number K cs) := by
  refine cal_ok T.d__law_is_number sc__law_is_number (fun g => rfl) (fun _ _ _ _ _ _ us hl => match us, hl with | [_], _ => rfl) ?_
  rintro X rfl rfl rfl rfl rfl B Bf q F0 H0 D hp R hnx
  refine go_if (dt_val (CA.val (ca_call B (ok__law_is_int T) (by decide) _ trivial (da_cons (de_var B (i := 0) rfl rfl (.inl rfl)) da_nil) rfl))) (fun hc => ?gt_1) (fun hc => ?gf_2)
  case gt_1 =>
    skip
    refine go_ret R de_bl ?rs_3
    (case rs_3 => exact Sub.rfl)
  case gf_2 =>
    have hd : q.den ≠ 1 := by simpa using hc
    refine go_then ?go_4
    refine go_if (DW.t (dw_or (dt_not (dt_val (de_isi (T := "tuple") B T.b_isinstance rty_num kit_numT (de_var B (i := 0) rfl rfl (.inl rfl)) (de_ty B T.b_tuple (by decide +kernel) rfl) rfl))) (fun hb1 => (dw_or (dt_neI (de_lenT B T.b_len (de_n2t ?n1 (de_var B (i := 0) rfl rfl (.inl rfl))) rfl) de_int) (fun hb2 => (dw_or (dt_not (dt_val (CA.val (ca_call B (ok__law_is_int T) (by decide) _ trivial (da_cons (de_i2n (de_num0 ?n2 (de_var B (i := 0) rfl rfl (.inl rfl)))) da_nil) rfl)))) (fun hb3 => (dw_or1 (dt_not (dt_val (CA.val (ca_call B (ok__law_is_int T) (by decide) _ trivial (da_cons (de_i2n (de_num1 ?n3 (de_var B (i := 0) rfl rfl (.inl rfl)))) da_nil) rfl)))))))))))) (fun hc => ?gt_5) (fun hc => ?gf_6)
    (case n1 => exact hd)
    (case n2 => exact hd)
    (case n3 => exact hd)
    case gt_5 =>
      try (simp only [decide_eq_true_eq, decide_eq_false_iff_not, Bool.not_eq_true', Bool.not_eq_false', Bool.not_eq_true, Bool.not_eq_false] at hc)
      refine go_ret R de_bl ?rs_7
      (case rs_7 => exfalso; simp [hd] at hc)
    case gf_6 =>
      try (simp only [decide_eq_true_eq, decide_eq_false_iff_not, Bool.not_eq_true', Bool.not_eq_false', Bool.not_eq_true, Bool.not_eq_false] at hc)
      refine go_then ?go_8
      refine go_ret R (de_and (de_geI (de_num1 ?n4 (de_var B (i := 0) rfl rfl (.inl rfl))) de_int) (fun hb1 => (de_one (de_eqI (CA.val (ca_call B (ok__law_gcd T) (by decide) (_, _) ?c_law_gcd_7 (da_cons (de_num0 ?n5 (de_var B (i := 0) rfl rfl (.inl rfl))) (da_cons (de_num1 ?n6 (de_var B (i := 0) rfl rfl (.inl rfl))) da_nil)) rfl)) de_int)))) ?rs_9
      (case n4 => exact hd)
      (case n5 => exact hd)
      (case n6 => exact hd)
      (case c_law_gcd_7 => exact ⟨Nat.lt_of_le_of_lt hp.1 (by decide), Nat.lt_of_le_of_lt hp.2 (by decide)⟩)
      (case rs_9 => exact Sub.of (by rw [low_terms hd]))
theorem sc__law_less : FnScope ["_law_x", "_law_y"] ["_law_x", "_law_y"] (defScope s__law_less) := ⟨rfl, rfl, rfl, by decide +kernel, rfl, by decide +kernel, by decide +kernel⟩
def sp__law_less (K : PySem.W.Frag) (cs : Cs) : Sp := Pm (ι := Rat × Rat) (fun ⟨q, r⟩ => Sz 400 q ∧ Sz 400 r) (fun ⟨q, r⟩ => [rNum K q, rNum K r]) (fun ⟨q, r⟩ => .val (rBl (decide (q < r))))
theorem ok__law_less (T : Txt K mg cs) : Cal P w K mg base 2 "_law_less" (sp__law_less K cs) := by
  refine cal_ok T.d__law_less sc__law_less (fun g => rfl) (fun _ _ _ _ _ _ us hl => match us, hl with | [_, _], _ => rfl) ?_
  rintro X rfl rfl rfl rfl rfl B Bf ⟨q, r⟩ F0 H0 D hp R hnx
  refine go_ret R (de_ltI (de_mulG ?m1 (CA.val (ca_call B (ok__law_top T) (by decide) _ trivial (da_cons (de_var B (i := 0) rfl rfl (.inl rfl)) da_nil) rfl)) (CA.val (ca_call B (ok__law_bottom T) (by decide) _ trivial (da_cons (de_var B (i := 1) rfl rfl (.inl rfl)) da_nil) rfl))) (de_mulG ?m2 (CA.val (ca_call B (ok__law_top T) (by decide) _ trivial (da_cons (de_var B (i := 1) rfl rfl (.inl rfl)) da_nil) rfl)) (CA.val (ca_call B (ok__law_bottom T) (by decide) _ trivial (da_cons (de_var B (i := 0) rfl rfl (.inl rfl)) da_nil) rfl)))) ?rs_1
  (case m1 => grind [Sz])
  (case m2 => grind [Sz])
  (case rs_1 => exact Sub.of (by rw [r_less]))
theorem sc__law_floor : FnScope ["_law_x"] ["_law_x"] (defScope s__law_floor) := ⟨rfl, rfl, rfl, by decide +kernel, rfl, by decide +kernel, by decide +kernel⟩
def sp__law_floor (K : PySem.W.Frag) (cs : Cs) : Sp := Pm (ι := Rat) (fun q => Sz 400 q) (fun q => [rNum K q]) (fun q => .val (rInt q.floor))
theorem ok__law_floor (T : Txt K mg cs) : Cal P w K mg base 2 "_law_floor" (sp__law_floor K cs) := by
  refine cal_ok T.d__law_floor sc__law_floor (fun g => rfl) (fun _ _ _ _ _ _ us hl => match us, hl with | [_], _ => rfl) ?_
  rintro X rfl rfl rfl rfl rfl B Bf q F0 H0 D hp R hnx
  refine go_ret R (de_divG ?z1 ?d2 (CA.val (ca_call B (ok__law_top T) (by decide) _ trivial (da_cons (de_var B (i := 0) rfl rfl (.inl rfl)) da_nil) rfl)) (CA.val (ca_call B (ok__law_bottom T) (by decide) _ trivial (da_cons (de_var B (i := 0) rfl rfl (.inl rfl)) da_nil) rfl))) ?rs_1
  (case z1 => exact den_neI q)
  (case d2 => grind [Sz])
  (case rs_1 => exact Sub.of (by rw [r_floor]))
theorem sc__law_ceiling : FnScope ["_law_x"] ["_law_x"] (defScope s__law_ceiling) := ⟨rfl, rfl, rfl, by decide +kernel, rfl, by decide +kernel, by decide +kernel⟩
def sp__law_ceiling (K : PySem.W.Frag) (cs : Cs) : Sp := Pm (ι := Rat) (fun q => Sz 400 q) (fun q => [rNum K q]) (fun q => .val (rInt q.ceil))
theorem ok__law_ceiling (T : Txt K mg cs) : Cal P w K mg base 2 "_law_ceiling" (sp__law_ceiling K cs) := by
  refine cal_ok T.d__law_ceiling sc__law_ceiling (fun g => rfl) (fun _ _ _ _ _ _ us hl => match us, hl with | [_], _ => rfl) ?_
  rintro X rfl rfl rfl rfl rfl B Bf q F0 H0 D hp R hnx
  refine go_ret R (de_neg (de_divG ?z1 ?d2 (de_neg (CA.val (ca_call B (ok__law_top T) (by decide) _ trivial (da_cons (de_var B (i := 0) rfl rfl (.inl rfl)) da_nil) rfl))) (CA.val (ca_call B (ok__law_bottom T) (by decide) _ trivial (da_cons (de_var B (i := 0) rfl rfl (.inl rfl)) da_nil) rfl)))) ?rs_1
  (case z1 => exact den_neI q)
  (case d2 => grind [Sz])
  (case rs_1 => exact Sub.of (by rw [r_ceil]))
theorem sc__law_plus : FnScope ["_law_x", "_law_y", "_law_top_here"] ["_law_x", "_law_y"] (defScope s__law_plus) := ⟨rfl, rfl, rfl, by decide +kernel, rfl, by decide +kernel, by decide +kernel⟩
def sp__law_plus (K : PySem.W.Frag) (cs : Cs) : Sp := Pm (ι := Rat × Rat) (fun ⟨q, r⟩ => Sz 400 q ∧ Sz 400 r) (fun ⟨q, r⟩ => [rNum K q, rNum K r]) (fun ⟨q, r⟩ => .val (rNum K (q + r)))
theorem ok__law_plus (T : Txt K mg cs) : Cal P w K mg base 3 "_law_plus" (sp__law_plus K cs) := by
  refine cal_ok T.d__law_plus sc__law_plus (fun g => rfl) (fun _ _ _ _ _ _ us hl => match us, hl with | [_, _], _ => rfl) ?_
  rintro X rfl rfl rfl rfl rfl B Bf ⟨q, r⟩ F0 H0 D hp R hnx
  refine go_set B (i := 2) (de_add (de_mulG ?m1 (CA.val (ca_call B (ok__law_top T) (by decide) _ trivial (da_cons (de_var B (i := 0) rfl rfl (.inl rfl)) da_nil) rfl)) (CA.val (ca_call B (ok__law_bottom T) (by decide) _ trivial (da_cons (de_var B (i := 1) rfl rfl (.inl rfl)) da_nil) rfl))) (de_mulG ?m2 (CA.val (ca_call B (ok__law_top T) (by decide) _ trivial (da_cons (de_var B (i := 1) rfl rfl (.inl rfl)) da_nil) rfl)) (CA.val (ca_call B (ok__law_bottom T) (by decide) _ trivial (da_cons (de_var B (i := 0) rfl rfl (.inl rfl)) da_nil) rfl)))) rfl (.inl rfl) ?go_1
  (case m1 => grind [Sz])
  (case m2 => grind [Sz])
  refine go_ret R (CA.val (ca_call B (ok__law_make T) (by decide) (_, _) ?c_law_make_4 (da_cons (de_var B (i := 2) rfl rfl (.inl rfl)) (da_cons (de_mulG ?m3 (CA.val (ca_call B (ok__law_bottom T) (by decide) _ trivial (da_cons (de_var B (i := 0) rfl rfl (.inl rfl)) da_nil) rfl)) (CA.val (ca_call B (ok__law_bottom T) (by decide) _ trivial (da_cons (de_var B (i := 1) rfl rfl (.inl rfl)) da_nil) rfl))) da_nil)) rfl)) ?rs_2
  (case m3 => grind [Sz])
  (case c_law_make_4 => exact lp_ok hp.1 hp.2)
  (case rs_2 => exact Sub.of (by rw [r_plus]))
theorem sc__law_times : FnScope ["_law_x", "_law_y"] ["_law_x", "_law_y"] (defScope s__law_times) := ⟨rfl, rfl, rfl, by decide +kernel, rfl, by decide +kernel, by decide +kernel⟩
def sp__law_times (K : PySem.W.Frag) (cs : Cs) : Sp := Pm (ι := Rat × Rat) (fun ⟨q, r⟩ => Lg q.num + Lg r.num < 980 ∧ Lg (q.den : Int) + Lg (r.den : Int) < 980) (fun ⟨q, r⟩ => [rNum K q, rNum K r]) (fun ⟨q, r⟩ => .val (rNum K (q * r)))
theorem ok__law_times (T : Txt K mg cs) : Cal P w K mg base 3 "_law_times" (sp__law_times K cs) := by
  refine cal_ok T.d__law_times sc__law_times (fun g => rfl) (fun _ _ _ _ _ _ us hl => match us, hl with | [_, _], _ => rfl) ?_
  rintro X rfl rfl rfl rfl rfl B Bf ⟨q, r⟩ F0 H0 D hp R hnx
  refine go_ret R (CA.val (ca_call B (ok__law_make T) (by decide) (_, _) ?c_law_make_3 (da_cons (de_mulG ?m1 (CA.val (ca_call B (ok__law_top T) (by decide) _ trivial (da_cons (de_var B (i := 0) rfl rfl (.inl rfl)) da_nil) rfl)) (CA.val (ca_call B (ok__law_top T) (by decide) _ trivial (da_cons (de_var B (i := 1) rfl rfl (.inl rfl)) da_nil) rfl))) (da_cons (de_mulG ?m2 (CA.val (ca_call B (ok__law_bottom T) (by decide) _ trivial (da_cons (de_var B (i := 0) rfl rfl (.inl rfl)) da_nil) rfl)) (CA.val (ca_call B (ok__law_bottom T) (by decide) _ trivial (da_cons (de_var B (i := 1) rfl rfl (.inl rfl)) da_nil) rfl))) da_nil)) rfl)) ?rs_1
  (case m1 => grind [Sz])
  (case m2 => grind [Sz])
  (case c_law_make_3 => exact lt_ok hp.1 hp.2)
  (case rs_1 => exact Sub.of (by rw [r_times]))
theorem sc__law_point : FnScope ["_law_numbers_here", "_law_size", "_law_large", "_law_row", "_law_k", "_law_top_here"] ["_law_numbers_here", "_law_size", "_law_large"] (defScope s__law_point) := ⟨rfl, rfl, rfl, by decide +kernel, rfl, by decide +kernel, by decide +kernel⟩
def sp__law_point (K : PySem.W.Frag) (cs : Cs) : Sp := Pm (ι := List Int × Nat × Bool) (fun ⟨ns, n, lg⟩ => n ≤ 1000 ∧ 2 * n ≤ ns.length) (fun ⟨ns, n, lg⟩ => [rLst K (ns.map rInt), rInt (n : Int), rBl lg]) (fun ⟨ns, n, lg⟩ => .lst ((pointQ ns n lg).map (rNum K)))
theorem ok__law_point (T : Txt K mg cs) : Cal P w K mg base 3 "_law_point" (sp__law_point K cs) := by
  refine cal_ok T.d__law_point sc__law_point (fun g => rfl) (fun _ _ _ _ _ _ us hl => match us, hl with | [_, _, _], _ => rfl) ?_
  rintro X rfl rfl rfl rfl rfl B Bf ⟨ns, n, lg⟩ F0 H0 D hp R hnx
  obtain ⟨hl, hn⟩ := hp
  refine @go_nf _ _ _ _ _ _ [_, _, _, _, _, _] rfl ?go_1
  refine go_setL B (i := 3) (dl_lst da_nil (show (0 : Nat) ≤ sizeLine by decide)) rfl (.inl rfl) ?go_2
  refine @go_nf _ _ _ _ _ _ [_, _, _, _, _, _] rfl ?go_3
  refine go_forS B (fun i => [(3, .ow (((List.range i).map (ptQ ns lg)).map (rNum X.K))), (4, .any), (5, .any)]) (fun i => True) (sr_range1 B T.b_range (de_var B (i := 1) rfl rfl (.inl rfl)) rfl ?r1 ?r2) _ (fun i hi => (dg_name B (i := 4) rfl (.inl rfl))) ?h0_4 ?j0_5 (fun F1 u i hi hj => ?gb_6) (fun hj => ?ge_7)
  (case r1 => first | exact Int.lt_of_le_of_lt (Int.ofNat_le.mpr hl) (by decide) | omega)
  (case r2 => first | exact Int.lt_of_le_of_lt (Int.ofNat_le.mpr hl) (by decide) | omega)
  (case h0_4 => refine .same ?_; refine .same ?_; refine .same ?_; refine .ow ?h ?_; (case h => rfl); refine .any ?_; refine .any ?_; exact .nil)
  (case j0_5 => trivial)
  case gb_6 =>
    refine @go_nf _ _ _ _ _ _ [_, _, _, _, _, _] rfl ?go_8
    refine go_set B (i := 5) (de_sub (de_mod ?z6 (de_toInt B T.b_int (de_ixM (R := rInt) (0 : Int) ?xl4 ?xh5 (de_var B (i := 0) rfl rfl (.inl rfl)) (de_mulG ?m3 de_int (de_var B (i := 4) rfl rfl (.inl rfl)))) rfl) de_int) de_int) rfl (.inl rfl) ?go_9
    (case m3 => first | exact pt_m _ _ | exact mul_s (by decide) (by omega))
    (case xl4 => omega)
    (case xh5 => omega)
    (case z6 => decide)
    refine @go_nf _ _ _ _ _ _ [_, _, _, _, _, _] rfl ?go_10
    refine go_if (dt_val (de_var B (i := 2) rfl rfl (.inl rfl))) (fun hc => ?gt_11) (fun hc => ?gf_12)
    case gt_11 =>
      have h2 := hc
      refine go_set B (i := 5) (de_mulG ?m7 (de_var B (i := 5) rfl rfl (.inl rfl)) (de_add (de_pow ⟨by decide, by decide, by decide⟩ de_int de_int) de_int)) rfl (.inl rfl) ?go_13
      (case m7 => first | exact pt_m _ _ | exact mul_s (by decide) (by omega))
      refine @go_nf _ _ _ _ _ _ [_, _, _, _, _, _] rfl ?go_14
      refine go_then ?go_15
      refine go_append B (i := 3) rfl (CA.val (ca_call B (ok__law_make T) (by decide) (_, _) ?c_law_make_12 (da_cons (de_var B (i := 5) rfl rfl (.inl rfl)) (da_cons (de_add de_int (de_mod ?z11 (de_toInt B T.b_int (de_ixM (R := rInt) (0 : Int) ?xl9 ?xh10 (de_var B (i := 0) rfl rfl (.inl rfl)) (de_add (de_mulG ?m8 de_int (de_var B (i := 4) rfl rfl (.inl rfl))) de_int)) rfl) de_int)) da_nil)) rfl)) ?s13 rfl (.inl rfl) ?go_16
      (case m8 => first | exact pt_m _ _ | exact mul_s (by decide) (by omega))
      (case xl9 => omega)
      (case xh10 => omega)
      (case z11 => decide)
      (case c_law_make_12 => first | exact pt_mkT | exact pt_mkF)
      (case s13 => simp; exact Nat.lt_of_lt_of_le (by omega) (show (1000 : Nat) ≤ sizeLine by decide))
      refine @go_nf _ _ _ _ _ _ [_, _, _, _, _, _] rfl ?go_17
      refine go_turnS ?jn_18 ?ln_19
      (case jn_18 => trivial)
      (case ln_19 => refine .same ?_; refine .same ?_; refine .same ?_; refine .ow ?h ?_; (case h => rw [List.range_succ, List.map_append, List.map_append]; first | exact congrArg (fun q => List.map (rNum X.K) (List.map (ptQ ns lg) (List.range i)) ++ [rNum X.K q]) (pt_t h2) | exact congrArg (fun q => List.map (rNum X.K) (List.map (ptQ ns lg) (List.range i)) ++ [rNum X.K q]) (pt_f h2)); refine .any ?_; refine .any ?_; exact .nil)
    case gf_12 =>
      have h2 : ¬ lg = true := by rw [hc]; exact Bool.false_ne_true
      refine go_then ?go_20
      refine go_append B (i := 3) rfl (CA.val (ca_call B (ok__law_make T) (by decide) (_, _) ?c_law_make_18 (da_cons (de_var B (i := 5) rfl rfl (.inl rfl)) (da_cons (de_add de_int (de_mod ?z17 (de_toInt B T.b_int (de_ixM (R := rInt) (0 : Int) ?xl15 ?xh16 (de_var B (i := 0) rfl rfl (.inl rfl)) (de_add (de_mulG ?m14 de_int (de_var B (i := 4) rfl rfl (.inl rfl))) de_int)) rfl) de_int)) da_nil)) rfl)) ?s19 rfl (.inl rfl) ?go_21
      (case m14 => first | exact pt_m _ _ | exact mul_s (by decide) (by omega))
      (case xl15 => omega)
      (case xh16 => omega)
      (case z17 => decide)
      (case c_law_make_18 => first | exact pt_mkT | exact pt_mkF)
      (case s19 => simp; exact Nat.lt_of_lt_of_le (by omega) (show (1000 : Nat) ≤ sizeLine by decide))
      refine @go_nf _ _ _ _ _ _ [_, _, _, _, _, _] rfl ?go_22
      refine go_turnS ?jn_23 ?ln_24
      (case jn_23 => trivial)
      (case ln_24 => refine .same ?_; refine .same ?_; refine .same ?_; refine .ow ?h ?_; (case h => rw [List.range_succ, List.map_append, List.map_append]; first | exact congrArg (fun q => List.map (rNum X.K) (List.map (ptQ ns lg) (List.range i)) ++ [rNum X.K q]) (pt_t h2) | exact congrArg (fun q => List.map (rNum X.K) (List.map (ptQ ns lg) (List.range i)) ++ [rNum X.K q]) (pt_f h2)); refine .any ?_; refine .any ?_; exact .nil)
  case ge_7 =>
    refine @go_nf _ _ _ _ _ _ [_, _, _, _, _, _] rfl ?go_25
    refine go_retV B (i := 3) R rfl ?rs_26 rfl (.inl rfl)
    (case rs_26 => rfl)
theorem sc__law_end : FnScope ["_law_x", "_law_number", "_law_upper", "_law_kind_here", "_law_move"] ["_law_x", "_law_number", "_law_upper"] (defScope s__law_end) := ⟨rfl, rfl, rfl, by decide +kernel, rfl, by decide +kernel, by decide +kernel⟩
def sp__law_end (K : PySem.W.Frag) (cs : Cs) : Sp := Pm (ι := Rat × Int × Bool) (fun ⟨x, n, up⟩ => Sz 400 x) (fun ⟨x, n, up⟩ => [rNum K x, rInt n, rBl up]) (fun ⟨x, n, up⟩ => .val (rOpt K (endQ x n up)))
theorem ok__law_end (T : Txt K mg cs) : Cal P w K mg base 3 "_law_end" (sp__law_end K cs) := by
  refine cal_ok T.d__law_end sc__law_end (fun g => rfl) (fun _ _ _ _ _ _ us hl => match us, hl with | [_, _, _], _ => rfl) ?_
  rintro X rfl rfl rfl rfl rfl B Bf ⟨x, n, up⟩ F0 H0 D hp R hnx
  refine go_set B (i := 3) (de_mod ?z1 (de_toInt B T.b_int (de_var B (i := 1) rfl rfl (.inl rfl)) rfl) de_int) rfl (.inl rfl) ?go_1
  (case z1 => decide)
  refine go_if (dt_eqI (de_var B (i := 3) rfl rfl (.inl rfl)) de_int) (fun hc => ?gt_2) (fun hc => ?gf_3)
  case gt_2 =>
    have h0 := of_decide_eq_true hc
    refine go_ret R (de_e2o de_non) ?rs_4
    (case rs_4 => first | exact Sub.of (congrArg (rOpt X.K) (end_0 h0)) | exact Sub.of (congrArg (rOpt X.K) (end_1 h0 h1)) | exact Sub.of (congrArg (rOpt X.K) (end_u h0 h1 hc)) | exact Sub.of (congrArg (rOpt X.K) (end_d h0 h1 hc)))
  case gf_3 =>
    have h0 := of_decide_eq_false hc
    refine go_then ?go_5
    refine go_if (dt_eqI (de_var B (i := 3) rfl rfl (.inl rfl)) de_int) (fun hc => ?gt_6) (fun hc => ?gf_7)
    case gt_6 =>
      have h1 := of_decide_eq_true hc
      refine go_ret R (de_n2o (de_var B (i := 0) rfl rfl (.inl rfl))) ?rs_8
      (case rs_8 => first | exact Sub.of (congrArg (rOpt X.K) (end_0 h0)) | exact Sub.of (congrArg (rOpt X.K) (end_1 h0 h1)) | exact Sub.of (congrArg (rOpt X.K) (end_u h0 h1 hc)) | exact Sub.of (congrArg (rOpt X.K) (end_d h0 h1 hc)))
    case gf_7 =>
      have h1 := of_decide_eq_false hc
      refine go_then ?go_9
      refine go_set B (i := 4) (de_mod ?z4 (de_divG ?z2 ?d3 (de_toInt B T.b_int (de_var B (i := 1) rfl rfl (.inl rfl)) rfl) de_int) de_int) rfl (.inl rfl) ?go_10
      (case z2 => decide)
      (case d3 => decide)
      (case z4 => decide)
      refine go_if (dt_val (de_var B (i := 2) rfl rfl (.inl rfl))) (fun hc => ?gt_11) (fun hc => ?gf_12)
      case gt_11 =>
        skip
        refine go_ret R (de_n2o (de_i2n (de_add (CA.val (ca_call B (ok__law_ceiling T) (by decide) _ ?c_law_ceiling_5 (da_cons (de_var B (i := 0) rfl rfl (.inl rfl)) da_nil) rfl)) (de_var B (i := 4) rfl rfl (.inl rfl))))) ?rs_13
        (case c_law_ceiling_5 => exact hp)
        (case rs_13 => first | exact Sub.of (congrArg (rOpt X.K) (end_0 h0)) | exact Sub.of (congrArg (rOpt X.K) (end_1 h0 h1)) | exact Sub.of (congrArg (rOpt X.K) (end_u h0 h1 hc)) | exact Sub.of (congrArg (rOpt X.K) (end_d h0 h1 hc)))
      case gf_12 =>
        skip
        refine go_then ?go_14
        refine go_ret R (de_n2o (de_i2n (de_sub (CA.val (ca_call B (ok__law_floor T) (by decide) _ ?c_law_floor_6 (da_cons (de_var B (i := 0) rfl rfl (.inl rfl)) da_nil) rfl)) (de_var B (i := 4) rfl rfl (.inl rfl))))) ?rs_15
        (case c_law_floor_6 => exact hp)
        (case rs_15 => first | exact Sub.of (congrArg (rOpt X.K) (end_0 h0)) | exact Sub.of (congrArg (rOpt X.K) (end_1 h0 h1)) | exact Sub.of (congrArg (rOpt X.K) (end_u h0 h1 hc)) | exact Sub.of (congrArg (rOpt X.K) (end_d h0 h1 hc)))
theorem sc__law_dot : FnScope ["_law_one", "_law_other", "_law_total", "_law_k"] ["_law_one", "_law_other"] (defScope s__law_dot) := ⟨rfl, rfl, rfl, by decide +kernel, rfl, by decide +kernel, by decide +kernel⟩
def sp__law_dot (K : PySem.W.Frag) (cs : Cs) : Sp := Pm (ι := List Rat × List Rat) (fun ⟨xs, ys⟩ => xs.length = ys.length ∧ xs.length ≤ 1000 ∧ ∀ i, i < min xs.length ys.length → Sz 100 (xs.getD i 0) ∧ Sz 100 (ys.getD i 0) ∧ Sz 400 (dotN xs ys i)) (fun ⟨xs, ys⟩ => [rLst K (xs.map (rNum K)), rLst K (ys.map (rNum K))]) (fun ⟨xs, ys⟩ => .val (rNum K (dotq xs ys)))
theorem ok__law_dot (T : Txt K mg cs) : Cal P w K mg base 4 "_law_dot" (sp__law_dot K cs) := by
  refine cal_ok T.d__law_dot sc__law_dot (fun g => rfl) (fun _ _ _ _ _ _ us hl => match us, hl with | [_, _], _ => rfl) ?_
  rintro X rfl rfl rfl rfl rfl B Bf ⟨xs, ys⟩ F0 H0 D hp R hnx
  obtain ⟨hl, hl2, hp⟩ := hp
  have hmin : min xs.length ys.length = xs.length := by omega
  rw [hmin] at hp
  refine go_set B (i := 2) (de_i2n de_int) rfl (.inl rfl) ?go_1
  refine go_forS B (fun i => [(2, .im (rNum X.K (dotN xs ys i))), (3, .any)]) (fun i => True) (sr_range1 B T.b_range (de_lenM B T.b_len (de_var B (i := 0) rfl rfl (.inl rfl)) rfl) rfl ?r1 ?r2) _ (fun i hi => (dg_name B (i := 3) rfl (.inl rfl))) ?h0_2 ?j0_3 (fun F1 u i hi hj => ?gb_4) (fun hj => ?ge_5)
  (case r1 => first | exact Int.lt_of_le_of_lt (Int.ofNat_le.mpr hl2) (by decide) | omega)
  (case r2 => first | exact Int.lt_of_le_of_lt (Int.ofNat_le.mpr hl2) (by decide) | omega)
  (case h0_2 => refine .same ?_; refine .same ?_; refine .im ?h ?_; (case h => exact Sub.rfl); refine .any ?_; exact .nil)
  (case j0_3 => trivial)
  case gb_4 =>
    refine go_set B (i := 2) (CA.val (ca_call B (ok__law_plus T) (by decide) (_, _) ?c_law_plus_8 (da_cons (de_var B (i := 2) rfl rfl (.inl rfl)) (da_cons (CA.val (ca_call B (ok__law_times T) (by decide) (_, _) ?c_law_times_7 (da_cons (de_ixM (R := (rNum X.K)) (0 : Rat) ?xl3 ?xh4 (de_var B (i := 0) rfl rfl (.inl rfl)) (de_var B (i := 3) rfl rfl (.inl rfl))) (da_cons (de_ixM (R := (rNum X.K)) (0 : Rat) ?xl5 ?xh6 (de_var B (i := 1) rfl rfl (.inl rfl)) (de_var B (i := 3) rfl rfl (.inl rfl))) da_nil)) rfl)) da_nil)) rfl)) rfl (.inl rfl) ?go_6
    (case xl3 => omega)
    (case xh4 => omega)
    (case xl5 => omega)
    (case xh6 => omega)
    (case c_law_times_7 => exact lt_sz (hp _ hi).1 (hp _ hi).2.1)
    (case c_law_plus_8 => exact ⟨(hp _ hi).2.2, (sz_mul (hp _ hi).1 (hp _ hi).2.1).mono (by decide)⟩)
    refine go_turnS ?jn_7 ?ln_8
    (case jn_7 => trivial)
    (case ln_8 => refine .same ?_; refine .same ?_; refine .im ?h ?_; (case h => exact Sub.rfl); refine .any ?_; exact .nil)
  case ge_5 =>
    refine go_ret R (de_var B (i := 2) rfl rfl (.inl rfl)) ?rs_9
    (case rs_9 => exact Sub.of (by rw [dotq, hmin]; simp))
theorem sc__law_box : FnScope ["_law_point_here", "_law_numbers_here", "_law_size", "_law_k"] ["_law_point_here", "_law_numbers_here"] (defScope s__law_box) := ⟨rfl, rfl, rfl, by decide +kernel, rfl, by decide +kernel, by decide +kernel⟩
def sp__law_box (K : PySem.W.Frag) (cs : Cs) : Sp := Pm (ι := List Rat × List Int) (fun ⟨qs, ns⟩ => qs.length ≤ 1000 ∧ 2 * qs.length ≤ ns.length ∧ ∀ q ∈ qs, Sz 400 q) (fun ⟨qs, ns⟩ => [rLst K (qs.map (rNum K)), rLst K (ns.map rInt)]) (fun ⟨qs, ns⟩ => .lst ((boxQ qs ns).map (rRg K)))
theorem ok__law_box (T : Txt K mg cs) : Cal P w K mg base 4 "_law_box" (sp__law_box K cs) := by
  refine cal_ok T.d__law_box sc__law_box (fun g => rfl) (fun _ _ _ _ _ _ us hl => match us, hl with | [_, _], _ => rfl) ?_
  rintro X rfl rfl rfl rfl rfl B Bf ⟨qs, ns⟩ F0 H0 D hp R hnx
  obtain ⟨hl, hn, hz⟩ := hp
  refine go_set B (i := 2) (de_lenM B T.b_len (de_var B (i := 0) rfl rfl (.inr (.inl rfl))) rfl) rfl (.inr ⟨rfl, Bf _⟩) ?go_1
  refine go_retL R (DL.to (l' := List.map (rRg X.K) (boxQ qs ns)) (dl_lc B [("_law_k", 3)] (sr_range1 B T.b_range (de_var B (i := 2) rfl rfl (.inr (.inl rfl))) rfl ?r1 ?r2) (blkOk_by (by decide +kernel)) _ (fun _ => true) (fun i : Nat => rRg X.K (endQ (qs.getD (i : Int).toNat 0) (ns.getD (i : Int).toNat 0) false, endQ (qs.getD (i : Int).toNat 0) (ns.getD ((qs.length : Int) + (i : Int)).toNat 0) true)) ?sz13 (by decide) (fun _ _ _ _ _ B i hi => (dg_name B (i := 3) rfl (.inl rfl))) (fun _ _ _ _ _ B i hi => dts_nil) (fun _ _ _ _ _ B i hi hb => (de_tup (da_cons (CA.val (ca_call B (ok__law_end T) (by decide) (_, _, _) ?c_law_end_7 (da_cons (de_ixM (R := (rNum X.K)) (0 : Rat) ?xl3 ?xh4 (de_var B (i := 0) rfl rfl (.inr (.inl rfl))) (de_var B (i := 3) rfl rfl (.inl rfl))) (da_cons (de_ixM (R := rInt) (0 : Int) ?xl5 ?xh6 (de_var B (i := 1) rfl rfl (.inr (.inl rfl))) (de_var B (i := 3) rfl rfl (.inl rfl))) (da_cons de_bl da_nil))) rfl)) (da_cons (CA.val (ca_call B (ok__law_end T) (by decide) (_, _, _) ?c_law_end_12 (da_cons (de_ixM (R := (rNum X.K)) (0 : Rat) ?xl8 ?xh9 (de_var B (i := 0) rfl rfl (.inr (.inl rfl))) (de_var B (i := 3) rfl rfl (.inl rfl))) (da_cons (de_ixM (R := rInt) (0 : Int) ?xl10 ?xh11 (de_var B (i := 1) rfl rfl (.inr (.inl rfl))) (de_add (de_var B (i := 2) rfl rfl (.inr (.inl rfl))) (de_var B (i := 3) rfl rfl (.inl rfl)))) (da_cons de_bl da_nil))) rfl)) da_nil)) (show (2 : Nat) ≤ sizeLine by decide)))) ?cl14) ?rs_2
  (case r1 => first | exact Int.lt_of_le_of_lt (Int.ofNat_le.mpr hl) (by decide) | omega)
  (case r2 => first | exact Int.lt_of_le_of_lt (Int.ofNat_le.mpr hl) (by decide) | omega)
  (case xl3 => omega)
  (case xh4 => omega)
  (case xl5 => omega)
  (case xh6 => omega)
  (case c_law_end_7 => exact getD_szq hz _)
  (case xl8 => omega)
  (case xh9 => omega)
  (case xl10 => omega)
  (case xh11 => omega)
  (case c_law_end_12 => exact getD_szq hz _)
  (case sz13 => exact Nat.lt_of_le_of_lt (Nat.le_of_eq (Int.toNat_natCast _)) (Nat.lt_of_le_of_lt hl (by decide)))
  (case cl14 => exact box_lc)
  (case rs_2 => rfl)
end K17

set_option Elab.async false
set_option linter.all false
set_option maxRecDepth 100000
set_option maxHeartbeats 4000000
namespace K17
open PySem PySem.Spec PyProof.Rows L2 DL
variable {P : Program} {w : World} {K : PySem.W.Frag} {mg : Str → Option Value} {base : Heap} {cs : Cs}
theorem sc__law_corner : FnScope ["_law_row", "_law_box_here", "_law_point_here", "_law_corner_here", "_law_k", "_law_end_here"] ["_law_row", "_law_box_here", "_law_point_here"] (defScope s__law_corner) := ⟨rfl, rfl, rfl, by decide +kernel, rfl, by decide +kernel, by decide +kernel⟩
def sp__law_corner (K : PySem.W.Frag) (cs : Cs) : Sp := Pm (ι := List Rat × List Rg × List Rat) (fun ⟨xs, bx, ps⟩ => xs.length ≤ 1000 ∧ xs.length = bx.length ∧ xs.length = ps.length) (fun ⟨xs, bx, ps⟩ => [rLst K (xs.map (rNum K)), rLst K (bx.map (rRg K)), rLst K (ps.map (rNum K))]) (fun ⟨xs, bx, ps⟩ => .val (rOptL K (cornerQ xs bx ps)))
theorem ok__law_corner (T : Txt K mg cs) : Cal P w K mg base 2 "_law_corner" (sp__law_corner K cs) := by
  refine cal_ok T.d__law_corner sc__law_corner (fun g => rfl) (fun _ _ _ _ _ _ us hl => match us, hl with | [_, _, _], _ => rfl) ?_
  rintro X rfl rfl rfl rfl rfl B Bf ⟨xs, bx, ps⟩ F0 H0 D hp R hnx
  obtain ⟨hl, he, hf⟩ := hp
  refine @go_nf _ _ _ _ _ _ [_, _, _, _, _, _] rfl ?go_1
  refine go_setL B (i := 3) (dl_lst da_nil (show (0 : Nat) ≤ sizeLine by decide)) rfl (.inl rfl) ?go_2
  refine @go_nf _ _ _ _ _ _ [_, _, _, _, _, _] rfl ?go_3
  refine go_forS B (fun i => [(3, .ow (((List.range i).map fun j => (cEnd xs bx ps j).getD 0).map (rNum X.K))), (4, .any), (5, .any)]) (fun i => ∀ j, j < i → (cEnd xs bx ps j).isNone = false) (sr_range1 B T.b_range (de_lenM B T.b_len (de_var B (i := 0) rfl rfl (.inl rfl)) rfl) rfl ?r1 ?r2) _ (fun i hi => (dg_name B (i := 4) rfl (.inl rfl))) ?h0_4 ?j0_5 (fun F1 u i hi hj => ?gb_6) (fun hj => ?ge_7)
  (case r1 => first | exact Int.lt_of_le_of_lt (Int.ofNat_le.mpr hl) (by decide) | omega)
  (case r2 => first | exact Int.lt_of_le_of_lt (Int.ofNat_le.mpr hl) (by decide) | omega)
  (case h0_4 => refine .same ?_; refine .same ?_; refine .same ?_; refine .ow ?h ?_; (case h => rfl); refine .any ?_; refine .any ?_; exact .nil)
  (case j0_5 => exact fun j hj => absurd hj (Nat.not_lt_zero j))
  case gb_6 =>
    refine @go_nf _ _ _ _ _ _ [_, _, _, _, _, _] rfl ?go_8
    refine go_set B (i := 5) (de_n2o (de_ixM (R := (rNum X.K)) (0 : Rat) ?xl3 ?xh4 (de_var B (i := 2) rfl rfl (.inl rfl)) (de_var B (i := 4) rfl rfl (.inl rfl)))) rfl (.inl rfl) ?go_9
    (case xl3 => omega)
    (case xh4 => omega)
    refine @go_nf _ _ _ _ _ _ [_, _, _, _, _, _] rfl ?go_10
    refine go_ifK [(5, .im (rOpt X.K (cEnd xs bx ps ((i : Nat) : Int).toNat)))] (dt_neI (CA.val (ca_call B (ok__law_top T) (by decide) _ trivial (da_cons (de_ixM (R := (rNum X.K)) (0 : Rat) ?xl5 ?xh6 (de_var B (i := 0) rfl rfl (.inl rfl)) (de_var B (i := 4) rfl rfl (.inl rfl))) da_nil) rfl)) de_int) ?gk_11 (fun hk hc => ?gt_12) (fun hk hc => ?gf_13)
    (case xl5 => omega)
    (case xh6 => omega)
    case gt_12 =>
      skip
      refine go_set B (i := 5) (DE.to (r' := rOpt X.K (cEnd xs bx ps ((i : Nat) : Int).toNat)) (de_if (dt_gt (CA.val (ca_call B (ok__law_top T) (by decide) _ trivial (da_cons (de_ixM (R := (rNum X.K)) (0 : Rat) ?xl9 ?xh10 (de_var B (i := 0) rfl rfl (.inl rfl)) (de_var B (i := 4) rfl rfl (.inl rfl))) da_nil) rfl)) de_int) (fun hc2 => DE.to (r' := rOpt X.K (cEnd xs bx ps ((i : Nat) : Int).toNat)) (de_ixT (r := rOpt X.K (Prod.snd _)) rfl (de_ixM (R := (rRg X.K)) ((none, none) : Rg) ?xl11 ?xh12 (de_var B (i := 1) rfl rfl (.inl rfl)) (de_var B (i := 4) rfl rfl (.inl rfl))) de_int) ?ta15) (fun hc2 => DE.to (r' := rOpt X.K (cEnd xs bx ps ((i : Nat) : Int).toNat)) (de_ixT (r := rOpt X.K (Prod.fst _)) rfl (de_ixM (R := (rRg X.K)) ((none, none) : Rg) ?xl13 ?xh14 (de_var B (i := 1) rfl rfl (.inl rfl)) (de_var B (i := 4) rfl rfl (.inl rfl))) de_int) ?tb16)) rfl) rfl (.inl rfl) ?go_14
      (case xl9 => omega)
      (case xh10 => omega)
      (case xl11 => omega)
      (case xh12 => omega)
      (case xl13 => omega)
      (case xh14 => omega)
      (case ta15 => exact congrArg (rOpt X.K) (cen_a hc hc2))
      (case tb16 => exact congrArg (rOpt X.K) (cen_b hc hc2))
      refine @go_nf _ _ _ _ _ _ [_, _, _, _, _, _] rfl ?go_15
      refine go_join hk ?jl_16
      (case jl_16 => refine .same ?_; refine .same ?_; refine .same ?_; refine .same ?_; refine .same ?_; refine .im ?h ?_; (case h => exact Sub.rfl); exact .nil)
    case gf_13 =>
      skip
      refine go_join hk ?jl_17
      (case jl_17 => refine .same ?_; refine .same ?_; refine .same ?_; refine .same ?_; refine .same ?_; refine .im ?h ?_; (case h => exact Sub.of (congrArg (rOpt X.K) (ce_f hc))); exact .nil)
    case gk_11 =>
      refine @go_nf _ _ _ _ _ _ [_, _, _, _, _, _] rfl ?go_18
      refine go_if (dt_isNo (de_var B (i := 5) rfl rfl (.inl rfl))) (fun hc => ?gt_19) (fun hc => ?gf_20)
      case gt_19 =>
        have hcn := hc
        refine go_ret (u.rt R) de_non ?rs_21
        (case rs_21 => exact Sub.of (show rOptL X.K none = _ from congrArg (rOptL X.K) (co_none (by omega) hcn)))
      case gf_20 =>
        have hcn := hc
        refine go_then ?go_22
        refine go_append B (i := 3) rfl (de_o2n ?on7 (de_var B (i := 5) rfl rfl (.inl rfl))) ?s8 rfl (.inl rfl) ?go_23
        (case on7 => exact hcn)
        (case s8 => simp; exact Nat.lt_of_lt_of_le (by omega) (show (1000 : Nat) ≤ sizeLine by decide))
        refine @go_nf _ _ _ _ _ _ [_, _, _, _, _, _] rfl ?go_24
        refine go_turnS ?jn_25 ?ln_26
        (case jn_25 => exact co_more hj hcn)
        (case ln_26 => refine .same ?_; refine .same ?_; refine .same ?_; refine .ow ?h ?_; (case h => rw [List.range_succ, List.map_append, List.map_append]; rfl); refine .any ?_; refine .any ?_; exact .nil)
  case ge_7 =>
    refine @go_nf _ _ _ _ _ _ [_, _, _, _, _, _] rfl ?go_27
    refine go_frozH 3 rfl ?go_28
    refine @go_nf _ _ _ _ _ _ [_, _, _, _, _, _] rfl ?go_29
    refine go_ret R (de_h2l (de_var B (i := 3) rfl rfl (.inl rfl))) ?rs_30
    (case rs_30 => exact Sub.of (show rOptL X.K (some _) = _ from congrArg (rOptL X.K) (co_some (by simpa using hj))))
theorem sc__law_within : FnScope ["_law_box_here", "_law_numbers_here", "_law_k"] ["_law_box_here", "_law_numbers_here"] (defScope s__law_within) := ⟨rfl, rfl, rfl, by decide +kernel, rfl, by decide +kernel, by decide +kernel⟩
def sp__law_within (K : PySem.W.Frag) (cs : Cs) : Sp := Pm (ι := List Rg × List Rat) (fun ⟨bx, xs⟩ => bx.length ≤ 1000 ∧ xs.length = bx.length ∧ (∀ q ∈ xs, Sz 400 q) ∧ ∀ p ∈ bx, SzB p) (fun ⟨bx, xs⟩ => [rLst K (bx.map (rRg K)), rLst K (xs.map (rNum K))]) (fun ⟨bx, xs⟩ => .val (rBl (withinQ xs bx)))
theorem ok__law_within (T : Txt K mg cs) : Cal P w K mg base 3 "_law_within" (sp__law_within K cs) := by
  refine cal_ok T.d__law_within sc__law_within (fun g => rfl) (fun _ _ _ _ _ _ us hl => match us, hl with | [_, _], _ => rfl) ?_
  rintro X rfl rfl rfl rfl rfl B Bf ⟨bx, xs⟩ F0 H0 D hp R hnx
  obtain ⟨hl, he, hz, hb⟩ := hp
  refine go_forS B (fun i => [(2, .any)]) (fun i => ∀ j, j < i → liesAt xs bx j = true) (sr_range1 B T.b_range (de_lenM B T.b_len (de_var B (i := 0) rfl rfl (.inl rfl)) rfl) rfl ?r1 ?r2) _ (fun i hi => (dg_name B (i := 2) rfl (.inl rfl))) ?h0_1 ?j0_2 (fun F1 u i hi hj => ?gb_3) (fun hj => ?ge_4)
  (case r1 => first | exact Int.lt_of_le_of_lt (Int.ofNat_le.mpr hl) (by decide) | omega)
  (case r2 => first | exact Int.lt_of_le_of_lt (Int.ofNat_le.mpr hl) (by decide) | omega)
  (case h0_1 => refine .same ?_; refine .same ?_; refine .any ?_; exact .nil)
  (case j0_2 => exact fun j hj => absurd hj (Nat.not_lt_zero j))
  case gb_3 =>
    refine go_if (DW.t (dw_and (dt_notNo (de_ixT (r := rOpt X.K (Prod.fst _)) rfl (de_ixM (R := (rRg X.K)) ((none, none) : Rg) ?xl3 ?xh4 (de_var B (i := 0) rfl rfl (.inl rfl)) (de_var B (i := 2) rfl rfl (.inl rfl))) de_int)) (fun hb1 => (dw_and1 (dt_val (CA.val (ca_call B (ok__law_less T) (by decide) (_, _) ?c_law_less_10 (da_cons (de_ixM (R := (rNum X.K)) (0 : Rat) ?xl5 ?xh6 (de_var B (i := 1) rfl rfl (.inl rfl)) (de_var B (i := 2) rfl rfl (.inl rfl))) (da_cons (de_o2n ?on9 (de_ixT (r := rOpt X.K (Prod.fst _)) rfl (de_ixM (R := (rRg X.K)) ((none, none) : Rg) ?xl7 ?xh8 (de_var B (i := 0) rfl rfl (.inl rfl)) (de_var B (i := 2) rfl rfl (.inl rfl))) de_int)) da_nil)) rfl))))))) (fun hc => ?gt_5) (fun hc => ?gf_6)
    (case xl3 => omega)
    (case xh4 => omega)
    (case xl5 => omega)
    (case xh6 => omega)
    (case xl7 => omega)
    (case xh8 => omega)
    (case on9 => first | assumption | (simpa using hb1) | (simpa using hb2))
    (case c_law_less_10 => first | exact ⟨getD_szq hz _, (getD_szb hb _).1.mono (by decide)⟩ | exact ⟨(getD_szb hb _).2.mono (by decide), getD_szq hz _⟩)
    case gt_5 =>
      have h1 := hc
      refine go_ret (u.rt R) de_bl ?rs_7
      (case rs_7 => first | exact Sub.of (congrArg rBl (wi_no2 (by omega) h2)) | exact Sub.of (congrArg rBl (wi_no1 (by omega) h1)))
    case gf_6 =>
      have h1 := hc
      refine go_then ?go_8
      refine go_if (DW.t (dw_and (dt_notNo (de_ixT (r := rOpt X.K (Prod.snd _)) rfl (de_ixM (R := (rRg X.K)) ((none, none) : Rg) ?xl11 ?xh12 (de_var B (i := 0) rfl rfl (.inl rfl)) (de_var B (i := 2) rfl rfl (.inl rfl))) de_int)) (fun hb1 => (dw_and1 (dt_val (CA.val (ca_call B (ok__law_less T) (by decide) (_, _) ?c_law_less_18 (da_cons (de_o2n ?on15 (de_ixT (r := rOpt X.K (Prod.snd _)) rfl (de_ixM (R := (rRg X.K)) ((none, none) : Rg) ?xl13 ?xh14 (de_var B (i := 0) rfl rfl (.inl rfl)) (de_var B (i := 2) rfl rfl (.inl rfl))) de_int)) (da_cons (de_ixM (R := (rNum X.K)) (0 : Rat) ?xl16 ?xh17 (de_var B (i := 1) rfl rfl (.inl rfl)) (de_var B (i := 2) rfl rfl (.inl rfl))) da_nil)) rfl))))))) (fun hc => ?gt_9) (fun hc => ?gf_10)
      (case xl11 => omega)
      (case xh12 => omega)
      (case xl13 => omega)
      (case xh14 => omega)
      (case on15 => first | assumption | (simpa using hb1) | (simpa using hb2))
      (case xl16 => omega)
      (case xh17 => omega)
      (case c_law_less_18 => first | exact ⟨getD_szq hz _, (getD_szb hb _).1.mono (by decide)⟩ | exact ⟨(getD_szb hb _).2.mono (by decide), getD_szq hz _⟩)
      case gt_9 =>
        have h2 := hc
        refine go_ret (u.rt R) de_bl ?rs_11
        (case rs_11 => first | exact Sub.of (congrArg rBl (wi_no2 (by omega) h2)) | exact Sub.of (congrArg rBl (wi_no1 (by omega) h1)))
      case gf_10 =>
        have h2 := hc
        refine go_then ?go_12
        refine go_turnS ?jn_13 ?ln_14
        (case jn_13 => exact wi_more hj h1 h2)
        (case ln_14 => refine .same ?_; refine .same ?_; refine .any ?_; exact .nil)
  case ge_4 =>
    refine go_ret R de_bl ?rs_15
    (case rs_15 => exact Sub.of (congrArg rBl (wi_yes hj he)))
theorem sc__law_is_box : FnScope ["_law_told", "_law_due", "_law_pair", "_law_end_here"] ["_law_told", "_law_due"] (defScope s__law_is_box) := ⟨rfl, rfl, rfl, by decide +kernel, rfl, by decide +kernel, by decide +kernel⟩
def sp__law_is_box (K : PySem.W.Frag) (cs : Cs) : Sp := Pm (ι := List Rg × List Rg) (fun ⟨bx, by_⟩ => bx = by_ ∧ ∀ p ∈ bx, SzB p) (fun ⟨bx, by_⟩ => [rLst K (bx.map (rRg K)), rLst K (by_.map (rRg K))]) (fun ⟨bx, by_⟩ => .val (rBl true))
theorem ok__law_is_box (T : Txt K mg cs) : Cal P w K mg base 3 "_law_is_box" (sp__law_is_box K cs) := by
  refine cal_ok T.d__law_is_box sc__law_is_box (fun g => rfl) (fun _ _ _ _ _ _ us hl => match us, hl with | [_, _], _ => rfl) ?_
  rintro X rfl rfl rfl rfl rfl B Bf ⟨bx, by_⟩ F0 H0 D hp R hnx
  obtain ⟨rfl, hb⟩ := hp
  refine go_if (DW.t (dw_or (dt_not (dt_val (de_isi (T := "list") B T.b_isinstance rty_lst (kit_ty (r := true) (by decide +kernel)) (de_var B (i := 0) rfl rfl (.inl rfl)) (de_ty B T.b_list (by decide +kernel) rfl) rfl))) (fun hb1 => (dw_or1 (dt_neI (de_lenM B T.b_len (de_var B (i := 0) rfl rfl (.inl rfl)) rfl) (de_lenM B T.b_len (de_var B (i := 1) rfl rfl (.inl rfl)) rfl)))))) (fun hc => ?gt_1) (fun hc => ?gf_2)
  case gt_1 =>
    exfalso; revert hc; simp
  case gf_2 =>
    try (simp only [decide_eq_true_eq, decide_eq_false_iff_not, Bool.not_eq_true', Bool.not_eq_false', Bool.not_eq_true, Bool.not_eq_false] at hc)
    refine go_then ?go_3
    refine go_forS B (fun i => [(2, .any), (3, .any)]) (fun i => True) (sr_listM (R := (rRg X.K)) ((none, none) : Rg) (de_var B (i := 0) rfl rfl (.inl rfl))) _ (fun i hi => (dg_name B (i := 2) rfl (.inl rfl))) ?h0_4 ?j0_5 (fun F1 u i hi hj => ?gb_6) (fun hj => ?ge_7)
    (case h0_4 => refine .same ?_; refine .same ?_; refine .any ?_; refine .any ?_; exact .nil)
    (case j0_5 => trivial)
    case gb_6 =>
      refine go_if (DW.t (dw_or (dt_not (dt_val (de_isi (T := "tuple") B T.b_isinstance rty_tup (kit_ty (r := true) (by decide +kernel)) (de_var B (i := 2) rfl rfl (.inl rfl)) (de_ty B T.b_tuple (by decide +kernel) rfl) rfl))) (fun hb1 => (dw_or1 (dt_neI (de_lenT B T.b_len (de_var B (i := 2) rfl rfl (.inl rfl)) rfl) de_int))))) (fun hc => ?gt_8) (fun hc => ?gf_9)
      case gt_8 =>
        exfalso; revert hc; simp
      case gf_9 =>
        try (simp only [decide_eq_true_eq, decide_eq_false_iff_not, Bool.not_eq_true', Bool.not_eq_false', Bool.not_eq_true, Bool.not_eq_false] at hc)
        refine go_then ?go_10
        refine go_forS B (fun i2 => [(3, .any)]) (fun i2 => True) (sr_tupM (R := rOpt X.K) (xs := [(bx.getD i (none, none)).1, (bx.getD i (none, none)).2]) (none : Option Rat) (de_var B (i := 2) rfl rfl (.inl rfl))) _ (fun i2 hi2 => (dg_name B (i := 3) rfl (.inl rfl))) ?h0_11 ?j0_12 (fun F12 u2 i2 hi2 hj2 => ?gb_13) (fun hj2 => ?ge_14)
        (case h0_11 => refine .same ?_; refine .same ?_; refine .same ?_; refine .any ?_; exact .nil)
        (case j0_12 => trivial)
        case gb_13 =>
          refine go_if (DW.t (dw_and (dt_notNo (de_var B (i := 3) rfl rfl (.inl rfl))) (fun hb1 => (dw_and1 (dt_not (dt_val (CA.val (ca_call B (ok__law_is_number T) (by decide) _ ?c_law_is_number_2 (da_cons (de_o2n ?on1 (de_var B (i := 3) rfl rfl (.inl rfl))) da_nil) rfl)))))))) (fun hc => ?gt_15) (fun hc => ?gf_16)
          (case on1 => first | assumption | (simpa using hb1) | (simpa using hb2))
          (case c_law_is_number_2 => exact (two_sz (getD_szb hb _) _).mono (by decide))
          case gt_15 =>
            exfalso; revert hc; simp
          case gf_16 =>
            try (simp only [decide_eq_true_eq, decide_eq_false_iff_not, Bool.not_eq_true', Bool.not_eq_false', Bool.not_eq_true, Bool.not_eq_false] at hc)
            refine go_then ?go_17
            refine go_turnS ?jn_18 ?ln_19
            (case jn_18 => trivial)
            (case ln_19 => refine .same ?_; refine .same ?_; refine .same ?_; refine .any ?_; exact .nil)
        case ge_14 =>
          refine go_turnS ?jn_20 ?ln_21
          (case jn_20 => trivial)
          (case ln_21 => refine .same ?_; refine .same ?_; refine .any ?_; refine .any ?_; exact .nil)
    case ge_7 =>
      refine go_ret R (de_eqT (dat_lst dat_rng) (by decide) B (de_var B (i := 0) rfl rfl (.inl rfl)) (de_var B (i := 1) rfl rfl (.inl rfl))) ?rs_22
      (case rs_22 => exact Sub.of (by simp))
theorem sc__law_joined : FnScope ["_law_boxes", "_law_box_here", "_law_k", "_law_low", "_law_high", "_law_one"] ["_law_boxes"] (defScope s__law_joined) := ⟨rfl, rfl, rfl, by decide +kernel, rfl, by decide +kernel, by decide +kernel⟩
def sp__law_joined (K : PySem.W.Frag) (cs : Cs) : Sp := Pm (ι := List (List Rg) × Nat) (fun ⟨bs, n⟩ => n ≤ 1000 ∧ (bs.getD 0 []).length = n ∧ 0 < bs.length ∧ (∀ x ∈ bs, x.length = n) ∧ ∀ x ∈ bs, ∀ p ∈ x, SzB p) (fun ⟨bs, n⟩ => [rLst K (bs.map fun l => rLst K (l.map (rRg K)))]) (fun ⟨bs, n⟩ => .lst ((joinR bs n).map (rRg K)))
theorem ok__law_joined (T : Txt K mg cs) : Cal P w K mg base 3 "_law_joined" (sp__law_joined K cs) := by
  refine cal_ok T.d__law_joined sc__law_joined (fun g => rfl) (fun _ _ _ _ _ _ us hl => match us, hl with | [_], _ => rfl) ?_
  rintro X rfl rfl rfl rfl rfl B Bf ⟨bs, n⟩ F0 H0 D hp R hnx
  obtain ⟨hl, h0, hp0, hs, hb⟩ := hp
  have h0' : (bs.getD (Int.toNat 0) []).length = n := h0
  refine @go_nf _ _ _ _ _ _ [_, _, _, _, _, _] rfl ?go_1
  refine go_setL B (i := 1) (dl_lst da_nil (show (0 : Nat) ≤ sizeLine by decide)) rfl (.inl rfl) ?go_2
  refine @go_nf _ _ _ _ _ _ [_, _, _, _, _, _] rfl ?go_3
  refine go_forS B (fun i => [(1, .ow (((List.range i).map (allR bs)).map (rRg X.K))), (2, .any), (3, .any), (4, .any), (5, .any)]) (fun i => True) (sr_range1 B T.b_range (de_lenM B T.b_len (de_ixM (R := (fun l => rLst X.K (List.map (rRg X.K) l))) [] ?xl1 ?xh2 (de_var B (i := 0) rfl rfl (.inl rfl)) de_int) rfl) rfl ?r3 ?r4) _ (fun i hi => (dg_name B (i := 2) rfl (.inl rfl))) ?h0_4 ?j0_5 (fun F1 u i hi hj => ?gb_6) (fun hj => ?ge_7)
  (case xl1 => first | omega | decide)
  (case xh2 => first | omega | exact jn_i hs h0 hi hi2 | (exact Int.ofNat_lt.mpr hp0))
  (case r3 => omega)
  (case r4 => omega)
  (case h0_4 => refine .same ?_; refine .ow ?h ?_; (case h => rfl); refine .any ?_; refine .any ?_; refine .any ?_; refine .any ?_; exact .nil)
  (case j0_5 => trivial)
  case gb_6 =>
    refine @go_nf _ _ _ _ _ _ [_, _, _, _, _, _] rfl ?go_8
    refine go_set B (i := 3) (de_e2o de_non) rfl (.inl rfl) ?go_9
    refine @go_nf _ _ _ _ _ _ [_, _, _, _, _, _] rfl ?go_10
    refine go_set B (i := 4) (de_e2o de_non) rfl (.inl rfl) ?go_11
    refine @go_nf _ _ _ _ _ _ [_, _, _, _, _, _] rfl ?go_12
    refine go_forS B (fun i2 => [(3, .im (rOpt X.K (jLo bs i i2))), (4, .im (rOpt X.K (jHi bs i i2))), (5, .any)]) (fun i2 => True) (sr_listM (R := (fun l => rLst X.K (List.map (rRg X.K) l))) [] (de_var B (i := 0) rfl rfl (.inl rfl))) _ (fun i2 hi2 => (dg_name B (i := 5) rfl (.inl rfl))) ?h0_13 ?j0_14 (fun F12 u2 i2 hi2 hj2 => ?gb_15) (fun hj2 => ?ge_16)
    (case h0_13 => refine .same ?_; refine .same ?_; refine .same ?_; refine .im ?h ?_; (case h => exact Sub.rfl); refine .im ?h ?_; (case h => exact Sub.rfl); refine .any ?_; exact .nil)
    (case j0_14 => trivial)
    case gb_15 =>
      refine @go_nf _ _ _ _ _ _ [_, _, _, _, _, _] rfl ?go_17
      refine go_if (DW.t (dw_and (dt_notNo (de_ixT (r := rOpt X.K (Prod.fst _)) rfl (de_ixM (R := (rRg X.K)) ((none, none) : Rg) ?xl5 ?xh6 (de_var B (i := 5) rfl rfl (.inl rfl)) (de_var B (i := 2) rfl rfl (.inl rfl))) de_int)) (fun hb1 => (dw_and1 (DW.t (dw_or (dt_isNo (de_var B (i := 3) rfl rfl (.inl rfl))) (fun hb1 => (dw_or1 (dt_val (CA.val (ca_call B (ok__law_less T) (by decide) (_, _) ?c_law_less_11 (da_cons (de_o2n ?on7 (de_var B (i := 3) rfl rfl (.inl rfl))) (da_cons (de_o2n ?on10 (de_ixT (r := rOpt X.K (Prod.fst _)) rfl (de_ixM (R := (rRg X.K)) ((none, none) : Rg) ?xl8 ?xh9 (de_var B (i := 5) rfl rfl (.inl rfl)) (de_var B (i := 2) rfl rfl (.inl rfl))) de_int)) da_nil)) rfl))))))))))) (fun hc => ?gt_18) (fun hc => ?gf_19)
      (case xl5 => first | omega | decide)
      (case xh6 => first | omega | exact jn_i hs h0 hi hi2 | (exact Int.ofNat_lt.mpr hp0))
      (case on7 => first | assumption | (simpa using ‹(!Option.isNone _) = true›))
      (case xl8 => first | omega | decide)
      (case xh9 => first | omega | exact jn_i hs h0 hi hi2 | (exact Int.ofNat_lt.mpr hp0))
      (case on10 => first | assumption | (simpa using ‹(!Option.isNone _) = true›))
      (case c_law_less_11 => first | exact jn_lo hs h0 hb hi hi2 | exact jn_hi hs h0 hb hi hi2)
      case gt_18 =>
        have h1 := hc
        refine go_set B (i := 3) (de_ixT (r := rOpt X.K (Prod.fst _)) rfl (de_ixM (R := (rRg X.K)) ((none, none) : Rg) ?xl12 ?xh13 (de_var B (i := 5) rfl rfl (.inl rfl)) (de_var B (i := 2) rfl rfl (.inl rfl))) de_int) rfl (.inl rfl) ?go_20
        (case xl12 => first | omega | decide)
        (case xh13 => first | omega | exact jn_i hs h0 hi hi2 | (exact Int.ofNat_lt.mpr hp0))
        refine @go_nf _ _ _ _ _ _ [_, _, _, _, _, _] rfl ?go_21
        refine go_then ?go_22
        refine go_if (DW.t (dw_and (dt_notNo (de_ixT (r := rOpt X.K (Prod.snd _)) rfl (de_ixM (R := (rRg X.K)) ((none, none) : Rg) ?xl14 ?xh15 (de_var B (i := 5) rfl rfl (.inl rfl)) (de_var B (i := 2) rfl rfl (.inl rfl))) de_int)) (fun hb1 => (dw_and1 (DW.t (dw_or (dt_isNo (de_var B (i := 4) rfl rfl (.inl rfl))) (fun hb1 => (dw_or1 (dt_val (CA.val (ca_call B (ok__law_less T) (by decide) (_, _) ?c_law_less_20 (da_cons (de_o2n ?on18 (de_ixT (r := rOpt X.K (Prod.snd _)) rfl (de_ixM (R := (rRg X.K)) ((none, none) : Rg) ?xl16 ?xh17 (de_var B (i := 5) rfl rfl (.inl rfl)) (de_var B (i := 2) rfl rfl (.inl rfl))) de_int)) (da_cons (de_o2n ?on19 (de_var B (i := 4) rfl rfl (.inl rfl))) da_nil)) rfl))))))))))) (fun hc => ?gt_23) (fun hc => ?gf_24)
        (case xl14 => first | omega | decide)
        (case xh15 => first | omega | exact jn_i hs h0 hi hi2 | (exact Int.ofNat_lt.mpr hp0))
        (case xl16 => first | omega | decide)
        (case xh17 => first | omega | exact jn_i hs h0 hi hi2 | (exact Int.ofNat_lt.mpr hp0))
        (case on18 => first | assumption | (simpa using ‹(!Option.isNone _) = true›))
        (case on19 => first | assumption | (simpa using ‹(!Option.isNone _) = true›))
        (case c_law_less_20 => first | exact jn_lo hs h0 hb hi hi2 | exact jn_hi hs h0 hb hi hi2)
        case gt_23 =>
          have h2 := hc
          refine go_set B (i := 4) (de_ixT (r := rOpt X.K (Prod.snd _)) rfl (de_ixM (R := (rRg X.K)) ((none, none) : Rg) ?xl21 ?xh22 (de_var B (i := 5) rfl rfl (.inl rfl)) (de_var B (i := 2) rfl rfl (.inl rfl))) de_int) rfl (.inl rfl) ?go_25
          (case xl21 => first | omega | decide)
          (case xh22 => first | omega | exact jn_i hs h0 hi hi2 | (exact Int.ofNat_lt.mpr hp0))
          refine @go_nf _ _ _ _ _ _ [_, _, _, _, _, _] rfl ?go_26
          refine go_then ?go_27
          refine go_turnS ?jn_28 ?ln_29
          (case jn_28 => trivial)
          (case ln_29 => refine .same ?_; refine .same ?_; refine .same ?_; refine .im ?h ?_; (case h => first | exact Sub.of (congrArg (rOpt X.K) (jlo_t hi2 h1)) | exact Sub.of (congrArg (rOpt X.K) (jlo_f hi2 h1))); refine .im ?h ?_; (case h => first | exact Sub.of (congrArg (rOpt X.K) (jhi_t hi2 h2)) | exact Sub.of (congrArg (rOpt X.K) (jhi_f hi2 h2))); refine .any ?_; exact .nil)
        case gf_24 =>
          have h2 := hc
          refine go_then ?go_30
          refine go_turnS ?jn_31 ?ln_32
          (case jn_31 => trivial)
          (case ln_32 => refine .same ?_; refine .same ?_; refine .same ?_; refine .im ?h ?_; (case h => first | exact Sub.of (congrArg (rOpt X.K) (jlo_t hi2 h1)) | exact Sub.of (congrArg (rOpt X.K) (jlo_f hi2 h1))); refine .im ?h ?_; (case h => first | exact Sub.of (congrArg (rOpt X.K) (jhi_t hi2 h2)) | exact Sub.of (congrArg (rOpt X.K) (jhi_f hi2 h2))); refine .any ?_; exact .nil)
      case gf_19 =>
        have h1 := hc
        refine go_then ?go_33
        refine go_if (DW.t (dw_and (dt_notNo (de_ixT (r := rOpt X.K (Prod.snd _)) rfl (de_ixM (R := (rRg X.K)) ((none, none) : Rg) ?xl23 ?xh24 (de_var B (i := 5) rfl rfl (.inl rfl)) (de_var B (i := 2) rfl rfl (.inl rfl))) de_int)) (fun hb1 => (dw_and1 (DW.t (dw_or (dt_isNo (de_var B (i := 4) rfl rfl (.inl rfl))) (fun hb1 => (dw_or1 (dt_val (CA.val (ca_call B (ok__law_less T) (by decide) (_, _) ?c_law_less_29 (da_cons (de_o2n ?on27 (de_ixT (r := rOpt X.K (Prod.snd _)) rfl (de_ixM (R := (rRg X.K)) ((none, none) : Rg) ?xl25 ?xh26 (de_var B (i := 5) rfl rfl (.inl rfl)) (de_var B (i := 2) rfl rfl (.inl rfl))) de_int)) (da_cons (de_o2n ?on28 (de_var B (i := 4) rfl rfl (.inl rfl))) da_nil)) rfl))))))))))) (fun hc => ?gt_34) (fun hc => ?gf_35)
        (case xl23 => first | omega | decide)
        (case xh24 => first | omega | exact jn_i hs h0 hi hi2 | (exact Int.ofNat_lt.mpr hp0))
        (case xl25 => first | omega | decide)
        (case xh26 => first | omega | exact jn_i hs h0 hi hi2 | (exact Int.ofNat_lt.mpr hp0))
        (case on27 => first | assumption | (simpa using ‹(!Option.isNone _) = true›))
        (case on28 => first | assumption | (simpa using ‹(!Option.isNone _) = true›))
        (case c_law_less_29 => first | exact jn_lo hs h0 hb hi hi2 | exact jn_hi hs h0 hb hi hi2)
        case gt_34 =>
          have h2 := hc
          refine go_set B (i := 4) (de_ixT (r := rOpt X.K (Prod.snd _)) rfl (de_ixM (R := (rRg X.K)) ((none, none) : Rg) ?xl30 ?xh31 (de_var B (i := 5) rfl rfl (.inl rfl)) (de_var B (i := 2) rfl rfl (.inl rfl))) de_int) rfl (.inl rfl) ?go_36
          (case xl30 => first | omega | decide)
          (case xh31 => first | omega | exact jn_i hs h0 hi hi2 | (exact Int.ofNat_lt.mpr hp0))
          refine @go_nf _ _ _ _ _ _ [_, _, _, _, _, _] rfl ?go_37
          refine go_then ?go_38
          refine go_turnS ?jn_39 ?ln_40
          (case jn_39 => trivial)
          (case ln_40 => refine .same ?_; refine .same ?_; refine .same ?_; refine .im ?h ?_; (case h => first | exact Sub.of (congrArg (rOpt X.K) (jlo_t hi2 h1)) | exact Sub.of (congrArg (rOpt X.K) (jlo_f hi2 h1))); refine .im ?h ?_; (case h => first | exact Sub.of (congrArg (rOpt X.K) (jhi_t hi2 h2)) | exact Sub.of (congrArg (rOpt X.K) (jhi_f hi2 h2))); refine .any ?_; exact .nil)
        case gf_35 =>
          have h2 := hc
          refine go_then ?go_41
          refine go_turnS ?jn_42 ?ln_43
          (case jn_42 => trivial)
          (case ln_43 => refine .same ?_; refine .same ?_; refine .same ?_; refine .im ?h ?_; (case h => first | exact Sub.of (congrArg (rOpt X.K) (jlo_t hi2 h1)) | exact Sub.of (congrArg (rOpt X.K) (jlo_f hi2 h1))); refine .im ?h ?_; (case h => first | exact Sub.of (congrArg (rOpt X.K) (jhi_t hi2 h2)) | exact Sub.of (congrArg (rOpt X.K) (jhi_f hi2 h2))); refine .any ?_; exact .nil)
    case ge_16 =>
      refine @go_nf _ _ _ _ _ _ [_, _, _, _, _, _] rfl ?go_44
      refine go_append B (i := 1) rfl (de_tup (da_cons (de_var B (i := 3) rfl rfl (.inl rfl)) (da_cons (de_var B (i := 4) rfl rfl (.inl rfl)) da_nil)) (show (2 : Nat) ≤ sizeLine by decide)) ?s32 rfl (.inl rfl) ?go_45
      (case s32 => simp; exact Nat.lt_of_lt_of_le (by omega) (show (1000 : Nat) ≤ sizeLine by decide))
      refine @go_nf _ _ _ _ _ _ [_, _, _, _, _, _] rfl ?go_46
      refine go_turnS ?jn_47 ?ln_48
      (case jn_47 => trivial)
      (case ln_48 => refine .same ?_; refine .ow ?h ?_; (case h => rw [List.range_succ, List.map_append, List.map_append]; exact congrArg (List.map (rRg X.K) (List.map (allR bs) (List.range i)) ++ [·]) (congrArg (rRg X.K) j_all)); refine .any ?_; refine .any ?_; refine .any ?_; refine .any ?_; exact .nil)
  case ge_7 =>
    refine @go_nf _ _ _ _ _ _ [_, _, _, _, _, _] rfl ?go_49
    refine go_retV B (i := 1) R rfl ?rs_50 rfl (.inl rfl)
    (case rs_50 => rw [h0', Int.toNat_natCast]; rfl)
theorem sc__law_empty : FnScope ["_law_box_here", "_law_k"] ["_law_box_here"] (defScope s__law_empty) := ⟨rfl, rfl, rfl, by decide +kernel, rfl, by decide +kernel, by decide +kernel⟩
def sp__law_empty (K : PySem.W.Frag) (cs : Cs) : Sp := Pm (ι := List Rg) (fun bx => bx.length ≤ 1000 ∧ ∀ p ∈ bx, SzB p) (fun bx => [rLst K (bx.map (rRg K))]) (fun bx => .val (rOpt K (fullQ bx)))
theorem ok__law_empty (T : Txt K mg cs) : Cal P w K mg base 3 "_law_empty" (sp__law_empty K cs) := by
  refine cal_ok T.d__law_empty sc__law_empty (fun g => rfl) (fun _ _ _ _ _ _ us hl => match us, hl with | [_], _ => rfl) ?_
  rintro X rfl rfl rfl rfl rfl B Bf bx F0 H0 D hp R hnx
  obtain ⟨hl, hb⟩ := hp
  refine go_forS B (fun i => [(1, .any)]) (fun i => ∀ j, j < i → emptyQ (bx.getD j (none, none)).1 (bx.getD j (none, none)).2 = false) (sr_range1 B T.b_range (de_lenM B T.b_len (de_var B (i := 0) rfl rfl (.inl rfl)) rfl) rfl ?r1 ?r2) _ (fun i hi => (dg_name B (i := 1) rfl (.inl rfl))) ?h0_1 ?j0_2 (fun F1 u i hi hj => ?gb_3) (fun hj => ?ge_4)
  (case r1 => first | exact Int.lt_of_le_of_lt (Int.ofNat_le.mpr hl) (by decide) | omega)
  (case r2 => first | exact Int.lt_of_le_of_lt (Int.ofNat_le.mpr hl) (by decide) | omega)
  (case h0_1 => refine .same ?_; refine .any ?_; exact .nil)
  (case j0_2 => exact fun j hj => absurd hj (Nat.not_lt_zero j))
  case gb_3 =>
    refine go_if (DW.t (dw_and (dt_notNo (de_ixT (r := rOpt X.K (Prod.fst _)) rfl (de_ixM (R := (rRg X.K)) ((none, none) : Rg) ?xl3 ?xh4 (de_var B (i := 0) rfl rfl (.inl rfl)) (de_var B (i := 1) rfl rfl (.inl rfl))) de_int)) (fun hb1 => (dw_and (dt_notNo (de_ixT (r := rOpt X.K (Prod.snd _)) rfl (de_ixM (R := (rRg X.K)) ((none, none) : Rg) ?xl5 ?xh6 (de_var B (i := 0) rfl rfl (.inl rfl)) (de_var B (i := 1) rfl rfl (.inl rfl))) de_int)) (fun hb2 => (dw_and1 (dt_val (CA.val (ca_call B (ok__law_less T) (by decide) (_, _) ?c_law_less_13 (da_cons (de_o2n ?on9 (de_ixT (r := rOpt X.K (Prod.snd _)) rfl (de_ixM (R := (rRg X.K)) ((none, none) : Rg) ?xl7 ?xh8 (de_var B (i := 0) rfl rfl (.inl rfl)) (de_var B (i := 1) rfl rfl (.inl rfl))) de_int)) (da_cons (de_o2n ?on12 (de_ixT (r := rOpt X.K (Prod.fst _)) rfl (de_ixM (R := (rRg X.K)) ((none, none) : Rg) ?xl10 ?xh11 (de_var B (i := 0) rfl rfl (.inl rfl)) (de_var B (i := 1) rfl rfl (.inl rfl))) de_int)) da_nil)) rfl))))))))) (fun hc => ?gt_5) (fun hc => ?gf_6)
    (case xl3 => omega)
    (case xh4 => omega)
    (case xl5 => omega)
    (case xh6 => omega)
    (case xl7 => omega)
    (case xh8 => omega)
    (case on9 => first | assumption | (simpa using hb1) | (simpa using hb2))
    (case xl10 => omega)
    (case xh11 => omega)
    (case on12 => first | assumption | (simpa using hb1) | (simpa using hb2))
    (case c_law_less_13 => exact ⟨(getD_szb hb _).2.mono (by decide), (getD_szb hb _).1.mono (by decide)⟩)
    case gt_5 =>
      skip
      refine go_ret (u.rt R) (de_n2o (de_i2n (de_var B (i := 1) rfl rfl (.inl rfl)))) ?rs_7
      (case rs_7 => exact Sub.of (congrArg (rOpt X.K) (fe_at hi hj hc)))
    case gf_6 =>
      skip
      refine go_then ?go_8
      refine go_turnS ?jn_9 ?ln_10
      (case jn_9 => exact fe_more hj hc)
      (case ln_10 => refine .same ?_; refine .any ?_; exact .nil)
  case ge_4 =>
    refine go_ret R (de_e2o de_non) ?rs_11
    (case rs_11 => exact Sub.of (congrArg (rOpt X.K) (fe_no hj)))
theorem sc__law_wider : FnScope ["_law_box_here", "_law_weights", "_law_width", "_law_made", "_law_k", "_law_more", "_law_low", "_law_high"] ["_law_box_here", "_law_weights", "_law_width"] (defScope s__law_wider) := ⟨rfl, rfl, rfl, by decide +kernel, rfl, by decide +kernel, by decide +kernel⟩
def sp__law_wider (K : PySem.W.Frag) (cs : Cs) : Sp := Pm (ι := List Rg × List Rat × Rat) (fun ⟨bx, ws, m⟩ => bx.length ≤ 1000 ∧ ws.length = bx.length ∧ (∀ p ∈ bx, SzB p) ∧ (∀ q ∈ ws, Sz 57 q) ∧ Sz 57 m) (fun ⟨bx, ws, m⟩ => [rLst K (bx.map (rRg K)), rLst K (ws.map (rNum K)), rNum K m]) (fun ⟨bx, ws, m⟩ => .lst ((widerQ bx ws m).map (rRg K)))
theorem ok__law_wider (T : Txt K mg cs) : Cal P w K mg base 4 "_law_wider" (sp__law_wider K cs) := by
  refine cal_ok T.d__law_wider sc__law_wider (fun g => rfl) (fun _ _ _ _ _ _ us hl => match us, hl with | [_, _, _], _ => rfl) ?_
  rintro X rfl rfl rfl rfl rfl B Bf ⟨bx, ws, m⟩ F0 H0 D hp R hnx
  obtain ⟨hl, he, hb, hz, hm⟩ := hp
  refine @go_nf _ _ _ _ _ _ [_, _, _, _, _, _, _, _] rfl ?go_1
  refine go_setL B (i := 3) (dl_lst da_nil (show (0 : Nat) ≤ sizeLine by decide)) rfl (.inl rfl) ?go_2
  refine @go_nf _ _ _ _ _ _ [_, _, _, _, _, _, _, _] rfl ?go_3
  refine go_forS B (fun i => [(3, .ow (((List.range i).map fun i => (movQ (bx.getD ((i : Nat) : Int).toNat (none, none)).1 (((-1 : Int) : Rat) * (ws.getD ((i : Nat) : Int).toNat 0 * m)), movQ (bx.getD ((i : Nat) : Int).toNat (none, none)).2 (ws.getD ((i : Nat) : Int).toNat 0 * m))).map (rRg X.K))), (4, .any), (5, .any), (6, .any), (7, .any)]) (fun i => True) (sr_range1 B T.b_range (de_lenM B T.b_len (de_var B (i := 0) rfl rfl (.inl rfl)) rfl) rfl ?r1 ?r2) _ (fun i hi => (dg_name B (i := 4) rfl (.inl rfl))) ?h0_4 ?j0_5 (fun F1 u i hi hj => ?gb_6) (fun hj => ?ge_7)
  (case r1 => first | exact Int.lt_of_le_of_lt (Int.ofNat_le.mpr hl) (by decide) | omega)
  (case r2 => first | exact Int.lt_of_le_of_lt (Int.ofNat_le.mpr hl) (by decide) | omega)
  (case h0_4 => refine .same ?_; refine .same ?_; refine .same ?_; refine .ow ?h ?_; (case h => rfl); refine .any ?_; refine .any ?_; refine .any ?_; refine .any ?_; exact .nil)
  (case j0_5 => trivial)
  case gb_6 =>
    refine @go_nf _ _ _ _ _ _ [_, _, _, _, _, _, _, _] rfl ?go_8
    refine go_set B (i := 5) (CA.val (ca_call B (ok__law_times T) (by decide) (_, _) ?c_t1_5 (da_cons (de_ixM (R := (rNum X.K)) (0 : Rat) ?xl3 ?xh4 (de_var B (i := 1) rfl rfl (.inl rfl)) (de_var B (i := 4) rfl rfl (.inl rfl))) (da_cons (de_var B (i := 2) rfl rfl (.inl rfl)) da_nil)) rfl)) rfl (.inl rfl) ?go_9
    (case xl3 => omega)
    (case xh4 => omega)
    (case c_t1_5 => exact lt_sz ((getD_szq hz _).mono (by decide)) (hm.mono (by decide)))
    refine @go_nf _ _ _ _ _ _ [_, _, _, _, _, _, _, _] rfl ?go_10
    refine go_set B (i := 6) (de_e2o de_non) rfl (.inl rfl) ?go_11
    refine @go_nf _ _ _ _ _ _ [_, _, _, _, _, _, _, _] rfl ?go_12
    refine go_set B (i := 7) (de_e2o de_non) rfl (.inl rfl) ?go_13
    refine @go_nf _ _ _ _ _ _ [_, _, _, _, _, _, _, _] rfl ?go_14
    refine go_ifK [(6, .im (rOpt X.K (movQ (bx.getD ((i : Nat) : Int).toNat (none, none)).1 (((-1 : Int) : Rat) * (ws.getD ((i : Nat) : Int).toNat 0 * m)))))] (dt_notNo (de_ixT (r := rOpt X.K (Prod.fst _)) rfl (de_ixM (R := (rRg X.K)) ((none, none) : Rg) ?xl6 ?xh7 (de_var B (i := 0) rfl rfl (.inl rfl)) (de_var B (i := 4) rfl rfl (.inl rfl))) de_int)) ?gk_15 (fun hk hc => ?gt_16) (fun hk hc => ?gf_17)
    (case xl6 => omega)
    (case xh7 => omega)
    case gt_16 =>
      skip
      refine go_set B (i := 6) (de_n2o (CA.val (ca_call B (ok__law_plus T) (by decide) (_, _) ?c_p1_19 (da_cons (de_o2n ?on17 (de_ixT (r := rOpt X.K (Prod.fst _)) rfl (de_ixM (R := (rRg X.K)) ((none, none) : Rg) ?xl15 ?xh16 (de_var B (i := 0) rfl rfl (.inl rfl)) (de_var B (i := 4) rfl rfl (.inl rfl))) de_int)) (da_cons (CA.val (ca_call B (ok__law_times T) (by decide) (_, _) ?c_t2_18 (da_cons (de_i2n (de_neg de_int)) (da_cons (de_var B (i := 5) rfl rfl (.inl rfl)) da_nil)) rfl)) da_nil)) rfl))) rfl (.inl rfl) ?go_18
      (case xl15 => omega)
      (case xh16 => omega)
      (case on17 => simpa using hc)
      (case c_t2_18 => exact wd_t (getD_szq hz _) hm)
      (case c_p1_19 => exact ⟨(getD_szb hb _).1.mono (by decide), wd_n (getD_szq hz _) hm⟩)
      refine @go_nf _ _ _ _ _ _ [_, _, _, _, _, _, _, _] rfl ?go_19
      refine go_join hk ?jl_20
      (case jl_20 => refine .same ?_; refine .same ?_; refine .same ?_; refine .same ?_; refine .same ?_; refine .same ?_; refine .im ?h ?_; (case h => exact Sub.of (congrArg (rOpt X.K) (mov_f (by simpa using hc)))); refine .same ?_; exact .nil)
    case gf_17 =>
      skip
      refine go_join hk ?jl_21
      (case jl_21 => refine .same ?_; refine .same ?_; refine .same ?_; refine .same ?_; refine .same ?_; refine .same ?_; refine .im ?h ?_; (case h => exact Sub.of (congrArg (rOpt X.K) (mov_t (by simpa using hc)))); refine .same ?_; exact .nil)
    case gk_15 =>
      refine @go_nf _ _ _ _ _ _ [_, _, _, _, _, _, _, _] rfl ?go_22
      refine go_ifK [(7, .im (rOpt X.K (movQ (bx.getD ((i : Nat) : Int).toNat (none, none)).2 (ws.getD ((i : Nat) : Int).toNat 0 * m))))] (dt_notNo (de_ixT (r := rOpt X.K (Prod.snd _)) rfl (de_ixM (R := (rRg X.K)) ((none, none) : Rg) ?xl8 ?xh9 (de_var B (i := 0) rfl rfl (.inl rfl)) (de_var B (i := 4) rfl rfl (.inl rfl))) de_int)) ?gk_23 (fun hk hc => ?gt_24) (fun hk hc => ?gf_25)
      (case xl8 => omega)
      (case xh9 => omega)
      case gt_24 =>
        skip
        refine go_set B (i := 7) (de_n2o (CA.val (ca_call B (ok__law_plus T) (by decide) (_, _) ?c_p2_14 (da_cons (de_o2n ?on13 (de_ixT (r := rOpt X.K (Prod.snd _)) rfl (de_ixM (R := (rRg X.K)) ((none, none) : Rg) ?xl11 ?xh12 (de_var B (i := 0) rfl rfl (.inl rfl)) (de_var B (i := 4) rfl rfl (.inl rfl))) de_int)) (da_cons (de_var B (i := 5) rfl rfl (.inl rfl)) da_nil)) rfl))) rfl (.inl rfl) ?go_26
        (case xl11 => omega)
        (case xh12 => omega)
        (case on13 => simpa using hc)
        (case c_p2_14 => exact ⟨(getD_szb hb _).2.mono (by decide), (sz_mul (getD_szq hz _) hm).mono (by decide)⟩)
        refine @go_nf _ _ _ _ _ _ [_, _, _, _, _, _, _, _] rfl ?go_27
        refine go_join hk ?jl_28
        (case jl_28 => refine .same ?_; refine .same ?_; refine .same ?_; refine .same ?_; refine .same ?_; refine .same ?_; refine .same ?_; refine .im ?h ?_; (case h => exact Sub.of (congrArg (rOpt X.K) (mov_f (by simpa using hc)))); exact .nil)
      case gf_25 =>
        skip
        refine go_join hk ?jl_29
        (case jl_29 => refine .same ?_; refine .same ?_; refine .same ?_; refine .same ?_; refine .same ?_; refine .same ?_; refine .same ?_; refine .im ?h ?_; (case h => exact Sub.of (congrArg (rOpt X.K) (mov_t (by simpa using hc)))); exact .nil)
      case gk_23 =>
        refine @go_nf _ _ _ _ _ _ [_, _, _, _, _, _, _, _] rfl ?go_30
        refine go_append B (i := 3) rfl (de_tup (da_cons (de_var B (i := 6) rfl rfl (.inl rfl)) (da_cons (de_var B (i := 7) rfl rfl (.inl rfl)) da_nil)) (show (2 : Nat) ≤ sizeLine by decide)) ?s10 rfl (.inl rfl) ?go_31
        (case s10 => simp; exact Nat.lt_of_lt_of_le (by omega) (show (1000 : Nat) ≤ sizeLine by decide))
        refine @go_nf _ _ _ _ _ _ [_, _, _, _, _, _, _, _] rfl ?go_32
        refine go_turnS ?jn_33 ?ln_34
        (case jn_33 => trivial)
        (case ln_34 => refine .same ?_; refine .same ?_; refine .same ?_; refine .ow ?h ?_; (case h => rw [List.range_succ, List.map_append, List.map_append]; rfl); refine .any ?_; refine .any ?_; refine .any ?_; refine .any ?_; exact .nil)
  case ge_7 =>
    refine @go_nf _ _ _ _ _ _ [_, _, _, _, _, _, _, _] rfl ?go_35
    refine go_retV B (i := 3) R rfl ?rs_36 rfl (.inl rfl)
    (case rs_36 => rfl)
theorem sc__law_around : FnScope ["_law_point_here", "_law_kept", "_law_told", "_law_x"] ["_law_point_here"] (defScope s__law_around) := ⟨rfl, rfl, rfl, by decide +kernel, rfl, by decide +kernel, by decide +kernel⟩
def sp__law_around (K : PySem.W.Frag) (cs : Cs) : Sp := Pm (ι := List Rat) (fun qs => qs.length ≤ 1000 ∧ ∀ q ∈ qs, Sz 57 q) (fun qs => [rLst K (qs.map (rNum K))]) (fun qs => .val (rBl true))
theorem ok__law_around (T : Txt K mg cs) : Cal P w K mg base 8 "_law_around" (sp__law_around K cs) := by
  refine cal_ok T.d__law_around sc__law_around (fun g => rfl) (fun _ _ _ _ _ _ us hl => match us, hl with | [_], _ => rfl) ?_
  rintro X rfl rfl rfl rfl rfl B Bf qs F0 H0 D hp R hnx
  obtain ⟨hl, hz⟩ := hp
  refine go_setL B (i := 1) (dl_list B T.b_list (de_var B (i := 0) rfl rfl (.inl rfl)) rfl) rfl (.inl rfl) ?go_1
  refine go_froz 1 rfl ?go_2
  refine go_setL B (i := 2) (CA.lst (ca_call B (ok_around T) (by decide) _ ?c_around_1 (da_cons (de_var B (i := 0) rfl rfl (.inl rfl)) da_nil) rfl)) rfl (.inl rfl) ?go_3
  (case c_around_1 => exact ⟨hl, fun q hq => (hz q hq).mono (by decide)⟩)
  refine go_froz 2 rfl ?go_4
  refine go_if (DW.t (dw_or (dt_not (dt_val (CA.val (ca_call B (ok__law_is_box T) (by decide) (_, _) ?c_law_is_box_6 (da_cons (de_var B (i := 2) rfl rfl (.inl rfl)) (da_cons (DL.froz (DL.to (l' := List.map (rRg X.K) (aroundQ qs)) (dl_lc B [("_law_x", 3)] (sr_listM (R := (rNum X.K)) (0 : Rat) (de_var B (i := 0) rfl rfl (.inl rfl))) (blkOk_by (by decide +kernel)) _ (fun _ => true) (fun i : Nat => rRg X.K (some (((qs.getD i 0).floor : Int) : Rat), some (((qs.getD i 0).ceil : Int) : Rat))) ?sz4 (by decide) (fun _ _ _ _ _ B i hi => (dg_name B (i := 3) rfl (.inl rfl))) (fun _ _ _ _ _ B i hi => dts_nil) (fun _ _ _ _ _ B i hi hb => (de_tup (da_cons (de_n2o (de_i2n (CA.val (ca_call B (ok__law_floor T) (by decide) _ ?c_law_floor_2 (da_cons (de_var B (i := 3) rfl rfl (.inl rfl)) da_nil) rfl)))) (da_cons (de_n2o (de_i2n (CA.val (ca_call B (ok__law_ceiling T) (by decide) _ ?c_law_ceiling_3 (da_cons (de_var B (i := 3) rfl rfl (.inl rfl)) da_nil) rfl)))) da_nil)) (show (2 : Nat) ≤ sizeLine by decide)))) ?cl5)) da_nil)) rfl)))) (fun hb1 => (dw_or1 (dt_neT (dat_lst dat_num) (by decide) B (de_var B (i := 0) rfl rfl (.inl rfl)) (de_var B (i := 1) rfl rfl (.inl rfl))))))) (fun hc => ?gt_5) (fun hc => ?gf_6)
  (case c_law_floor_2 => exact (hz _ (DL.getD_mem hi)).mono (by decide))
  (case c_law_ceiling_3 => exact (hz _ (DL.getD_mem hi)).mono (by decide))
  (case sz4 => exact Nat.lt_of_le_of_lt hl (by decide))
  (case cl5 => first | exact around_lc | exact open_lc)
  (case c_law_is_box_6 => exact ⟨rfl, ar_szb hz⟩)
  case gt_5 =>
    exfalso; revert hc; simp [ar_in]
  case gf_6 =>
    try (simp only [decide_eq_true_eq, decide_eq_false_iff_not, Bool.not_eq_true', Bool.not_eq_false', Bool.not_eq_true, Bool.not_eq_false] at hc)
    refine go_then ?go_7
    refine go_if (DW.t (dw_or (dt_notBl (CA.val (ca_callO (okr_inside X.K) B (ok_inside T) (by decide) (_, _) ?c_inside_7 ?o_inside_8 (da_cons (de_var B (i := 2) rfl rfl (.inl rfl)) (da_cons (de_var B (i := 0) rfl rfl (.inl rfl)) da_nil)) rfl))) (fun hb1 => (dw_or1 (dt_neT (dat_lst dat_num) (by decide) B (de_var B (i := 0) rfl rfl (.inl rfl)) (de_var B (i := 1) rfl rfl (.inl rfl))))))) (fun hc => ?gt_8) (fun hc => ?gf_9)
    (case c_inside_7 => first | exact ⟨fun q hq => (hz q hq).mono (by decide), fun p hp => szb_r (ar_szb hz p hp), hl⟩ | exact ⟨fun q hq => (hz q hq).mono (by decide), fun p hp => open_szr p hp, hl⟩)
    (case o_inside_8 => first | exact in_o around_len ar_full | exact in_o open_len open_full)
    case gt_8 =>
      exfalso; revert hc; simp [ar_in]
    case gf_9 =>
      try (simp only [decide_eq_true_eq, decide_eq_false_iff_not, Bool.not_eq_true', Bool.not_eq_false', Bool.not_eq_true, Bool.not_eq_false] at hc)
      refine go_then ?go_10
      refine go_ret R (de_isBl (CA.val (ca_callO (okr_inside X.K) B (ok_inside T) (by decide) (_, _) ?c_inside_11 ?o_inside_12 (da_cons (DL.froz (DL.to (l' := List.map (rRg X.K) (openQ qs)) (dl_lc B [("_law_x", 3)] (sr_listM (R := (rNum X.K)) (0 : Rat) (de_var B (i := 0) rfl rfl (.inl rfl))) (blkOk_by (by decide +kernel)) _ (fun _ => true) (fun i : Nat => rRg X.K (none, none)) ?sz9 (by decide) (fun _ _ _ _ _ B i hi => (dg_name B (i := 3) rfl (.inl rfl))) (fun _ _ _ _ _ B i hi => dts_nil) (fun _ _ _ _ _ B i hi hb => (de_tup (da_cons (de_e2o de_non) (da_cons (de_e2o de_non) da_nil)) (show (2 : Nat) ≤ sizeLine by decide)))) ?cl10)) (da_cons (DL.froz (dl_list B T.b_list (de_var B (i := 0) rfl rfl (.inl rfl)) rfl)) da_nil)) rfl))) ?rs_11
      (case sz9 => exact Nat.lt_of_le_of_lt hl (by decide))
      (case cl10 => first | exact around_lc | exact open_lc)
      (case c_inside_11 => first | exact ⟨fun q hq => (hz q hq).mono (by decide), fun p hp => szb_r (ar_szb hz p hp), hl⟩ | exact ⟨fun q hq => (hz q hq).mono (by decide), fun p hp => open_szr p hp, hl⟩)
      (case o_inside_12 => first | exact in_o around_len ar_full | exact in_o open_len open_full)
      (case rs_11 => exact Sub.of (by rw [open_in]; rfl))
end K17

set_option Elab.async false
set_option linter.all false
set_option maxRecDepth 100000
set_option maxHeartbeats 4000000
namespace K17
open PySem PySem.Spec PyProof.Rows L2 DL
variable {P : Program} {w : World} {K : PySem.W.Frag} {mg : Str → Option Value} {base : Heap} {cs : Cs}
theorem sc__law_worths : FnScope ["_law_row", "_law_box_here", "_law_point_here", "_law_weights", "_law_width", "_law_kept", "_law_corner_here", "_law_told", "_law_wide", "_law_grown", "_law_sizes", "_law_x"] ["_law_row", "_law_box_here", "_law_point_here", "_law_weights", "_law_width"] (defScope s__law_worths) := ⟨rfl, rfl, rfl, by decide +kernel, rfl, by decide +kernel, by decide +kernel⟩
def sp__law_worths (K : PySem.W.Frag) (cs : Cs) : Sp := Pm (ι := List Rat × List Rg × List Rat × List Rat × Rat) (fun ⟨xs, bx, ps, ws, m⟩ => LawB xs bx ps ws m) (fun ⟨xs, bx, ps, ws, m⟩ => [rLst K (xs.map (rNum K)), rLst K (bx.map (rRg K)), rLst K (ps.map (rNum K)), rLst K (ws.map (rNum K)), rNum K m]) (fun ⟨xs, bx, ps, ws, m⟩ => .val (rBl true))
theorem ok__law_worths (T : Txt K mg cs) : Cal P w K mg base 8 "_law_worths" (sp__law_worths K cs) := by
  refine cal_ok T.d__law_worths sc__law_worths (fun g => rfl) (fun _ _ _ _ _ _ us hl => match us, hl with | [_, _, _, _, _], _ => rfl) ?_
  rintro X rfl rfl rfl rfl rfl B Bf ⟨xs, bx, ps, ws, m⟩ F0 H0 D hp R hnx
  have H := hp
  have hl1 := hp.l1; have hl2 := hp.l2; have hl3 := hp.l3; have hln := hp.hn
  refine @go_nf _ _ _ _ _ _ [_, _, _, _, _, _, _, _, _, _, _, _] rfl ?go_1
  refine go_setL B (i := 5) (dl_lst (da_cons (DL.froz (dl_list B T.b_list (de_var B (i := 0) rfl rfl (.inl rfl)) rfl)) (da_cons (DL.froz (dl_list B T.b_list (de_var B (i := 1) rfl rfl (.inl rfl)) rfl)) (da_cons (DL.froz (dl_list B T.b_list (de_var B (i := 3) rfl rfl (.inl rfl)) rfl)) da_nil))) (show (3 : Nat) ≤ sizeLine by decide)) rfl (.inl rfl) ?go_2
  refine @go_nf _ _ _ _ _ _ [_, _, _, _, _, _, _, _, _, _, _, _] rfl ?go_3
  refine go_froz 5 rfl ?go_4
  refine @go_nf _ _ _ _ _ _ [_, _, _, _, _, _, _, _, _, _, _, _] rfl ?go_5
  refine go_set B (i := 6) (CA.val (ca_call B (ok__law_corner T) (by decide) (_, _, _) ?c_law_corner_1 (da_cons (de_var B (i := 0) rfl rfl (.inl rfl)) (da_cons (de_var B (i := 1) rfl rfl (.inl rfl)) (da_cons (de_var B (i := 2) rfl rfl (.inl rfl)) da_nil))) rfl)) rfl (.inl rfl) ?go_6
  (case c_law_corner_1 => exact ⟨by omega, hl1, by omega⟩)
  refine @go_nf _ _ _ _ _ _ [_, _, _, _, _, _, _, _, _, _, _, _] rfl ?go_7
  refine go_set B (i := 7) (CA.val (ca_callO (okr_greatest_worth X.K) B (ok_greatest_worth T) (by decide) (_, _) ?c_g1_2 ?o_greatest_worth_3 (da_cons (de_var B (i := 0) rfl rfl (.inl rfl)) (da_cons (de_var B (i := 1) rfl rfl (.inl rfl)) da_nil)) rfl)) rfl (.inl rfl) ?go_8
  (case c_g1_2 => exact ⟨by omega, fun q hq => (g7_sz (H.gx q hq)).mono (by decide), H.szb⟩)
  (case o_greatest_worth_3 => first | exact gw_o hl1 H.full | exact gw_o (by rw [H.wlen]; exact hl1) H.wfull)
  refine @go_nf _ _ _ _ _ _ [_, _, _, _, _, _, _, _, _, _, _, _] rfl ?go_9
  refine go_setL B (i := 8) (CA.lst (ca_callO (okr_widened X.K) B (ok_widened T) (by decide) (_, _, _) ?c_widened_4 ?o_widened_5 (da_cons (de_var B (i := 1) rfl rfl (.inl rfl)) (da_cons (de_var B (i := 3) rfl rfl (.inl rfl)) (da_cons (de_var B (i := 4) rfl rfl (.inl rfl)) da_nil))) rfl)) rfl (.inl rfl) ?go_10
  (case c_widened_4 => exact ⟨fun p hp => szb_r (H.szb p hp), by omega, by omega, fun q hq => (g7_sz (H.gw q hq)).mono (by decide), (g7_sz H.gm).mono (by decide)⟩)
  (case o_widened_5 => exact (in_o hl3.symm H.full).trans (if_neg H.low))
  refine @go_nf _ _ _ _ _ _ [_, _, _, _, _, _, _, _, _, _, _, _] rfl ?go_11
  refine go_froz 8 rfl ?go_12
  refine @go_nf _ _ _ _ _ _ [_, _, _, _, _, _, _, _, _, _, _, _] rfl ?go_13
  refine go_if (DW.t (dw_or (dt_neH3 (p := (xs, bx, ws)) (q := (xs, bx, ws)) B (DL.froz (dl_lst (da_cons (de_var B (i := 0) rfl rfl (.inl rfl)) (da_cons (de_var B (i := 1) rfl rfl (.inl rfl)) (da_cons (de_var B (i := 3) rfl rfl (.inl rfl)) da_nil))) (show (3 : Nat) ≤ sizeLine by decide))) (de_var B (i := 5) rfl rfl (.inl rfl))) (fun hb1 => (dw_or1 (dt_not (dt_val (CA.val (ca_call B (ok__law_is_box T) (by decide) (_, _) ?c_law_is_box_7 (da_cons (de_var B (i := 8) rfl rfl (.inl rfl)) (da_cons (DL.froz (CA.lst (ca_call B (ok__law_wider T) (by decide) (_, _, _) ?c_law_wider_6 (da_cons (de_var B (i := 1) rfl rfl (.inl rfl)) (da_cons (de_var B (i := 3) rfl rfl (.inl rfl)) (da_cons (de_var B (i := 4) rfl rfl (.inl rfl)) da_nil))) rfl))) da_nil)) rfl)))))))) (fun hc => ?gt_14) (fun hc => ?gf_15)
  (case c_law_wider_6 => exact ⟨by omega, hl3, H.szb, fun q hq => g7_sz (H.gw q hq), g7_sz H.gm⟩)
  (case c_law_is_box_7 => exact ⟨H.wid, H.wszb⟩)
  case gt_14 =>
    exfalso
    revert hc; simp
  case gf_15 =>
    skip
    refine go_then ?go_16
    refine go_if (dt_notBl (CA.val (ca_callO (okr_inside X.K) B (ok_inside T) (by decide) (_, _) ?c_i1_8 ?o_inside_9 (da_cons (de_var B (i := 8) rfl rfl (.inl rfl)) (da_cons (DL.froz (dl_list B T.b_list (de_var B (i := 2) rfl rfl (.inl rfl)) rfl)) da_nil)) rfl))) (fun hc => ?gt_17) (fun hc => ?gf_18)
    (case c_i1_8 => exact ⟨fun q hq => (g7_sz (H.gp q hq)).mono (by decide), fun p hp => szb_r (H.wszb p hp), by omega⟩)
    (case o_inside_9 => first | exact in_o (by rw [H.wlen]; omega) H.wfull | exact in_o (by rw [C.e1]; show _ = (cnrL xs bx ps).length; rw [cnr_len]; omega) H.full)
    case gt_17 =>
      exfalso
      rw [H.wwin] at hc; cases hc
    case gf_18 =>
      skip
      refine go_then ?go_19
      refine go_set B (i := 9) (CA.val (ca_callO (okr_greatest_worth X.K) B (ok_greatest_worth T) (by decide) (_, _) ?c_g2_10 ?o_greatest_worth_11 (da_cons (de_var B (i := 0) rfl rfl (.inl rfl)) (da_cons (de_var B (i := 8) rfl rfl (.inl rfl)) da_nil)) rfl)) rfl (.inl rfl) ?go_20
      (case c_g2_10 => exact ⟨by omega, fun q hq => (g7_sz (H.gx q hq)).mono (by decide), H.wszb⟩)
      (case o_greatest_worth_11 => first | exact gw_o hl1 H.full | exact gw_o (by rw [H.wlen]; exact hl1) H.wfull)
      refine @go_nf _ _ _ _ _ _ [_, _, _, _, _, _, _, _, _, _, _, _] rfl ?go_21
      refine go_if (dt_isNL (de_var B (i := 6) rfl rfl (.inl rfl))) (fun hc => ?gt_22) (fun hc => ?gf_23)
      case gt_22 =>
        have hcn := cnr_no H hc
        refine go_ret R (de_and (de_isNo (de_var B (i := 7) rfl rfl (.inl rfl))) (fun hb1 => (de_one (de_isNo (de_var B (i := 9) rfl rfl (.inl rfl)))))) ?rs_24
        (case rs_24 => exact Sub.of (by rw [hcn.1, hcn.2]; rfl))
      case gf_23 =>
        have C := cnr_of H hc
        have hco := hc
        refine go_then ?go_25
        refine go_if (DW.t (dw_or (dt_not (dt_val (CA.val (ca_call B (ok__law_is_number T) (by decide) _ ?c_n1_13 (da_cons (de_o2n ?on12 (de_var B (i := 7) rfl rfl (.inl rfl))) da_nil) rfl)))) (fun hb1 => (dw_or (dt_notBl (CA.val (ca_callO (okr_inside X.K) B (ok_inside T) (by decide) (_, _) ?c_i2_15 ?o_inside_16 (da_cons (de_var B (i := 1) rfl rfl (.inl rfl)) (da_cons (DL.froz (dl_list B T.b_list (de_l2l ?onl14 (de_var B (i := 6) rfl rfl (.inl rfl))) rfl)) da_nil)) rfl))) (fun hb2 => (dw_or1 (dt_neT dat_opt (by decide) B (de_var B (i := 7) rfl rfl (.inl rfl)) (de_n2o (CA.val (ca_call B (ok__law_dot T) (by decide) (_, _) ?c_d1_18 (da_cons (de_var B (i := 0) rfl rfl (.inl rfl)) (da_cons (de_l2l ?onl17 (de_var B (i := 6) rfl rfl (.inl rfl))) da_nil)) rfl)))))))))) (fun hc => ?gt_26) (fun hc => ?gf_27)
        (case on12 => first | (rw [C.e2]; rfl) | (rw [C.e4]; rfl))
        (case c_n1_13 => rw [C.e2]; exact (dotq_sz H.rx H.rc).mono (by decide))
        (case onl14 => exact hco)
        (case c_i2_15 => rw [C.e1]; exact ⟨fun q hq => (H.rc.sz q hq).mono (by decide), fun p hp => szb_r (H.szb p hp), by show (cnrL xs bx ps).length ≤ 1000; rw [cnr_len]; omega⟩)
        (case o_inside_16 => first | exact in_o (by rw [H.wlen]; omega) H.wfull | exact in_o (by rw [C.e1]; show _ = (cnrL xs bx ps).length; rw [cnr_len]; omega) H.full)
        (case onl17 => exact hco)
        (case c_d1_18 => rw [C.e1]; exact ld_pre H.rx H.rc cnr_len.symm)
        case gt_26 =>
          exfalso
          revert hc; rw [C.e2, C.e1]; simp [C.e3]
        case gf_27 =>
          skip
          refine go_then ?go_28
          refine go_if (dt_val (CA.val (ca_call B (ok__law_less T) (by decide) (_, _) ?c_law_less_21 (da_cons (de_o2n ?on19 (de_var B (i := 7) rfl rfl (.inl rfl))) (da_cons (CA.val (ca_call B (ok__law_dot T) (by decide) (_, _) ?c_d2_20 (da_cons (de_var B (i := 0) rfl rfl (.inl rfl)) (da_cons (de_var B (i := 2) rfl rfl (.inl rfl)) da_nil)) rfl)) da_nil)) rfl))) (fun hc => ?gt_29) (fun hc => ?gf_30)
          (case on19 => first | (rw [C.e2]; rfl) | (rw [C.e4]; rfl))
          (case c_d2_20 => exact ld_pre H.rx H.rp (by omega))
          (case c_law_less_21 => rw [C.e2]; exact ⟨(dotq_sz H.rx H.rc).mono (by decide), (dotq_sz H.rx H.rp).mono (by decide)⟩)
          case gt_29 =>
            exfalso
            revert hc; rw [C.e2]; simp [C.e5]
          case gf_30 =>
            skip
            refine go_then ?go_31
            refine go_setLc (l' := List.map (rNum X.K) (sizesQ xs)) B [("_law_x", 11)] (sr_listM (R := (rNum X.K)) (0 : Rat) (de_var B (i := 0) rfl rfl (.inl rfl))) (blkOk_by (by decide +kernel)) _ (fun _ => true) (fun i : Nat => rNum X.K (szQ (xs.getD i 0))) ?sz25 (by decide) (fun _ _ _ _ _ B i hi => (dg_name B (i := 11) rfl (.inl rfl))) (fun _ _ _ _ _ B i hi => dts_nil) (fun _ _ _ _ _ B i hi hb => (DE.to (r' := rNum X.K (szQ (xs.getD i 0))) (de_if (dt_ge (CA.val (ca_call B (ok__law_top T) (by decide) _ trivial (da_cons (de_var B (i := 11) rfl rfl (.inl rfl)) da_nil) rfl)) de_int) (fun hc2 => DE.to (r' := rNum X.K (szQ (xs.getD i 0))) (de_var B (i := 11) rfl rfl (.inl rfl)) ?sa23) (fun hc2 => DE.to (r' := rNum X.K (szQ (xs.getD i 0))) (CA.val (ca_call B (ok__law_times T) (by decide) (_, _) ?c_t1_22 (da_cons (de_i2n (de_neg de_int)) (da_cons (de_var B (i := 11) rfl rfl (.inl rfl)) da_nil)) rfl)) ?sb24)) rfl)) (hl := ?cl26) (iy := 10) (hNy := rfl) (hyl := rfl) (h := ?go_32) (hsw := fun env h => by cases env; subst h; with_unfolding_all rfl)
            (case c_t1_22 => exact t1_pre (g7_sz (H.gx _ (DL.getD_mem hi))))
            (case sa23 => exact congrArg (rNum X.K) (szq_t hc2))
            (case sb24 => exact congrArg (rNum X.K) (szq_f hc2))
            (case sz25 => exact Nat.lt_of_le_of_lt H.rx.1 (by decide))
            (case cl26 => exact lc_num (g := szQ))
            refine @go_nf _ _ _ _ _ _ [_, _, _, _, _, _, _, _, _, _, _, _] rfl ?go_33
            refine go_froz 10 rfl ?go_34
            refine @go_nf _ _ _ _ _ _ [_, _, _, _, _, _, _, _, _, _, _, _] rfl ?go_35
            refine go_ret R (de_and (CA.val (ca_call B (ok__law_is_number T) (by decide) _ ?c_n2_28 (da_cons (de_o2n ?on27 (de_var B (i := 9) rfl rfl (.inl rfl))) da_nil) rfl)) (fun hb1 => (de_one (de_eqT dat_opt (by decide) B (de_var B (i := 9) rfl rfl (.inl rfl)) (de_n2o (CA.val (ca_call B (ok__law_plus T) (by decide) (_, _) ?c_law_plus_32 (da_cons (de_o2n ?on29 (de_var B (i := 7) rfl rfl (.inl rfl))) (da_cons (CA.val (ca_call B (ok__law_times T) (by decide) (_, _) ?c_t2_31 (da_cons (de_var B (i := 4) rfl rfl (.inl rfl)) (da_cons (CA.val (ca_call B (ok__law_dot T) (by decide) (_, _) ?c_d3_30 (da_cons (de_var B (i := 10) rfl rfl (.inl rfl)) (da_cons (de_var B (i := 3) rfl rfl (.inl rfl)) da_nil)) rfl)) da_nil)) rfl)) da_nil)) rfl))))))) ?rs_36
            (case on27 => first | (rw [C.e2]; rfl) | (rw [C.e4]; rfl))
            (case c_n2_28 => rw [C.e4]; exact (grown_sz H).mono (by decide))
            (case on29 => first | (rw [C.e2]; rfl) | (rw [C.e4]; rfl))
            (case c_d3_30 => exact ld_pre H.rs H.rw_ (by rw [sizesQ_is, List.length_map]; omega))
            (case c_t2_31 => exact tm_pre H)
            (case c_law_plus_32 => rw [C.e2]; exact ⟨(dotq_sz H.rx H.rc).mono (by decide), (sz_mul (g7_sz H.gm) (dotq_sz H.rs H.rw_)).mono (by decide)⟩)
            (case rs_36 => exact Sub.of (by rw [C.e2, C.e4]; simp))
theorem sc__law_out : FnScope ["_law_box_here", "_law_point_here", "_law_numbers_here", "_law_at", "_law_step", "_law_side", "_law_off"] ["_law_box_here", "_law_point_here", "_law_numbers_here"] (defScope s__law_out) := ⟨rfl, rfl, rfl, by decide +kernel, rfl, by decide +kernel, by decide +kernel⟩
def sp__law_out (K : PySem.W.Frag) (cs : Cs) : Sp := Pm (ι := List Rg × List Rat × List Int) (fun ⟨bx, ps, ns⟩ => (0 < bx.length ∧ bx.length ≤ 12) ∧ ps.length = bx.length ∧ 6 ≤ ns.length ∧ (∀ q ∈ ps, G7 q) ∧ (∀ p ∈ bx, G7B p) ∧ withinQ ps bx = true) (fun ⟨bx, ps, ns⟩ => [rLst K (bx.map (rRg K)), rLst K (ps.map (rNum K)), rLst K (ns.map rInt)]) (fun ⟨bx, ps, ns⟩ => .val (rBl true))
theorem ok__law_out (T : Txt K mg cs) : Cal P w K mg base 8 "_law_out" (sp__law_out K cs) := by
  refine cal_ok T.d__law_out sc__law_out (fun g => rfl) (fun _ _ _ _ _ _ us hl => match us, hl with | [_, _, _], _ => rfl) ?_
  rintro X rfl rfl rfl rfl rfl B Bf ⟨bx, ps, ns⟩ F0 H0 D hp R hnx
  obtain ⟨⟨hn0, hn⟩, hl, hns, hg, hb, hw⟩ := hp
  have ha := at_b (n := ns.getD (Int.toNat 0) 0) (m := bx.length) hn0
  have hat : ((ns.getD (Int.toNat 0) 0).fmod (bx.length : Int)).toNat < bx.length := by omega
  have hf := within_full hl hw
  have hq4 : ∀ q ∈ ps, Sz 400 q := fun q hq => (g7_sz (hg q hq)).mono (by decide)
  refine @go_nf _ _ _ _ _ _ [_, _, _, _, _, _, _] rfl ?go_1
  refine go_set B (i := 3) (de_mod ?z3 (de_toInt B T.b_int (de_ixM (R := rInt) (0 : Int) ?xl1 ?xh2 (de_var B (i := 2) rfl rfl (.inl rfl)) de_int) rfl) (de_lenM B T.b_len (de_var B (i := 0) rfl rfl (.inl rfl)) rfl)) rfl (.inl rfl) ?go_2
  (case xl1 => first | omega | exact sd_l hi2)
  (case xh2 => first | omega | (rw [List.length_set]; omega) | exact sd_h hi2)
  (case z3 => first | decide | omega)
  refine @go_nf _ _ _ _ _ _ [_, _, _, _, _, _, _] rfl ?go_3
  refine go_set B (i := 4) (CA.val (ca_call B (ok__law_make T) (by decide) (_, _) ?c_law_make_10 (da_cons (de_add de_int (de_mod ?z6 (de_toInt B T.b_int (de_ixM (R := rInt) (0 : Int) ?xl4 ?xh5 (de_var B (i := 2) rfl rfl (.inl rfl)) de_int) rfl) de_int)) (da_cons (de_add de_int (de_mod ?z9 (de_toInt B T.b_int (de_ixM (R := rInt) (0 : Int) ?xl7 ?xh8 (de_var B (i := 2) rfl rfl (.inl rfl)) de_int) rfl) de_int)) da_nil)) rfl)) rfl (.inl rfl) ?go_4
  (case xl4 => first | omega | exact sd_l hi2)
  (case xh5 => first | omega | (rw [List.length_set]; omega) | exact sd_h hi2)
  (case z6 => first | decide | omega)
  (case xl7 => first | omega | exact sd_l hi2)
  (case xh8 => first | omega | (rw [List.length_set]; omega) | exact sd_h hi2)
  (case z9 => first | decide | omega)
  (case c_law_make_10 => exact step_pre)
  refine @go_nf _ _ _ _ _ _ [_, _, _, _, _, _, _] rfl ?go_5
  refine go_forS B (fun i => [(5, .any), (6, .any)]) (fun i => True) (sr_tupM (R := rInt) (xs := [0, 1]) (0 : Int) (de_tup (da_cons de_int (da_cons de_int da_nil)) (show (2 : Nat) ≤ sizeLine by decide))) _ (fun i hi => (dg_name B (i := 5) rfl (.inl rfl))) ?h0_6 ?j0_7 (fun F1 u i hi hj => ?gb_8) (fun hj => ?ge_9)
  (case h0_6 => refine .same ?_; refine .same ?_; refine .same ?_; refine .same ?_; refine .same ?_; refine .any ?_; refine .any ?_; exact .nil)
  (case j0_7 => trivial)
  case gb_8 =>
    refine @go_nf _ _ _ _ _ _ [_, _, _, _, _, _, _] rfl ?go_10
    have hi2 : i < 2 := hi
    refine go_setL B (i := 6) (dl_list B T.b_list (de_var B (i := 1) rfl rfl (.inl rfl)) rfl) rfl (.inl rfl) ?go_11
    refine @go_nf _ _ _ _ _ _ [_, _, _, _, _, _, _] rfl ?go_12
    refine go_if (dt_notNo (de_ixTM (R := rOpt X.K) (xs := [Prod.fst _, Prod.snd _]) (none : Option Rat) ?xl13 ?xh14 (de_ixM (R := (rRg X.K)) ((none, none) : Rg) ?xl11 ?xh12 (de_var B (i := 0) rfl rfl (.inl rfl)) (de_var B (i := 3) rfl rfl (.inl rfl))) (de_var B (i := 5) rfl rfl (.inl rfl)))) (fun hc => ?gt_13) (fun hc => ?gf_14)
    (case xl11 => first | omega | exact sd_l hi2)
    (case xh12 => first | omega | (rw [List.length_set]; omega) | exact sd_h hi2)
    (case xl13 => first | omega | exact sd_l hi2)
    (case xh14 => first | omega | (rw [List.length_set]; omega) | exact sd_h hi2)
    case gt_13 =>
      have hne : (endS bx ((ns.getD (Int.toNat 0) 0).fmod (bx.length : Int)).toNat i).isNone = false := nd_no hc
      have ho1 := off1 (ps := ps) (ns := ns) (a := ((ns.getD (Int.toNat 0) 0).fmod (bx.length : Int)).toNat) hg hb hat hi2
      refine go_putM (R := (rNum X.K)) B (i := 6) (CA.val (ca_call B (ok__law_plus T) (by decide) (_, _) ?c_law_plus_22 (da_cons (de_o2n ?on19 (de_ixTM (R := rOpt X.K) (xs := [Prod.fst _, Prod.snd _]) (none : Option Rat) ?xl17 ?xh18 (de_ixM (R := (rRg X.K)) ((none, none) : Rg) ?xl15 ?xh16 (de_var B (i := 0) rfl rfl (.inl rfl)) (de_var B (i := 3) rfl rfl (.inl rfl))) (de_var B (i := 5) rfl rfl (.inl rfl)))) (da_cons (CA.val (ca_call B (ok__law_times T) (by decide) (_, _) ?c_law_times_21 (da_cons (de_i2n (de_sub (de_mulG ?m20 de_int (de_var B (i := 5) rfl rfl (.inl rfl))) de_int)) (da_cons (de_var B (i := 4) rfl rfl (.inl rfl)) da_nil)) rfl)) da_nil)) rfl)) (de_var B (i := 3) rfl rfl (.inl rfl)) ?xl23 ?xh24 rfl rfl (.inl rfl) ?go_15
      (case xl15 => first | omega | exact sd_l hi2)
      (case xh16 => first | omega | (rw [List.length_set]; omega) | exact sd_h hi2)
      (case xl17 => first | omega | exact sd_l hi2)
      (case xh18 => first | omega | (rw [List.length_set]; omega) | exact sd_h hi2)
      (case on19 => exact hne)
      (case m20 => exact mul_s (by decide) (sd_s hi2))
      (case c_law_times_21 => exact out_t hi2)
      (case c_law_plus_22 => exact out_v hb hat hi2)
      (case xl23 => first | omega | exact sd_l hi2)
      (case xh24 => first | omega | (rw [List.length_set]; omega) | exact sd_h hi2)
      refine @go_nf _ _ _ _ _ _ [_, _, _, _, _, _, _] rfl ?go_16
      refine go_if (dt_lend 6 rfl (dt_notBl (CA.val (ca_callO (okr_inside X.K) B (ok_inside T) (by decide) (_, _) ?c_inside_25 ?o_inside_26 (da_cons (de_var B (i := 0) rfl rfl (.inl rfl)) (da_cons (de_var B (i := 6) rfl rfl (.inl rfl)) da_nil)) rfl)))) (fun hc => ?gt_17) (fun hc => ?gf_18)
      (case c_inside_25 => first | exact ⟨fun q hq => (ho1 q hq).mono (by decide), fun p hp => szb_r (g7_szb (hb p hp)), by rw [List.length_set]; omega⟩ | exact ⟨fun q hq => (off2 (i := i) ho1 hb hat q hq).mono (by decide), fun p hp => szb_r (g7_szb (hb p hp)), by rw [List.length_set, List.length_set]; omega⟩ | exact ⟨fun q hq => (hq4 q hq).mono (by decide), fun p hp => szb_r (g7_szb (hb p hp)), by omega⟩)
      (case o_inside_26 => first | exact in_o (by rw [List.length_set]; omega) hf | exact in_o (by rw [List.length_set, List.length_set]; omega) hf | exact in_o hl.symm hf)
      case gt_17 =>
        exfalso
        exact absurd ((congrArg (fun w => !(w == false)) (out_no (st := stepQ ns) hat hl hi2 hne (step_pos ns))).symm.trans hc) (by decide)
      case gf_18 =>
        skip
        refine go_then ?go_19
        refine go_putM (R := (rNum X.K)) B (i := 6) (de_o2n ?on31 (de_ixTM (R := rOpt X.K) (xs := [Prod.fst _, Prod.snd _]) (none : Option Rat) ?xl29 ?xh30 (de_ixM (R := (rRg X.K)) ((none, none) : Rg) ?xl27 ?xh28 (de_var B (i := 0) rfl rfl (.inl rfl)) (de_var B (i := 3) rfl rfl (.inl rfl))) (de_var B (i := 5) rfl rfl (.inl rfl)))) (de_var B (i := 3) rfl rfl (.inl rfl)) ?xl32 ?xh33 rfl rfl (.inl rfl) ?go_20
        (case xl27 => first | omega | exact sd_l hi2)
        (case xh28 => first | omega | (rw [List.length_set]; omega) | exact sd_h hi2)
        (case xl29 => first | omega | exact sd_l hi2)
        (case xh30 => first | omega | (rw [List.length_set]; omega) | exact sd_h hi2)
        (case on31 => exact hne)
        (case xl32 => first | omega | exact sd_l hi2)
        (case xh33 => first | omega | (rw [List.length_set]; omega) | exact sd_h hi2)
        refine @go_nf _ _ _ _ _ _ [_, _, _, _, _, _, _] rfl ?go_21
        refine go_then ?go_22
        refine go_if (dt_lend 6 rfl (dt_cmp op_ne b2_neB (de_isBl (CA.val (ca_callO (okr_inside X.K) B (ok_inside T) (by decide) (_, _) ?c_inside_34 ?o_inside_35 (da_cons (de_var B (i := 0) rfl rfl (.inl rfl)) (da_cons (de_var B (i := 6) rfl rfl (.inl rfl)) da_nil)) rfl))) (CA.val (ca_call B (ok__law_within T) (by decide) (_, _) ?c_law_within_36 (da_cons (de_var B (i := 0) rfl rfl (.inl rfl)) (da_cons (de_var B (i := 6) rfl rfl (.inl rfl)) da_nil)) rfl)) (nomark _))) (fun hc => ?gt_23) (fun hc => ?gf_24)
        (case c_inside_34 => first | exact ⟨fun q hq => (ho1 q hq).mono (by decide), fun p hp => szb_r (g7_szb (hb p hp)), by rw [List.length_set]; omega⟩ | exact ⟨fun q hq => (off2 (i := i) ho1 hb hat q hq).mono (by decide), fun p hp => szb_r (g7_szb (hb p hp)), by rw [List.length_set, List.length_set]; omega⟩ | exact ⟨fun q hq => (hq4 q hq).mono (by decide), fun p hp => szb_r (g7_szb (hb p hp)), by omega⟩)
        (case o_inside_35 => first | exact in_o (by rw [List.length_set]; omega) hf | exact in_o (by rw [List.length_set, List.length_set]; omega) hf | exact in_o hl.symm hf)
        (case c_law_within_36 => first | exact ⟨by omega, by rw [List.length_set, List.length_set]; omega, off2 (i := i) ho1 hb hat, fun p hp => g7_szb (hb p hp)⟩ | exact ⟨by omega, hl, hq4, fun p hp => g7_szb (hb p hp)⟩)
        case gt_23 =>
          exfalso
          revert hc; simp
        case gf_24 =>
          skip
          refine go_then ?go_25
          refine go_turnS ?jn_26 ?ln_27
          (case jn_26 => trivial)
          (case ln_27 => refine .same ?_; refine .same ?_; refine .same ?_; refine .same ?_; refine .same ?_; refine .any ?_; refine .any ?_; exact .nil)
    case gf_14 =>
      skip
      refine go_then ?go_28
      refine go_if (dt_lend 6 rfl (dt_cmp op_ne b2_neB (de_isBl (CA.val (ca_callO (okr_inside X.K) B (ok_inside T) (by decide) (_, _) ?c_inside_37 ?o_inside_38 (da_cons (de_var B (i := 0) rfl rfl (.inl rfl)) (da_cons (de_var B (i := 6) rfl rfl (.inl rfl)) da_nil)) rfl))) (CA.val (ca_call B (ok__law_within T) (by decide) (_, _) ?c_law_within_39 (da_cons (de_var B (i := 0) rfl rfl (.inl rfl)) (da_cons (de_var B (i := 6) rfl rfl (.inl rfl)) da_nil)) rfl)) (nomark _))) (fun hc => ?gt_29) (fun hc => ?gf_30)
      (case c_inside_37 => first | exact ⟨fun q hq => (ho1 q hq).mono (by decide), fun p hp => szb_r (g7_szb (hb p hp)), by rw [List.length_set]; omega⟩ | exact ⟨fun q hq => (off2 (i := i) ho1 hb hat q hq).mono (by decide), fun p hp => szb_r (g7_szb (hb p hp)), by rw [List.length_set, List.length_set]; omega⟩ | exact ⟨fun q hq => (hq4 q hq).mono (by decide), fun p hp => szb_r (g7_szb (hb p hp)), by omega⟩)
      (case o_inside_38 => first | exact in_o (by rw [List.length_set]; omega) hf | exact in_o (by rw [List.length_set, List.length_set]; omega) hf | exact in_o hl.symm hf)
      (case c_law_within_39 => first | exact ⟨by omega, by rw [List.length_set, List.length_set]; omega, off2 (i := i) ho1 hb hat, fun p hp => g7_szb (hb p hp)⟩ | exact ⟨by omega, hl, hq4, fun p hp => g7_szb (hb p hp)⟩)
      case gt_29 =>
        exfalso
        revert hc; simp
      case gf_30 =>
        skip
        refine go_then ?go_31
        refine go_turnS ?jn_32 ?ln_33
        (case jn_32 => trivial)
        (case ln_33 => refine .same ?_; refine .same ?_; refine .same ?_; refine .same ?_; refine .same ?_; refine .any ?_; refine .any ?_; exact .nil)
  case ge_9 =>
    refine @go_nf _ _ _ _ _ _ [_, _, _, _, _, _, _] rfl ?go_34
    refine go_ret R de_bl ?rs_35
    (case rs_35 => exact Sub.rfl)
theorem sc__law_meets : FnScope ["_law_boxes", "_law_copies", "_law_due", "_law_bad", "_law_told", "_law_box_here"] ["_law_boxes"] (defScope s__law_meets) := ⟨rfl, rfl, rfl, by decide +kernel, rfl, by decide +kernel, by decide +kernel⟩
def sp__law_meets (K : PySem.W.Frag) (cs : Cs) : Sp := Pm (ι := List Rg × List Rg × List Rg × Nat) (fun ⟨b, b2, b3, n⟩ => (0 < n ∧ n ≤ 12) ∧ (∀ x ∈ [b, b2, b3], x.length = n ∧ fullO x = none) ∧ ∀ x ∈ [b, b2, b3], ∀ p ∈ x, SzB p) (fun ⟨b, b2, b3, n⟩ => [(rLst K ([b, b2, b3].map fun l => rLst K (l.map (rRg K))))]) (fun ⟨b, b2, b3, n⟩ => .val (rBl true))
theorem ok__law_meets (T : Txt K mg cs) : Cal P w K mg base 9 "_law_meets" (sp__law_meets K cs) := by
  refine cal_ok T.d__law_meets sc__law_meets (fun g => rfl) (fun _ _ _ _ _ _ us hl => match us, hl with | [_], _ => rfl) ?_
  rintro X rfl rfl rfl rfl rfl B Bf ⟨b, b2, b3, n⟩ F0 H0 D hp R hnx
  obtain ⟨⟨hn0, hn⟩, hx, hs⟩ := hp
  obtain ⟨h1, h2, h3⟩ := all3 hx
  obtain ⟨s1, s2, s3⟩ := all3 hs
  refine @go_nf _ _ _ _ _ _ [_, _, _, _, _, _] rfl ?go_1
  refine go_setLc (l' := List.map (fun l => rLst X.K (List.map (rRg X.K) l)) ([b, b2, b3])) B [("_law_box_here", 5)] (sr_listM (R := (fun l => rLst X.K (List.map (rRg X.K) l))) [] (de_var B (i := 0) rfl rfl (.inl rfl))) (blkOk_by (by decide +kernel)) _ (fun _ => true) (fun i : Nat => rLst X.K (List.map (rRg X.K) (([b, b2, b3] : List (List Rg)).getD i []))) ?sz1 (by decide) (fun _ _ _ _ _ B i hi => (dg_name B (i := 5) rfl (.inl rfl))) (fun _ _ _ _ _ B i hi => dts_nil) (fun _ _ _ _ _ B i hi hb => (DL.froz (dl_list B T.b_list (de_var B (i := 5) rfl rfl (.inl rfl)) rfl))) (hl := ?cl2) (iy := 1) (hNy := rfl) (hyl := rfl) (h := ?go_2) (hsw := fun env h => by cases env; subst h; with_unfolding_all rfl)
  (case sz1 => show (3 : Nat) < sizeLine; decide)
  (case cl2 => exact lc_all (R := fun _ => rInt 0) (d := ([] : List Rg)) (xs := [b, b2, b3]) (f := fun l : List Rg => rLst X.K (List.map (rRg X.K) l)))
  refine @go_nf _ _ _ _ _ _ [_, _, _, _, _, _] rfl ?go_3
  refine go_froz 1 rfl ?go_4
  refine @go_nf _ _ _ _ _ _ [_, _, _, _, _, _] rfl ?go_5
  refine go_setL B (i := 2) (CA.lst (ca_call B (ok__law_joined T) (by decide) ([b, b2, b3], n) ?c_law_joined_3 (da_cons (de_var B (i := 0) rfl rfl (.inl rfl)) da_nil) rfl)) rfl (.inl rfl) ?go_6
  (case c_law_joined_3 => exact ⟨by omega, h1.1, (show 0 < 3 by decide), fun x hx2 => (hx x hx2).1, hs⟩)
  refine @go_nf _ _ _ _ _ _ [_, _, _, _, _, _] rfl ?go_7
  refine go_froz 2 rfl ?go_8
  refine @go_nf _ _ _ _ _ _ [_, _, _, _, _, _] rfl ?go_9
  refine go_set B (i := 3) (CA.val (ca_call B (ok__law_empty T) (by decide) _ ?c_law_empty_4 (da_cons (de_var B (i := 2) rfl rfl (.inl rfl)) da_nil) rfl)) rfl (.inl rfl) ?go_10
  (case c_law_empty_4 => exact ⟨by rw [joinR_len]; omega, join_szb hn hx hs⟩)
  refine @go_nf _ _ _ _ _ _ [_, _, _, _, _, _] rfl ?go_11
  refine go_if (dt_notNo (de_var B (i := 3) rfl rfl (.inl rfl))) (fun hc => ?gt_12) (fun hc => ?gf_13)
  case gt_12 =>
    have hc : (!(fullQ (joinR [b, b2, b3] n)).isNone) = true := hc
    obtain ⟨m, hm⟩ := fullQ_some hc
    refine go_ret R (de_and (de_eqSI B (shaped_si (by decide +kernel)) (shaped_si (by decide +kernel)) (CA.val (ca_call B (ok__law_kind_v_2e T) (by decide) (b, b2, b3, (fullO (joinR [b, b2, b3] n)).getD 0) ?c_law_kind_v_2e_11 (da_cons de_int (da_cons (de_ixM (R := (fun l => rLst X.K (List.map (rRg X.K) l))) (xs := [b, b2, b3]) [] ?xl5 ?xh6 (de_var B (i := 0) rfl rfl (.inl rfl)) de_int) (da_cons (de_ixM (R := (fun l => rLst X.K (List.map (rRg X.K) l))) (xs := [b, b2, b3]) [] ?xl7 ?xh8 (de_var B (i := 0) rfl rfl (.inl rfl)) de_int) (da_cons (de_ixM (R := (fun l => rLst X.K (List.map (rRg X.K) l))) (xs := [b, b2, b3]) [] ?xl9 ?xh10 (de_var B (i := 0) rfl rfl (.inl rfl)) de_int) da_nil)))) rfl)) (de_tup (da_cons de_str (da_cons (de_n2i ?n13 (de_o2n ?on12 (de_var B (i := 3) rfl rfl (.inl rfl)))) da_nil)) (show (2 : Nat) ≤ sizeLine by decide))) (fun hb1 => (de_one (de_eqT (dat_lst (dat_lst dat_rng)) (by decide) B (de_var B (i := 0) rfl rfl (.inl rfl)) (de_var B (i := 1) rfl rfl (.inl rfl)))))) ?rs_14
    (case xl5 => decide)
    (case xh6 => first | (show (0 : Int) < ((3 : Nat) : Int); decide) | (show (1 : Int) < ((3 : Nat) : Int); decide) | (show (2 : Int) < ((3 : Nat) : Int); decide) | exact t0_i hn0 h1.1)
    (case xl7 => decide)
    (case xh8 => first | (show (0 : Int) < ((3 : Nat) : Int); decide) | (show (1 : Int) < ((3 : Nat) : Int); decide) | (show (2 : Int) < ((3 : Nat) : Int); decide) | exact t0_i hn0 h1.1)
    (case xl9 => decide)
    (case xh10 => first | (show (0 : Int) < ((3 : Nat) : Int); decide) | (show (1 : Int) < ((3 : Nat) : Int); decide) | (show (2 : Int) < ((3 : Nat) : Int); decide) | exact t0_i hn0 h1.1)
    (case c_law_kind_v_2e_11 => exact ⟨⟨fun x hx2 p hp => szb_r (hs x hx2 p hp), by rw [h1.1]; omega⟩, by rw [hm]; exact meet_bad hx hm⟩)
    (case on12 => simpa using hc)
    (case n13 => rw [fullQ_is hm]; exact Rat.den_intCast _)
    (case rs_14 => exact Sub.of (by rw [hm, fullQ_is hm]; simp; exact congrArg rBl (decide_eq_true rfl)))
  case gf_13 =>
    have hc : (!(fullQ (joinR [b, b2, b3] n)).isNone) = false := hc
    have hno := fullQ_none hc
    refine go_then ?go_15
    refine go_setL B (i := 4) (CA.lst (ca_callR (okr_meet X.K) B (ok_meet T) (by decide) (b, [b2, b3]) ?c_m1_20 ?o_meet_21 (da_cons (de_ixM (R := (fun l => rLst X.K (List.map (rRg X.K) l))) (xs := [b, b2, b3]) [] ?xl14 ?xh15 (de_var B (i := 0) rfl rfl (.inl rfl)) de_int) (da_cons (de_ixM (R := (fun l => rLst X.K (List.map (rRg X.K) l))) (xs := [b, b2, b3]) [] ?xl16 ?xh17 (de_var B (i := 0) rfl rfl (.inl rfl)) de_int) (da_cons (de_ixM (R := (fun l => rLst X.K (List.map (rRg X.K) l))) (xs := [b, b2, b3]) [] ?xl18 ?xh19 (de_var B (i := 0) rfl rfl (.inl rfl)) de_int) da_nil))) rfl)) rfl (.inl rfl) ?go_16
    (case xl14 => decide)
    (case xh15 => first | (show (0 : Int) < ((3 : Nat) : Int); decide) | (show (1 : Int) < ((3 : Nat) : Int); decide) | (show (2 : Int) < ((3 : Nat) : Int); decide) | exact t0_i hn0 h1.1)
    (case xl16 => decide)
    (case xh17 => first | (show (0 : Int) < ((3 : Nat) : Int); decide) | (show (1 : Int) < ((3 : Nat) : Int); decide) | (show (2 : Int) < ((3 : Nat) : Int); decide) | exact t0_i hn0 h1.1)
    (case xl18 => decide)
    (case xh19 => first | (show (0 : Int) < ((3 : Nat) : Int); decide) | (show (1 : Int) < ((3 : Nat) : Int); decide) | (show (2 : Int) < ((3 : Nat) : Int); decide) | exact t0_i hn0 h1.1)
    (case c_m1_20 => exact mt_pre hn h1.1 hs)
    (case o_meet_21 => first | exact meet_ok hx hno | exact meet_ok (perm_a hx) (by rw [join_rot]; exact hno) | exact mo2 h3 h1 (join_sub hno) | exact mo3 h2 h3 h1 hno | exact meet_ok (n := n) (fun x hx2 => by rw [List.mem_singleton.mp hx2]; exact h1) (by rw [join_one h1.1]; exact h1.2) | exact mo2 h2 h2 (by rw [join_two h2.1]; exact h2.2))
    refine @go_nf _ _ _ _ _ _ [_, _, _, _, _, _] rfl ?go_17
    refine go_if (dt_lend 4 rfl (DW.t (dw_or (dt_not (dt_val (CA.val (ca_call B (ok__law_is_box T) (by decide) (_, _) ?c_x1_22 (da_cons (de_var B (i := 4) rfl rfl (.inl rfl)) (da_cons (de_var B (i := 2) rfl rfl (.inl rfl)) da_nil)) rfl)))) (fun hb1 => (dw_or1 (dt_neT (dat_lst (dat_lst dat_rng)) (by decide) B (de_var B (i := 0) rfl rfl (.inl rfl)) (de_var B (i := 1) rfl rfl (.inl rfl)))))))) (fun hc => ?gt_18) (fun hc => ?gf_19)
    (case c_x1_22 => exact ⟨by rw [h1.1], jn_szb hx hs h1.1⟩)
    case gt_18 =>
      exfalso; revert hc; simp
    case gf_19 =>
      try (simp only [decide_eq_true_eq, decide_eq_false_iff_not, Bool.not_eq_true', Bool.not_eq_false', Bool.not_eq_true, Bool.not_eq_false] at hc)
      refine go_then ?go_20
      refine go_if (DW.t (dw_or (dt_not (dt_val (CA.val (ca_call B (ok__law_is_box T) (by decide) (_, _) ?c_x2_31 (da_cons (DL.froz (CA.lst (ca_callR (okr_meet X.K) B (ok_meet T) (by decide) (b3, [b, b2]) ?c_m2_29 ?o_meet_30 (da_cons (de_ixM (R := (fun l => rLst X.K (List.map (rRg X.K) l))) (xs := [b, b2, b3]) [] ?xl23 ?xh24 (de_var B (i := 0) rfl rfl (.inl rfl)) de_int) (da_cons (de_ixM (R := (fun l => rLst X.K (List.map (rRg X.K) l))) (xs := [b, b2, b3]) [] ?xl25 ?xh26 (de_var B (i := 0) rfl rfl (.inl rfl)) de_int) (da_cons (de_ixM (R := (fun l => rLst X.K (List.map (rRg X.K) l))) (xs := [b, b2, b3]) [] ?xl27 ?xh28 (de_var B (i := 0) rfl rfl (.inl rfl)) de_int) da_nil))) rfl))) (da_cons (de_var B (i := 2) rfl rfl (.inl rfl)) da_nil)) rfl)))) (fun hb1 => (dw_or1 (dt_not (dt_val (CA.val (ca_call B (ok__law_is_box T) (by decide) (_, _) ?c_x3_42 (da_cons (DL.froz (CA.lst (ca_callR (okr_meet X.K) B (ok_meet T) (by decide) (b2, [joinR [b3, b] b3.length]) ?c_m3_40 ?o_meet_41 (da_cons (de_ixM (R := (fun l => rLst X.K (List.map (rRg X.K) l))) (xs := [b, b2, b3]) [] ?xl32 ?xh33 (de_var B (i := 0) rfl rfl (.inl rfl)) de_int) (da_cons (DL.froz (CA.lst (ca_callR (okr_meet X.K) B (ok_meet T) (by decide) (b3, [b]) ?c_m4_38 ?o_meet_39 (da_cons (de_ixM (R := (fun l => rLst X.K (List.map (rRg X.K) l))) (xs := [b, b2, b3]) [] ?xl34 ?xh35 (de_var B (i := 0) rfl rfl (.inl rfl)) de_int) (da_cons (de_ixM (R := (fun l => rLst X.K (List.map (rRg X.K) l))) (xs := [b, b2, b3]) [] ?xl36 ?xh37 (de_var B (i := 0) rfl rfl (.inl rfl)) de_int) da_nil)) rfl))) da_nil)) rfl))) (da_cons (de_var B (i := 2) rfl rfl (.inl rfl)) da_nil)) rfl)))))))) (fun hc => ?gt_21) (fun hc => ?gf_22)
      (case xl23 => decide)
      (case xh24 => first | (show (0 : Int) < ((3 : Nat) : Int); decide) | (show (1 : Int) < ((3 : Nat) : Int); decide) | (show (2 : Int) < ((3 : Nat) : Int); decide) | exact t0_i hn0 h1.1)
      (case xl25 => decide)
      (case xh26 => first | (show (0 : Int) < ((3 : Nat) : Int); decide) | (show (1 : Int) < ((3 : Nat) : Int); decide) | (show (2 : Int) < ((3 : Nat) : Int); decide) | exact t0_i hn0 h1.1)
      (case xl27 => decide)
      (case xh28 => first | (show (0 : Int) < ((3 : Nat) : Int); decide) | (show (1 : Int) < ((3 : Nat) : Int); decide) | (show (2 : Int) < ((3 : Nat) : Int); decide) | exact t0_i hn0 h1.1)
      (case c_m2_29 => exact mt_pre hn h3.1 (perm_a hs))
      (case o_meet_30 => first | exact meet_ok hx hno | exact meet_ok (perm_a hx) (by rw [join_rot]; exact hno) | exact mo2 h3 h1 (join_sub hno) | exact mo3 h2 h3 h1 hno | exact meet_ok (n := n) (fun x hx2 => by rw [List.mem_singleton.mp hx2]; exact h1) (by rw [join_one h1.1]; exact h1.2) | exact mo2 h2 h2 (by rw [join_two h2.1]; exact h2.2))
      (case c_x2_31 => exact ⟨by rw [h3.1]; exact join_rot, jn_szb (perm_a hx) (perm_a hs) h3.1⟩)
      (case xl32 => decide)
      (case xh33 => first | (show (0 : Int) < ((3 : Nat) : Int); decide) | (show (1 : Int) < ((3 : Nat) : Int); decide) | (show (2 : Int) < ((3 : Nat) : Int); decide) | exact t0_i hn0 h1.1)
      (case xl34 => decide)
      (case xh35 => first | (show (0 : Int) < ((3 : Nat) : Int); decide) | (show (1 : Int) < ((3 : Nat) : Int); decide) | (show (2 : Int) < ((3 : Nat) : Int); decide) | exact t0_i hn0 h1.1)
      (case xl36 => decide)
      (case xh37 => first | (show (0 : Int) < ((3 : Nat) : Int); decide) | (show (1 : Int) < ((3 : Nat) : Int); decide) | (show (2 : Int) < ((3 : Nat) : Int); decide) | exact t0_i hn0 h1.1)
      (case c_m4_38 => exact mt_pre2 hn h3.1 s3 s1)
      (case o_meet_39 => first | exact meet_ok hx hno | exact meet_ok (perm_a hx) (by rw [join_rot]; exact hno) | exact mo2 h3 h1 (join_sub hno) | exact mo3 h2 h3 h1 hno | exact meet_ok (n := n) (fun x hx2 => by rw [List.mem_singleton.mp hx2]; exact h1) (by rw [join_one h1.1]; exact h1.2) | exact mo2 h2 h2 (by rw [join_two h2.1]; exact h2.2))
      (case c_m3_40 => exact mt_pre2 hn h2.1 s2 (by rw [h3.1]; exact jn_szb2 h3 h1 s3 s1))
      (case o_meet_41 => first | exact meet_ok hx hno | exact meet_ok (perm_a hx) (by rw [join_rot]; exact hno) | exact mo2 h3 h1 (join_sub hno) | exact mo3 h2 h3 h1 hno | exact meet_ok (n := n) (fun x hx2 => by rw [List.mem_singleton.mp hx2]; exact h1) (by rw [join_one h1.1]; exact h1.2) | exact mo2 h2 h2 (by rw [join_two h2.1]; exact h2.2))
      (case c_x3_42 => exact ⟨by rw [h3.1, h2.1]; exact join_in, by rw [h3.1, h2.1, join_in]; exact jn_szb hx hs rfl⟩)
      case gt_21 =>
        exfalso; revert hc; simp
      case gf_22 =>
        try (simp only [decide_eq_true_eq, decide_eq_false_iff_not, Bool.not_eq_true', Bool.not_eq_false', Bool.not_eq_true, Bool.not_eq_false] at hc)
        refine go_then ?go_23
        refine go_if (DW.t (dw_or (dt_not (dt_val (CA.val (ca_call B (ok__law_is_box T) (by decide) (_, _) ?c_x4_49 (da_cons (DL.froz (CA.lst (ca_callR (okr_meet X.K) B (ok_meet T) (by decide) (b, []) ?c_m5_45 ?o_meet_46 (da_cons (de_ixM (R := (fun l => rLst X.K (List.map (rRg X.K) l))) (xs := [b, b2, b3]) [] ?xl43 ?xh44 (de_var B (i := 0) rfl rfl (.inl rfl)) de_int) da_nil) rfl))) (da_cons (de_ixM (R := (fun l => rLst X.K (List.map (rRg X.K) l))) (xs := [b, b2, b3]) [] ?xl47 ?xh48 (de_var B (i := 0) rfl rfl (.inl rfl)) de_int) da_nil)) rfl)))) (fun hb1 => (dw_or1 (dt_not (dt_val (CA.val (ca_call B (ok__law_is_box T) (by decide) (_, _) ?c_x5_58 (da_cons (DL.froz (CA.lst (ca_callR (okr_meet X.K) B (ok_meet T) (by decide) (b2, [b2]) ?c_m6_54 ?o_meet_55 (da_cons (de_ixM (R := (fun l => rLst X.K (List.map (rRg X.K) l))) (xs := [b, b2, b3]) [] ?xl50 ?xh51 (de_var B (i := 0) rfl rfl (.inl rfl)) de_int) (da_cons (DL.froz (dl_list B T.b_list (de_ixM (R := (fun l => rLst X.K (List.map (rRg X.K) l))) (xs := [b, b2, b3]) [] ?xl52 ?xh53 (de_var B (i := 0) rfl rfl (.inl rfl)) de_int) rfl)) da_nil)) rfl))) (da_cons (de_ixM (R := (fun l => rLst X.K (List.map (rRg X.K) l))) (xs := [b, b2, b3]) [] ?xl56 ?xh57 (de_var B (i := 0) rfl rfl (.inl rfl)) de_int) da_nil)) rfl)))))))) (fun hc => ?gt_24) (fun hc => ?gf_25)
        (case xl43 => decide)
        (case xh44 => first | (show (0 : Int) < ((3 : Nat) : Int); decide) | (show (1 : Int) < ((3 : Nat) : Int); decide) | (show (2 : Int) < ((3 : Nat) : Int); decide) | exact t0_i hn0 h1.1)
        (case c_m5_45 => exact mt_pre1 hn h1.1 s1)
        (case o_meet_46 => first | exact meet_ok hx hno | exact meet_ok (perm_a hx) (by rw [join_rot]; exact hno) | exact mo2 h3 h1 (join_sub hno) | exact mo3 h2 h3 h1 hno | exact meet_ok (n := n) (fun x hx2 => by rw [List.mem_singleton.mp hx2]; exact h1) (by rw [join_one h1.1]; exact h1.2) | exact mo2 h2 h2 (by rw [join_two h2.1]; exact h2.2))
        (case xl47 => decide)
        (case xh48 => first | (show (0 : Int) < ((3 : Nat) : Int); decide) | (show (1 : Int) < ((3 : Nat) : Int); decide) | (show (2 : Int) < ((3 : Nat) : Int); decide) | exact t0_i hn0 h1.1)
        (case c_x4_49 => exact ⟨join_one rfl, by rw [join_one rfl]; exact s1⟩)
        (case xl50 => decide)
        (case xh51 => first | (show (0 : Int) < ((3 : Nat) : Int); decide) | (show (1 : Int) < ((3 : Nat) : Int); decide) | (show (2 : Int) < ((3 : Nat) : Int); decide) | exact t0_i hn0 h1.1)
        (case xl52 => decide)
        (case xh53 => first | (show (0 : Int) < ((3 : Nat) : Int); decide) | (show (1 : Int) < ((3 : Nat) : Int); decide) | (show (2 : Int) < ((3 : Nat) : Int); decide) | exact t0_i hn0 h1.1)
        (case c_m6_54 => exact mt_pre2 hn h2.1 s2 s2)
        (case o_meet_55 => first | exact meet_ok hx hno | exact meet_ok (perm_a hx) (by rw [join_rot]; exact hno) | exact mo2 h3 h1 (join_sub hno) | exact mo3 h2 h3 h1 hno | exact meet_ok (n := n) (fun x hx2 => by rw [List.mem_singleton.mp hx2]; exact h1) (by rw [join_one h1.1]; exact h1.2) | exact mo2 h2 h2 (by rw [join_two h2.1]; exact h2.2))
        (case xl56 => decide)
        (case xh57 => first | (show (0 : Int) < ((3 : Nat) : Int); decide) | (show (1 : Int) < ((3 : Nat) : Int); decide) | (show (2 : Int) < ((3 : Nat) : Int); decide) | exact t0_i hn0 h1.1)
        (case c_x5_58 => exact ⟨join_two rfl, by rw [join_two rfl]; exact s2⟩)
        case gt_24 =>
          exfalso; revert hc; simp
        case gf_25 =>
          try (simp only [decide_eq_true_eq, decide_eq_false_iff_not, Bool.not_eq_true', Bool.not_eq_false', Bool.not_eq_true, Bool.not_eq_false] at hc)
          refine go_then ?go_26
          refine go_putM (R := (rRg X.K)) B (i := 4) (DE.to (r' := rRg X.K (some ((7 : Int) : Rat), some ((7 : Int) : Rat))) (de_tup (da_cons (de_n2o (de_i2n de_int)) (da_cons (de_n2o (de_i2n de_int)) da_nil)) (show (2 : Nat) ≤ sizeLine by decide)) rfl) de_int ?xl59 ?xh60 rfl rfl (.inl rfl) ?go_27
          (case xl59 => decide)
          (case xh60 => first | (show (0 : Int) < ((3 : Nat) : Int); decide) | (show (1 : Int) < ((3 : Nat) : Int); decide) | (show (2 : Int) < ((3 : Nat) : Int); decide) | exact t0_i hn0 h1.1)
          refine @go_nf _ _ _ _ _ _ [_, _, _, _, _, _] rfl ?go_28
          refine go_ret R (de_and (de_eqT (dat_lst (dat_lst dat_rng)) (by decide) B (de_var B (i := 0) rfl rfl (.inl rfl)) (de_var B (i := 1) rfl rfl (.inl rfl))) (fun hb1 => (de_one (CA.val (ca_call B (ok__law_is_box T) (by decide) (_, _) ?c_x6_69 (da_cons (DL.froz (CA.lst (ca_callR (okr_meet X.K) B (ok_meet T) (by decide) (b, [b2, b3]) ?c_m1_67 ?o_meet_68 (da_cons (de_ixM (R := (fun l => rLst X.K (List.map (rRg X.K) l))) (xs := [b, b2, b3]) [] ?xl61 ?xh62 (de_var B (i := 0) rfl rfl (.inl rfl)) de_int) (da_cons (de_ixM (R := (fun l => rLst X.K (List.map (rRg X.K) l))) (xs := [b, b2, b3]) [] ?xl63 ?xh64 (de_var B (i := 0) rfl rfl (.inl rfl)) de_int) (da_cons (de_ixM (R := (fun l => rLst X.K (List.map (rRg X.K) l))) (xs := [b, b2, b3]) [] ?xl65 ?xh66 (de_var B (i := 0) rfl rfl (.inl rfl)) de_int) da_nil))) rfl))) (da_cons (de_var B (i := 2) rfl rfl (.inl rfl)) da_nil)) rfl))))) ?rs_29
          (case xl61 => decide)
          (case xh62 => first | (show (0 : Int) < ((3 : Nat) : Int); decide) | (show (1 : Int) < ((3 : Nat) : Int); decide) | (show (2 : Int) < ((3 : Nat) : Int); decide) | exact t0_i hn0 h1.1)
          (case xl63 => decide)
          (case xh64 => first | (show (0 : Int) < ((3 : Nat) : Int); decide) | (show (1 : Int) < ((3 : Nat) : Int); decide) | (show (2 : Int) < ((3 : Nat) : Int); decide) | exact t0_i hn0 h1.1)
          (case xl65 => decide)
          (case xh66 => first | (show (0 : Int) < ((3 : Nat) : Int); decide) | (show (1 : Int) < ((3 : Nat) : Int); decide) | (show (2 : Int) < ((3 : Nat) : Int); decide) | exact t0_i hn0 h1.1)
          (case c_m1_67 => exact mt_pre hn h1.1 hs)
          (case o_meet_68 => first | exact meet_ok hx hno | exact meet_ok (perm_a hx) (by rw [join_rot]; exact hno) | exact mo2 h3 h1 (join_sub hno) | exact mo3 h2 h3 h1 hno | exact meet_ok (n := n) (fun x hx2 => by rw [List.mem_singleton.mp hx2]; exact h1) (by rw [join_one h1.1]; exact h1.2) | exact mo2 h2 h2 (by rw [join_two h2.1]; exact h2.2))
          (case c_x6_69 => exact ⟨by rw [h1.1], jn_szb hx hs h1.1⟩)
          (case rs_29 => exact Sub.of (by simp))
end K17

set_option Elab.async false
set_option linter.all false
set_option maxRecDepth 100000
set_option maxHeartbeats 4000000
namespace K17
open PySem PySem.Spec PyProof.Rows L2 DL
variable {P : Program} {w : World} {K : PySem.W.Frag} {mg : Str → Option Value} {base : Heap} {cs : Cs}
theorem sc__law_refusals : FnScope ["_law_box_here", "_law_point_here", "_law_weights", "_law_numbers_here", "_law_size", "_law_at", "_law_void", "_law_k", "_law_below"] ["_law_box_here", "_law_point_here", "_law_weights", "_law_numbers_here"] (defScope s__law_refusals) := ⟨rfl, rfl, rfl, by decide +kernel, rfl, by decide +kernel, by decide +kernel⟩
def sp__law_refusals (K : PySem.W.Frag) (cs : Cs) : Sp := Pm (ι := List Rg × List Rat × List Rat × List Int) (fun ⟨bx, ps, ws, ns⟩ => (0 < bx.length ∧ bx.length ≤ 11) ∧ (ps.length = bx.length ∧ ws.length = bx.length ∧ 6 ≤ ns.length) ∧ (∀ q ∈ ps, G7 q) ∧ (∀ q ∈ ws, G7 q) ∧ (∀ q ∈ ws, 0 ≤ q) ∧ (∀ p ∈ bx, G7B p) ∧ fullO bx = none) (fun ⟨bx, ps, ws, ns⟩ => [rLh (bx.map (rRg K)), rLst K (ps.map (rNum K)), rLst K (ws.map (rNum K)), rLst K (ns.map rInt)]) (fun ⟨bx, ps, ws, ns⟩ => .val (rBl true))
theorem ok__law_refusals (T : Txt K mg cs) : Cal P w K mg base 9 "_law_refusals" (sp__law_refusals K cs) := by
  refine cal_ok T.d__law_refusals sc__law_refusals (fun g => rfl) (fun _ _ _ _ _ _ us hl => match us, hl with | [_, _, _, _], _ => rfl) ?_
  rintro X rfl rfl rfl rfl rfl B Bf ⟨bx, ps, ws, ns⟩ F0 H0 D hp R hnx
  obtain ⟨⟨hn0, hn⟩, ⟨hl, hw, hns⟩, gp, gw, pw, gb, hf⟩ := hp
  have ha := at_b (n := ns.getD (Int.toNat 3) 0) (m := bx.length) hn0
  have hat : ((ns.getD (Int.toNat 3) 0).fmod (bx.length : Int)).toNat < bx.length := by omega
  have hat2 : ((((ns.getD (Int.toNat 3) 0).fmod (bx.length : Int)).toNat : Nat) : Int) = ((ns.getD (Int.toNat 3) 0).fmod (bx.length : Int)) := by omega
  have gv := vd_g7 (a := ((ns.getD (Int.toNat 3) 0).fmod (bx.length : Int)).toNat) (c := decide ((ns.getD (Int.toNat 4) 0).fmod 2 = 1)) gb ((bx.length : Int) - (((ns.getD (Int.toNat 3) 0).fmod (bx.length : Int)) + 1)).toNat
  have fv := vd_full (c := decide ((ns.getD (Int.toNat 4) 0).fmod 2 = 1)) hat hf ((bx.length : Int) - (((ns.getD (Int.toNat 3) 0).fmod (bx.length : Int)) + 1)).toNat
  have lv : (vdQ bx ((ns.getD (Int.toNat 3) 0).fmod (bx.length : Int)).toNat (decide ((ns.getD (Int.toNat 4) 0).fmod 2 = 1)) ((bx.length : Int) - (((ns.getD (Int.toNat 3) 0).fmod (bx.length : Int)) + 1)).toNat).length = bx.length := vd_len _
  have g0 : G7 ((0 : Int) : Rat) := g7_int (by decide)
  have gm1 : G7 ((-1 : Int) : Rat) := g7_int (by decide)
  refine @go_nf _ _ _ _ _ _ [_, _, _, _, _, _, _, _, _] rfl ?go_1
  refine go_set B (i := 4) (de_lenM B T.b_len (de_h2l (de_var B (i := 0) rfl rfl (.inl rfl))) rfl) rfl (.inl rfl) ?go_2
  refine @go_nf _ _ _ _ _ _ [_, _, _, _, _, _, _, _, _] rfl ?go_3
  refine go_set B (i := 5) (de_mod ?z3 (de_toInt B T.b_int (de_ixM (R := rInt) (0 : Int) ?xl1 ?xh2 (de_var B (i := 3) rfl rfl (.inl rfl)) de_int) rfl) (de_var B (i := 4) rfl rfl (.inl rfl))) rfl (.inl rfl) ?go_4
  (case xl1 => omega)
  (case xh2 => first | omega | (rw [vd_len]; omega))
  (case z3 => first | decide | omega)
  refine @go_nf _ _ _ _ _ _ [_, _, _, _, _, _, _, _, _] rfl ?go_5
  refine go_setL B (i := 6) (dl_list B T.b_list (de_h2l (de_var B (i := 0) rfl rfl (.inl rfl))) rfl) rfl (.inl rfl) ?go_6
  refine @go_nf _ _ _ _ _ _ [_, _, _, _, _, _, _, _, _] rfl ?go_7
  refine go_putM (R := (rRg X.K)) B (i := 6) (DE.to (r' := rRg X.K (some ((3 : Int) : Rat), some q52)) (de_tup (da_cons (de_n2o (de_i2n de_int)) (da_cons (de_n2o (DE.sub (r' := rNum X.K q52) (de_tup (da_cons de_int (da_cons de_int da_nil)) (show (2 : Nat) ≤ sizeLine by decide)) sub_52)) da_nil)) (show (2 : Nat) ≤ sizeLine by decide)) rfl) (de_var B (i := 5) rfl rfl (.inl rfl)) ?xl4 ?xh5 rfl rfl (.inl rfl) ?go_8
  (case xl4 => omega)
  (case xh5 => first | omega | (rw [vd_len]; omega))
  refine @go_nf _ _ _ _ _ _ [_, _, _, _, _, _, _, _, _] rfl ?go_9
  refine go_forS B (fun i => [(6, .ow ((vdQ bx ((ns.getD (Int.toNat 3) 0).fmod (bx.length : Int)).toNat (decide ((ns.getD (Int.toNat 4) 0).fmod 2 = 1)) i).map (rRg X.K))), (7, .any)]) (fun i => True) (sr_range2 B T.b_range (de_add (de_var B (i := 5) rfl rfl (.inl rfl)) de_int) (de_var B (i := 4) rfl rfl (.inl rfl)) rfl ?r6) _ (fun i hi => (dg_name B (i := 7) rfl (.inl rfl))) ?h0_10 ?j0_11 (fun F1 u i hi hj => ?gb_12) (fun hj => ?ge_13)
  (case r6 => omega)
  (case h0_10 => refine .same ?_; refine .same ?_; refine .same ?_; refine .same ?_; refine .same ?_; refine .same ?_; refine .ow ?h ?_; (case h => rfl); refine .any ?_; refine .same ?_; exact .nil)
  (case j0_11 => trivial)
  case gb_12 =>
    refine @go_nf _ _ _ _ _ _ [_, _, _, _, _, _, _, _, _] rfl ?go_14
    refine go_if (dt_eqI (de_mod ?z9 (de_toInt B T.b_int (de_ixM (R := rInt) (0 : Int) ?xl7 ?xh8 (de_var B (i := 3) rfl rfl (.inl rfl)) de_int) rfl) de_int) de_int) (fun hc => ?gt_15) (fun hc => ?gf_16)
    (case xl7 => omega)
    (case xh8 => first | omega | (rw [vd_len]; omega))
    (case z9 => first | decide | omega)
    case gt_15 =>
      have h1 := hc
      refine go_putM (R := (rRg X.K)) B (i := 6) (DE.to (r' := rRg X.K (some ((1 : Int) : Rat), some ((0 : Int) : Rat))) (de_tup (da_cons (de_n2o (de_i2n de_int)) (da_cons (de_n2o (de_i2n de_int)) da_nil)) (show (2 : Nat) ≤ sizeLine by decide)) rfl) (de_var B (i := 7) rfl rfl (.inl rfl)) ?xl10 ?xh11 rfl rfl (.inl rfl) ?go_17
      (case xl10 => omega)
      (case xh11 => first | omega | (rw [vd_len]; omega))
      refine @go_nf _ _ _ _ _ _ [_, _, _, _, _, _, _, _, _] rfl ?go_18
      refine go_then ?go_19
      refine go_turnS ?jn_20 ?ln_21
      (case jn_20 => trivial)
      (case ln_21 => refine .same ?_; refine .same ?_; refine .same ?_; refine .same ?_; refine .same ?_; refine .same ?_; refine .ow ?h ?_; (case h => first | exact congrArg (List.map (rRg X.K)) (vd_t ha.1 h1) | exact congrArg (List.map (rRg X.K)) (vd_f h1)); refine .any ?_; refine .same ?_; exact .nil)
    case gf_16 =>
      have h1 := hc
      refine go_then ?go_22
      refine go_turnS ?jn_23 ?ln_24
      (case jn_23 => trivial)
      (case ln_24 => refine .same ?_; refine .same ?_; refine .same ?_; refine .same ?_; refine .same ?_; refine .same ?_; refine .ow ?h ?_; (case h => first | exact congrArg (List.map (rRg X.K)) (vd_t ha.1 h1) | exact congrArg (List.map (rRg X.K)) (vd_f h1)); refine .any ?_; refine .same ?_; exact .nil)
  case ge_13 =>
    refine @go_nf _ _ _ _ _ _ [_, _, _, _, _, _, _, _, _] rfl ?go_25
    refine go_frozH 6 rfl ?go_26
    refine @go_nf _ _ _ _ _ _ [_, _, _, _, _, _, _, _, _] rfl ?go_27
    refine go_setL B (i := 8) (dl_list B T.b_list (de_var B (i := 2) rfl rfl (.inl rfl)) rfl) rfl (.inl rfl) ?go_28
    refine @go_nf _ _ _ _ _ _ [_, _, _, _, _, _, _, _, _] rfl ?go_29
    refine go_putM (R := (rNum X.K)) B (i := 8) (DE.to (r' := rNum X.K (belQ ns)) (de_if (dt_gt (de_mod ?z14 (de_toInt B T.b_int (de_ixM (R := rInt) (0 : Int) ?xl12 ?xh13 (de_var B (i := 3) rfl rfl (.inl rfl)) de_int) rfl) de_int) de_int) (fun hc2 => DE.sub (r' := rNum X.K (belQ ns)) (de_tup (da_cons (de_neg de_int) (da_cons (de_add de_int (de_mod ?z17 (de_toInt B T.b_int (de_ixM (R := rInt) (0 : Int) ?xl15 ?xh16 (de_var B (i := 3) rfl rfl (.inl rfl)) de_int) rfl) de_int)) da_nil)) (show (2 : Nat) ≤ sizeLine by decide)) ?sp18) (fun hc2 => DE.sub (r' := rNum X.K (belQ ns)) (de_neg de_int) ?sq19)) rfl) (de_var B (i := 5) rfl rfl (.inl rfl)) ?xl20 ?xh21 rfl rfl (.inl rfl) ?go_30
    (case xl12 => omega)
    (case xh13 => first | omega | (rw [vd_len]; omega))
    (case z14 => first | decide | omega)
    (case xl15 => omega)
    (case xh16 => first | omega | (rw [vd_len]; omega))
    (case z17 => first | decide | omega)
    (case sp18 => exact bel_p hc2)
    (case sq19 => exact bel_w hc2)
    (case xl20 => omega)
    (case xh21 => first | omega | (rw [vd_len]; omega))
    refine @go_nf _ _ _ _ _ _ [_, _, _, _, _, _, _, _, _] rfl ?go_31
    refine go_frozH 8 rfl ?go_32
    refine @go_nf _ _ _ _ _ _ [_, _, _, _, _, _, _, _, _] rfl ?go_33
    refine go_if (DW.t (dw_or (dt_neSI B (shaped_si (by decide +kernel)) (shaped_si (by decide +kernel)) (CA.val (ca_call B (ok__law_kind_v_0e T) (by decide) (_, _, ((ns.getD (Int.toNat 3) 0).fmod (bx.length : Int)).toNat) ?c_r0_22 (da_cons de_int (da_cons (de_h2l (de_var B (i := 6) rfl rfl (.inl rfl))) (da_cons (DL.froz (dl_list B T.b_list (de_var B (i := 1) rfl rfl (.inl rfl)) rfl)) (da_cons de_non da_nil)))) rfl)) (de_tup (da_cons de_str (da_cons (de_var B (i := 5) rfl rfl (.inl rfl)) da_nil)) (show (2 : Nat) ≤ sizeLine by decide))) (fun hb1 => (dw_or1 (dt_neSI B (shaped_si (by decide +kernel)) (shaped_si (by decide +kernel)) (CA.val (ca_call B (ok__law_kind_v_0s T) (by decide) (_, _) ?c_r1_25 (da_cons de_int (da_cons (de_h2l (de_var B (i := 6) rfl rfl (.inl rfl))) (da_cons (DL.froz (DL.to (l' := List.map (rNum X.K) (ps ++ [((0 : Int) : Rat)])) (dl_catH ?cz23 (DL.hfz (dl_list B T.b_list (de_var B (i := 1) rfl rfl (.inl rfl)) rfl)) (DL.hfz (dl_lst (da_cons (de_i2n de_int) da_nil) (show (1 : Nat) ≤ sizeLine by decide)))) ?cl24)) (da_cons de_non da_nil)))) rfl)) (de_tup (da_cons de_str (da_cons de_int da_nil)) (show (2 : Nat) ≤ sizeLine by decide))))))) (fun hc => ?gt_34) (fun hc => ?gf_35)
    (case c_r0_22 => exact i_pre gp gv (by omega) ⟨by rw [lv]; omega, fv⟩)
    (case cz23 => first | (rw [List.length_map, lv]; exact Nat.le_trans (show _ ≤ 1000 by simp; omega) (by decide)) | (rw [List.length_map]; exact Nat.le_trans (show _ ≤ 1000 by simp; omega) (by decide)) | (simp; omega))
    (case cl24 => first | rfl | (rw [List.map_append]; rfl) | (simp [List.map_drop]; done))
    (case c_r1_25 => exact i_pre (g7_app gp g0) gv (by simp; omega) (by rw [lv]; simp; omega))
    case gt_34 =>
      exfalso
      exact k_dead hat2 rfl hc
    case gf_35 =>
      skip
      refine go_then ?go_36
      refine go_if (DW.t (dw_or (dt_neSI B (shaped_si (by decide +kernel)) (shaped_si (by decide +kernel)) (CA.val (ca_call B (ok__law_kind_v_0s T) (by decide) (_, _) ?c_r2_28 (da_cons de_int (da_cons (de_h2l (de_var B (i := 0) rfl rfl (.inl rfl))) (da_cons (DL.froz (DL.to (l' := List.map (rNum X.K) (ps.drop 1)) (dl_from (DL.froz (dl_list B T.b_list (de_var B (i := 1) rfl rfl (.inl rfl)) rfl)) ?sl26 de_int) ?cl27)) (da_cons de_non da_nil)))) rfl)) (de_tup (da_cons de_str (da_cons de_int da_nil)) (show (2 : Nat) ≤ sizeLine by decide))) (fun hb1 => (dw_or1 (dt_neSI B (shaped_si (by decide +kernel)) (shaped_si (by decide +kernel)) (CA.val (ca_call B (ok__law_kind_v_4s T) (by decide) (_, _) ?c_r3_31 (da_cons de_int (da_cons (de_h2l (de_var B (i := 0) rfl rfl (.inl rfl))) (da_cons (DL.froz (DL.to (l' := List.map (rNum X.K) (ps ++ [((0 : Int) : Rat)])) (dl_catH ?cz29 (DL.hfz (dl_list B T.b_list (de_var B (i := 1) rfl rfl (.inl rfl)) rfl)) (DL.hfz (dl_lst (da_cons (de_i2n de_int) da_nil) (show (1 : Nat) ≤ sizeLine by decide)))) ?cl30)) (da_cons de_non da_nil)))) rfl)) (de_tup (da_cons de_str (da_cons de_int da_nil)) (show (2 : Nat) ≤ sizeLine by decide))))))) (fun hc => ?gt_37) (fun hc => ?gf_38)
      (case sl26 => omega)
      (case cl27 => first | rfl | (rw [List.map_append]; rfl) | (simp [List.map_drop]; done))
      (case c_r2_28 => exact i_pre (g7_drop gp) gb (by simp; omega) (by simp; omega))
      (case cz29 => first | (rw [List.length_map, lv]; exact Nat.le_trans (show _ ≤ 1000 by simp; omega) (by decide)) | (rw [List.length_map]; exact Nat.le_trans (show _ ≤ 1000 by simp; omega) (by decide)) | (simp; omega))
      (case cl30 => first | rfl | (rw [List.map_append]; rfl) | (simp [List.map_drop]; done))
      (case c_r3_31 => exact g_pre (g7_app gp g0) gb (by simp; omega) (by simp; omega))
      case gt_37 =>
        exfalso
        exact k_dead rfl rfl hc
      case gf_38 =>
        skip
        refine go_then ?go_39
        refine go_if (DW.t (dw_or (dt_neSI B (shaped_si (by decide +kernel)) (shaped_si (by decide +kernel)) (CA.val (ca_call B (ok__law_kind_v_4e T) (by decide) (_, _, ((ns.getD (Int.toNat 3) 0).fmod (bx.length : Int)).toNat) ?c_r4_32 (da_cons de_int (da_cons (de_h2l (de_var B (i := 6) rfl rfl (.inl rfl))) (da_cons (DL.froz (dl_list B T.b_list (de_var B (i := 1) rfl rfl (.inl rfl)) rfl)) (da_cons de_non da_nil)))) rfl)) (de_tup (da_cons de_str (da_cons (de_var B (i := 5) rfl rfl (.inl rfl)) da_nil)) (show (2 : Nat) ≤ sizeLine by decide))) (fun hb1 => (dw_or1 (dt_neSI B (shaped_si (by decide +kernel)) (shaped_si (by decide +kernel)) (CA.val (ca_call B (ok__law_kind_v_4s T) (by decide) (_, _) ?c_r5_35 (da_cons de_int (da_cons (de_h2l (de_var B (i := 6) rfl rfl (.inl rfl))) (da_cons (DL.froz (DL.to (l' := List.map (rNum X.K) (ps.drop 1)) (dl_from (DL.froz (dl_list B T.b_list (de_var B (i := 1) rfl rfl (.inl rfl)) rfl)) ?sl33 de_int) ?cl34)) (da_cons de_non da_nil)))) rfl)) (de_tup (da_cons de_str (da_cons de_int da_nil)) (show (2 : Nat) ≤ sizeLine by decide))))))) (fun hc => ?gt_40) (fun hc => ?gf_41)
        (case c_r4_32 => exact g_pre gp gv (by omega) ⟨by rw [lv]; omega, fv⟩)
        (case sl33 => omega)
        (case cl34 => first | rfl | (rw [List.map_append]; rfl) | (simp [List.map_drop]; done))
        (case c_r5_35 => exact g_pre (g7_drop gp) gv (by simp; omega) (by rw [lv]; simp; omega))
        case gt_40 =>
          exfalso
          exact k_dead hat2 rfl hc
        case gf_41 =>
          skip
          refine go_then ?go_42
          refine go_if (DW.t (dw_or (dt_neSI B (shaped_si (by decide +kernel)) (shaped_si (by decide +kernel)) (CA.val (ca_call B (ok__law_kind_v_1s T) (by decide) (_, _) ?c_r6_38 (da_cons de_int (da_cons (de_h2l (de_var B (i := 0) rfl rfl (.inl rfl))) (da_cons (DL.froz (DL.to (l' := List.map (rRg X.K) (bx ++ [(some ((0 : Int) : Rat), some ((0 : Int) : Rat))])) (dl_catH ?cz36 (de_var B (i := 0) rfl rfl (.inl rfl)) (DL.hfz (dl_lst (da_cons (DE.to (r' := rRg X.K (some ((0 : Int) : Rat), some ((0 : Int) : Rat))) (de_tup (da_cons (de_n2o (de_i2n de_int)) (da_cons (de_n2o (de_i2n de_int)) da_nil)) (show (2 : Nat) ≤ sizeLine by decide)) rfl) da_nil) (show (1 : Nat) ≤ sizeLine by decide)))) ?cl37)) (da_cons de_non da_nil)))) rfl)) (de_tup (da_cons de_str (da_cons de_int da_nil)) (show (2 : Nat) ≤ sizeLine by decide))) (fun hb1 => (dw_or1 (dt_neSI B (shaped_si (by decide +kernel)) (shaped_si (by decide +kernel)) (CA.val (ca_call B (ok__law_kind_v_1e T) (by decide) (_, _, ((ns.getD (Int.toNat 3) 0).fmod (bx.length : Int)).toNat) ?c_r7_41 (da_cons de_int (da_cons (de_h2l (de_var B (i := 6) rfl rfl (.inl rfl))) (da_cons (DL.froz (DL.to (l' := List.map (rRg X.K) (bx.drop 1)) (dl_from (de_h2l (de_var B (i := 0) rfl rfl (.inl rfl))) ?sl39 de_int) ?cl40)) (da_cons de_non da_nil)))) rfl)) (de_tup (da_cons de_str (da_cons (de_var B (i := 5) rfl rfl (.inl rfl)) da_nil)) (show (2 : Nat) ≤ sizeLine by decide))))))) (fun hc => ?gt_43) (fun hc => ?gf_44)
          (case cz36 => first | (rw [List.length_map, lv]; exact Nat.le_trans (show _ ≤ 1000 by simp; omega) (by decide)) | (rw [List.length_map]; exact Nat.le_trans (show _ ≤ 1000 by simp; omega) (by decide)) | (simp; omega))
          (case cl37 => first | rfl | (rw [List.map_append]; rfl) | (simp [List.map_drop]; done))
          (case c_r6_38 => exact m_pre2 gb (g7b_app gb (show G7B (some ((0 : Int) : Rat), some ((0 : Int) : Rat)) from ⟨g0, g0⟩)) (by omega) (meet_s2 hf (by simp)))
          (case sl39 => omega)
          (case cl40 => first | rfl | (rw [List.map_append]; rfl) | (simp [List.map_drop]; done))
          (case c_r7_41 => exact m_pre2 gv (g7b_drop gb) (by rw [lv]; omega) (meet_self fv))
          case gt_43 =>
            exfalso
            exact k_dead rfl hat2 hc
          case gf_44 =>
            skip
            refine go_then ?go_45
            refine go_if (DW.t (dw_or (dt_neSI B (shaped_si (by decide +kernel)) (shaped_si (by decide +kernel)) (CA.val (ca_call B (ok__law_kind_v_1e T) (by decide) (_, _, ((ns.getD (Int.toNat 3) 0).fmod (bx.length : Int)).toNat) ?c_r8_42 (da_cons de_int (da_cons (de_h2l (de_var B (i := 0) rfl rfl (.inl rfl))) (da_cons (de_h2l (de_var B (i := 6) rfl rfl (.inl rfl))) (da_cons de_non da_nil)))) rfl)) (de_tup (da_cons de_str (da_cons (de_var B (i := 5) rfl rfl (.inl rfl)) da_nil)) (show (2 : Nat) ≤ sizeLine by decide))) (fun hb1 => (dw_or1 (dt_neSI B (shaped_si (by decide +kernel)) (shaped_si (by decide +kernel)) (CA.val (ca_call B (ok__law_kind_v_2s T) (by decide) (_, _, _) ?c_r9_45 (da_cons de_int (da_cons (de_h2l (de_var B (i := 0) rfl rfl (.inl rfl))) (da_cons (de_h2l (de_var B (i := 0) rfl rfl (.inl rfl))) (da_cons (DL.froz (DL.to (l' := List.map (rRg X.K) ((vdQ bx ((ns.getD (Int.toNat 3) 0).fmod (bx.length : Int)).toNat (decide ((ns.getD (Int.toNat 4) 0).fmod 2 = 1)) ((bx.length : Int) - (((ns.getD (Int.toNat 3) 0).fmod (bx.length : Int)) + 1)).toNat) ++ [(some ((1 : Int) : Rat), some ((1 : Int) : Rat))])) (dl_catH ?cz43 (de_var B (i := 6) rfl rfl (.inl rfl)) (DL.hfz (dl_lst (da_cons (DE.to (r' := rRg X.K (some ((1 : Int) : Rat), some ((1 : Int) : Rat))) (de_tup (da_cons (de_n2o (de_i2n de_int)) (da_cons (de_n2o (de_i2n de_int)) da_nil)) (show (2 : Nat) ≤ sizeLine by decide)) rfl) da_nil) (show (1 : Nat) ≤ sizeLine by decide)))) ?cl44)) da_nil)))) rfl)) (de_tup (da_cons de_str (da_cons de_int da_nil)) (show (2 : Nat) ≤ sizeLine by decide))))))) (fun hc => ?gt_46) (fun hc => ?gf_47)
            (case c_r8_42 => exact m_pre2 gb gv (by omega) (meet_e2 hf lv.symm fv))
            (case cz43 => first | (rw [List.length_map, lv]; exact Nat.le_trans (show _ ≤ 1000 by simp; omega) (by decide)) | (rw [List.length_map]; exact Nat.le_trans (show _ ≤ 1000 by simp; omega) (by decide)) | (simp; omega))
            (case cl44 => first | rfl | (rw [List.map_append]; rfl) | (simp [List.map_drop]; done))
            (case c_r9_45 => exact m_pre3 gb gb (g7b_app gv (show G7B (some ((1 : Int) : Rat), some ((1 : Int) : Rat)) from ⟨g7_int (by decide), g7_int (by decide)⟩)) (by omega) (meet_s3 hf (by rw [List.length_append, lv]; simp)))
            case gt_46 =>
              exfalso
              exact k_dead hat2 rfl hc
            case gf_47 =>
              skip
              refine go_then ?go_48
              refine go_if (DW.t (dw_or (dt_neSI B (shaped_si (by decide +kernel)) (shaped_si (by decide +kernel)) (CA.val (ca_call B (ok__law_kind_v_3s T) (by decide) (_, _, _) ?c_r10_48 (da_cons de_int (da_cons (de_h2l (de_var B (i := 0) rfl rfl (.inl rfl))) (da_cons (DL.froz (DL.to (l' := List.map (rNum X.K) (ws ++ [((-1 : Int) : Rat)])) (dl_catH ?cz46 (DL.hfz (dl_list B T.b_list (de_var B (i := 2) rfl rfl (.inl rfl)) rfl)) (DL.hfz (dl_lst (da_cons (de_i2n (de_neg de_int)) da_nil) (show (1 : Nat) ≤ sizeLine by decide)))) ?cl47)) (da_cons (de_i2n (de_neg de_int)) da_nil)))) rfl)) (de_tup (da_cons de_str (da_cons de_int da_nil)) (show (2 : Nat) ≤ sizeLine by decide))) (fun hb1 => (dw_or1 (dt_neSI B (shaped_si (by decide +kernel)) (shaped_si (by decide +kernel)) (CA.val (ca_call B (ok__law_kind_v_3e T) (by decide) (_, _, _, ((ns.getD (Int.toNat 3) 0).fmod (bx.length : Int)).toNat) ?c_r11_49 (da_cons de_int (da_cons (de_h2l (de_var B (i := 6) rfl rfl (.inl rfl))) (da_cons (DL.froz (dl_list B T.b_list (de_var B (i := 2) rfl rfl (.inl rfl)) rfl)) (da_cons (de_i2n (de_neg de_int)) da_nil)))) rfl)) (de_tup (da_cons de_str (da_cons (de_var B (i := 5) rfl rfl (.inl rfl)) da_nil)) (show (2 : Nat) ≤ sizeLine by decide))))))) (fun hc => ?gt_49) (fun hc => ?gf_50)
              (case cz46 => first | (rw [List.length_map, lv]; exact Nat.le_trans (show _ ≤ 1000 by simp; omega) (by decide)) | (rw [List.length_map]; exact Nat.le_trans (show _ ≤ 1000 by simp; omega) (by decide)) | (simp; omega))
              (case cl47 => first | rfl | (rw [List.map_append]; rfl) | (simp [List.map_drop]; done))
              (case c_r10_48 => exact w_pre gb (by omega) (by simp; omega) (g7_app gw gm1) gm1 (by simp; omega))
              (case c_r11_49 => exact w_pre gv (by rw [lv]; omega) (by omega) gw gm1 ⟨by rw [lv]; omega, fv⟩)
              case gt_49 =>
                exfalso
                exact k_dead rfl hat2 hc
              case gf_50 =>
                skip
                refine go_then ?go_51
                refine go_if (DW.t (dw_or (dt_neSI B (shaped_si (by decide +kernel)) (shaped_si (by decide +kernel)) (CA.val (ca_call B (ok__law_kind_v_3w T) (by decide) (_, _, _) ?c_r12_50 (da_cons de_int (da_cons (de_h2l (de_var B (i := 0) rfl rfl (.inl rfl))) (da_cons (de_h2l (de_var B (i := 8) rfl rfl (.inl rfl))) (da_cons (de_i2n de_int) da_nil)))) rfl)) (de_tup (da_cons de_str (da_cons de_int da_nil)) (show (2 : Nat) ≤ sizeLine by decide))) (fun hb1 => (dw_or1 (dt_neSI B (shaped_si (by decide +kernel)) (shaped_si (by decide +kernel)) (CA.val (ca_call B (ok__law_kind_v_3w T) (by decide) (_, _, _) ?c_r13_51 (da_cons de_int (da_cons (de_h2l (de_var B (i := 0) rfl rfl (.inl rfl))) (da_cons (DL.froz (dl_list B T.b_list (de_var B (i := 2) rfl rfl (.inl rfl)) rfl)) (da_cons (DE.sub (r' := rNum X.K mhalf) (de_tup (da_cons (de_neg de_int) (da_cons de_int da_nil)) (show (2 : Nat) ≤ sizeLine by decide)) sub_mh) da_nil)))) rfl)) (de_tup (da_cons de_str (da_cons de_int da_nil)) (show (2 : Nat) ≤ sizeLine by decide))))))) (fun hc => ?gt_52) (fun hc => ?gf_53)
                (case c_r12_50 => exact w_pre gb (by omega) (by rw [List.length_set]; omega) (g7_set gw (bel_g7 ns)) g0 ⟨by rw [List.length_set]; omega, hf, low_at (by omega) (bel_lt ns)⟩)
                (case c_r13_51 => exact w_pre gb (by omega) (by omega) gw g7_mh ⟨by omega, hf, low_m mhalf_lt⟩)
                case gt_52 =>
                  exfalso
                  exact k_dead rfl rfl hc
                case gf_53 =>
                  skip
                  refine go_then ?go_54
                  refine go_ret R (de_eqSI B (shaped_si (by decide +kernel)) (shaped_si (by decide +kernel)) (CA.val (ca_call B (ok__law_kind_v_3n T) (by decide) (_, _, _) ?c_r14_52 (da_cons de_int (da_cons (de_h2l (de_var B (i := 0) rfl rfl (.inl rfl))) (da_cons (DL.froz (dl_list B T.b_list (de_var B (i := 2) rfl rfl (.inl rfl)) rfl)) (da_cons (de_i2n de_int) da_nil)))) rfl)) (de_tup (da_cons de_str (da_cons de_int da_nil)) (show (2 : Nat) ≤ sizeLine by decide))) ?rs_55
                  (case c_r14_52 => exact w_pre gb (by omega) (by omega) gw g0 ⟨by omega, hf, low_no pw (by decide)⟩)
                  (case rs_55 => exact Sub.of (congrArg rBl (k_eq rfl)))
end K17

set_option Elab.async false
set_option linter.all false
set_option maxRecDepth 100000
set_option maxHeartbeats 4000000
namespace K17
open PySem PySem.Spec PyProof.Rows L2 DL
variable {P : Program} {w : World} {K : PySem.W.Frag} {mg : Str → Option Value} {base : Heap} {cs : Cs}
theorem sc_law : FnScope ["_law_script", "_law_numbers_here", "_law_size", "_law_large", "_law_point_here", "_law_more", "_law_boxes", "_law_far", "_law_place", "_law_mixed", "_law_weights", "_law_width", "_law_row", "_law_box_here", "_law_zero", "_law_k"] ["_law_script"] (defScope s_law) := ⟨rfl, rfl, rfl, by decide +kernel, rfl, by decide +kernel, by decide +kernel⟩
def sp_law (K : PySem.W.Frag) (cs : Cs) : Sp := Pm (ι := List Int) (fun ns => True) (fun ns => [rLst K (ns.map rInt)]) (fun ns => .val (rBl true))
theorem ok_law (T : Txt K mg cs) {f : Addr} {fd : FuncData} (F : Fun K "law" "law" s_law f fd) : FnOk P w K mg base (L2.CX P w) 10 f fd ["_law_script"] (sp_law K cs) := by
  refine cal_okF F sc_law (fun g => rfl) ?_
  rintro X rfl rfl rfl rfl rfl B Bf ns F0 H0 D hp R hnx
  have hS := jS_b ns
  have lN := jN_len ns
  have lM := jM_len ns
  have lP := jP_len ns
  have lF := jF_len ns
  refine @go_nf _ _ _ _ _ _ [_, _, _, _, _, _, _, _, _, _, _, _, _, _, _, _] rfl ?go_1
  refine go_setL B (i := 1) (CA.lst (ca_call B (ok__law_numbers T) (by decide) (ns, 0, 60) ?c_law_numbers_1 (da_cons (de_var B (i := 0) rfl rfl (.inl rfl)) (da_cons de_int (da_cons de_int da_nil))) rfl)) rfl (.inr ⟨rfl, Bf _⟩) ?go_2
  (case c_law_numbers_1 => show (60 : Nat) ≤ 100; decide)
  refine @go_nf _ _ _ _ _ _ [_, _, _, _, _, _, _, _, _, _, _, _, _, _, _, _] rfl ?go_3
  refine go_froz 1 rfl ?go_4
  refine @go_nf _ _ _ _ _ _ [_, _, _, _, _, _, _, _, _, _, _, _, _, _, _, _] rfl ?go_5
  refine go_set B (i := 2) (DE.to (r' := rInt ((jS ns : Nat) : Int)) (de_add de_int (de_mod ?z2 (de_toInt B T.b_int (CA.val (ca_call B (ok__law_cell T) (by decide) (ns, 1) trivial (da_cons (de_var B (i := 0) rfl rfl (.inl rfl)) (da_cons de_int da_nil)) rfl)) rfl) de_int)) ?js3) rfl (.inl rfl) ?go_6
  (case z2 => first | decide | omega)
  (case js3 => exact congrArg rInt (jS_i ns).symm)
  refine @go_nf _ _ _ _ _ _ [_, _, _, _, _, _, _, _, _, _, _, _, _, _, _, _] rfl ?go_7
  refine go_set B (i := 3) (de_eqI (de_mod ?z6 (de_divG ?z4 ?d5 (de_toInt B T.b_int (CA.val (ca_call B (ok__law_cell T) (by decide) (ns, 1) trivial (da_cons (de_var B (i := 0) rfl rfl (.inl rfl)) (da_cons de_int da_nil)) rfl)) rfl) de_int) de_int) de_int) rfl (.inl rfl) ?go_8
  (case z4 => first | decide | omega)
  (case d5 => decide)
  (case z6 => first | decide | omega)
  refine @go_nf _ _ _ _ _ _ [_, _, _, _, _, _, _, _, _, _, _, _, _, _, _, _] rfl ?go_9
  refine go_setL B (i := 4) (CA.lst (ca_call B (ok__law_point T) (by decide) (jN ns, jS ns, jL ns) ?c_law_point_7 (da_cons (de_var B (i := 1) rfl rfl (.inr (.inl rfl))) (da_cons (de_var B (i := 2) rfl rfl (.inl rfl)) (da_cons (de_var B (i := 3) rfl rfl (.inl rfl)) da_nil))) rfl)) rfl (.inr ⟨rfl, Bf _⟩) ?go_10
  (case c_law_point_7 => exact ⟨by omega, by first | (rw [lN]; omega) | (rw [List.length_drop, lN]; omega)⟩)
  refine @go_nf _ _ _ _ _ _ [_, _, _, _, _, _, _, _, _, _, _, _, _, _, _, _] rfl ?go_11
  refine go_froz 4 rfl ?go_12
  refine @go_nf _ _ _ _ _ _ [_, _, _, _, _, _, _, _, _, _, _, _, _, _, _, _] rfl ?go_13
  refine go_setL B (i := 5) (CA.lst (ca_call B (ok__law_numbers T) (by decide) (ns, 2, 60) ?c_law_numbers_8 (da_cons (de_var B (i := 0) rfl rfl (.inl rfl)) (da_cons de_int (da_cons de_int da_nil))) rfl)) rfl (.inr ⟨rfl, Bf _⟩) ?go_14
  (case c_law_numbers_8 => show (60 : Nat) ≤ 100; decide)
  refine @go_nf _ _ _ _ _ _ [_, _, _, _, _, _, _, _, _, _, _, _, _, _, _, _] rfl ?go_15
  refine go_froz 5 rfl ?go_16
  refine @go_nf _ _ _ _ _ _ [_, _, _, _, _, _, _, _, _, _, _, _, _, _, _, _] rfl ?go_17
  refine go_setLc (l' := List.map (fun l => rLst X.K (List.map (rRg X.K) l)) (((List.range 3).map (jB ns)))) B [("_law_k", 15)] (sr_range1 B T.b_range de_int rfl ?r9 ?r10) (blkOk_by (by decide +kernel)) _ (fun _ => true) (fun i : Nat => rLst X.K ((jB ns i).map (rRg X.K))) ?sz14 (by decide) (fun _ _ _ _ _ B i hi => (dg_name B (i := 15) rfl (.inl rfl))) (fun _ _ _ _ _ B i hi => dts_nil) (fun _ _ _ _ _ B i hi hb => (DL.froz (CA.lst (ca_call B (ok__law_box T) (by decide) (jP ns, (jM ns).drop (14 * (i : Int)).toNat) ?c_law_box_13 (da_cons (de_var B (i := 4) rfl rfl (.inr (.inl rfl))) (da_cons (DL.froz (dl_from (de_var B (i := 5) rfl rfl (.inr (.inl rfl))) ?sl12 (de_mulG ?m11 de_int (de_var B (i := 15) rfl rfl (.inl rfl))))) da_nil)) rfl)))) (hl := ?cl15) (iy := 6) (hNy := rfl) (hyl := rfl) (h := ?go_18) (hsw := fun env h => by cases env; subst h; with_unfolding_all rfl)
  (case r9 => omega)
  (case r10 => omega)
  (case m11 => exact mul_s (by decide) (by omega))
  (case sl12 => first | omega | decide)
  (case c_law_box_13 => first | exact ⟨by omega, by rw [List.length_drop, lM, lP]; omega, g56_sz (jP_g ns) (by decide)⟩ | exact ⟨by rw [jX_len]; omega, by rw [List.length_drop, lM, jX_len]; omega, g56_sz (jX_g ns) (by decide)⟩ | exact ⟨by omega, by rw [List.length_drop, lM, lF]; omega, g56_sz (jF_g ns) (by decide)⟩)
  (case sz14 => first | (show (3 : Nat) < sizeLine; decide) | exact Nat.lt_of_le_of_lt (show _ ≤ 7 by omega) (by decide))
  (case cl15 => first | rfl | (rw [lc_true, List.map_map]; rfl) | exact lc_all (R := fun _ => rInt 0) (d := ([] : List Rg)) (xs := ((List.range 3).map (jB ns))) (f := fun l : List Rg => rLst X.K (List.map (rRg X.K) l)) | exact j_lc rfl | exact j_lc2 rfl)
  refine @go_nf _ _ _ _ _ _ [_, _, _, _, _, _, _, _, _, _, _, _, _, _, _, _] rfl ?go_19
  refine go_froz 6 rfl ?go_20
  refine @go_nf _ _ _ _ _ _ [_, _, _, _, _, _, _, _, _, _, _, _, _, _, _, _] rfl ?go_21
  refine go_if (DW.t (dw_or (dt_not (dt_val (CA.val (ca_call B (ok__law_around T) (by decide) _ ?c_law_around_16 (da_cons (DL.froz (dl_list B T.b_list (de_var B (i := 4) rfl rfl (.inr (.inl rfl))) rfl)) da_nil) rfl)))) (fun hb1 => (dw_or1 (dt_not (dt_val (CA.val (ca_call B (ok__law_meets T) (by decide) (jB ns 0, jB ns 1, jB ns 2, jS ns) ?c_m1_19 (da_cons (DL.froz (DL.to (l' := List.map (fun l => rLst X.K (List.map (rRg X.K) l)) ([jB ns 0, jB ns 1, jB ns 2])) (dl_lc B [("_law_box_here", 13)] (sr_listM (R := (fun l => rLst X.K (List.map (rRg X.K) l))) [] (de_var B (i := 6) rfl rfl (.inl rfl))) (blkOk_by (by decide +kernel)) _ (fun _ => true) (fun i : Nat => rLst X.K ((((List.range 3).map (jB ns)).getD i []).map (rRg X.K))) ?sz17 (by decide) (fun _ _ _ _ _ B i hi => (dg_name B (i := 13) rfl (.inl rfl))) (fun _ _ _ _ _ B i hi => dts_nil) (fun _ _ _ _ _ B i hi hb => (DL.froz (dl_list B T.b_list (de_var B (i := 13) rfl rfl (.inl rfl)) rfl)))) ?cl18)) da_nil) rfl)))))))) (fun hc => ?gt_22) (fun hc => ?gf_23)
  (case c_law_around_16 => exact ⟨by show (jP ns).length ≤ 1000; omega, g56_sz (jP_g ns) (by decide)⟩)
  (case sz17 => first | (show (3 : Nat) < sizeLine; decide) | exact Nat.lt_of_le_of_lt (show _ ≤ 7 by omega) (by decide))
  (case cl18 => first | rfl | (rw [lc_true, List.map_map]; rfl) | exact lc_all (R := fun _ => rInt 0) (d := ([] : List Rg)) (xs := ((List.range 3).map (jB ns))) (f := fun l : List Rg => rLst X.K (List.map (rRg X.K) l)) | exact j_lc rfl | exact j_lc2 rfl)
  (case c_m1_19 => exact jm_pre hS (jB_m ns 0) (jB_m ns 1) (jB_m ns 2) (jB_g ns 0) (jB_g ns 1) (jB_g ns 2))
  case gt_22 =>
    exfalso; revert hc; simp
  case gf_23 =>
    try (simp only [decide_eq_true_eq, decide_eq_false_iff_not, Bool.not_eq_true', Bool.not_eq_false', Bool.not_eq_true, Bool.not_eq_false] at hc)
    refine go_then ?go_24
    refine go_setL B (i := 7) (CA.lst (ca_call B (ok__law_point T) (by decide) ((jN ns).drop 14, jS ns, jL ns) ?c_law_point_21 (da_cons (DL.froz (dl_from (de_var B (i := 1) rfl rfl (.inr (.inl rfl))) ?sl20 de_int)) (da_cons (de_var B (i := 2) rfl rfl (.inl rfl)) (da_cons (de_var B (i := 3) rfl rfl (.inl rfl)) da_nil))) rfl)) rfl (.inr ⟨rfl, Bf _⟩) ?go_25
    (case sl20 => first | omega | decide)
    (case c_law_point_21 => exact ⟨by omega, by first | (rw [lN]; omega) | (rw [List.length_drop, lN]; omega)⟩)
    refine @go_nf _ _ _ _ _ _ [_, _, _, _, _, _, _, _, _, _, _, _, _, _, _, _] rfl ?go_26
    refine go_froz 7 rfl ?go_27
    refine @go_nf _ _ _ _ _ _ [_, _, _, _, _, _, _, _, _, _, _, _, _, _, _, _] rfl ?go_28
    refine go_set B (i := 8) (de_mod ?z24 (de_toInt B T.b_int (de_ixM (R := rInt) (0 : Int) ?xl22 ?xh23 (de_var B (i := 1) rfl rfl (.inr (.inl rfl))) de_int) rfl) (de_var B (i := 2) rfl rfl (.inl rfl))) rfl (.inr ⟨rfl, Bf _⟩) ?go_29
    (case xl22 => first | omega | decide)
    (case xh23 => first | omega | (show (0 : Int) < ((3 : Nat) : Int); decide) | (show (1 : Int) < ((3 : Nat) : Int); decide) | exact jx_h lN (by decide) | exact jx_h lM (by decide) | (show _ < (((jN ns).length : Nat) : Int); rw [lN]; omega) | (show _ < (((jM ns).length : Nat) : Int); rw [lM]; omega) | (show _ < (((jP ns).length : Nat) : Int); rw [lP]; omega) | (show _ < (((jF ns).length : Nat) : Int); rw [lF]; omega))
    (case z24 => first | decide | omega)
    refine @go_nf _ _ _ _ _ _ [_, _, _, _, _, _, _, _, _, _, _, _, _, _, _, _] rfl ?go_30
    refine go_setLc (l' := List.map (rNum X.K) (jX ns)) B [("_law_k", 15)] (sr_range1 B T.b_range (de_var B (i := 2) rfl rfl (.inl rfl)) rfl ?r25 ?r26) (blkOk_by (by decide +kernel)) _ (fun _ => true) (fun i : Nat => rNum X.K (jXi ns i)) ?sz33 (by decide) (fun _ _ _ _ _ B i hi => (dg_name B (i := 15) rfl (.inl rfl))) (fun _ _ _ _ _ B i hi => dts_nil) (fun _ _ _ _ _ B i hi hb => (DE.to (r' := rNum X.K (jXi ns i)) (de_if (dt_lt (de_var B (i := 15) rfl rfl (.inl rfl)) (de_var B (i := 8) rfl rfl (.inr (.inl rfl)))) (fun hc2 => DE.to (r' := rNum X.K (jXi ns i)) (de_ixM (R := (rNum X.K)) (0 : Rat) ?xl27 ?xh28 (de_var B (i := 4) rfl rfl (.inr (.inl rfl))) (de_var B (i := 15) rfl rfl (.inl rfl))) ?xa31) (fun hc2 => DE.to (r' := rNum X.K (jXi ns i)) (de_ixM (R := (rNum X.K)) (0 : Rat) ?xl29 ?xh30 (de_var B (i := 7) rfl rfl (.inr (.inl rfl))) (de_var B (i := 15) rfl rfl (.inl rfl))) ?xb32)) rfl)) (hl := ?cl34) (iy := 9) (hNy := rfl) (hyl := rfl) (h := ?go_31) (hsw := fun env h => by cases env; subst h; with_unfolding_all rfl)
    (case r25 => omega)
    (case r26 => omega)
    (case xl27 => first | omega | decide)
    (case xh28 => first | omega | (show (0 : Int) < ((3 : Nat) : Int); decide) | (show (1 : Int) < ((3 : Nat) : Int); decide) | exact jx_h lN (by decide) | exact jx_h lM (by decide) | (show _ < (((jN ns).length : Nat) : Int); rw [lN]; omega) | (show _ < (((jM ns).length : Nat) : Int); rw [lM]; omega) | (show _ < (((jP ns).length : Nat) : Int); rw [lP]; omega) | (show _ < (((jF ns).length : Nat) : Int); rw [lF]; omega))
    (case xl29 => first | omega | decide)
    (case xh30 => first | omega | (show (0 : Int) < ((3 : Nat) : Int); decide) | (show (1 : Int) < ((3 : Nat) : Int); decide) | exact jx_h lN (by decide) | exact jx_h lM (by decide) | (show _ < (((jN ns).length : Nat) : Int); rw [lN]; omega) | (show _ < (((jM ns).length : Nat) : Int); rw [lM]; omega) | (show _ < (((jP ns).length : Nat) : Int); rw [lP]; omega) | (show _ < (((jF ns).length : Nat) : Int); rw [lF]; omega))
    (case xa31 => exact congrArg (rNum X.K) (jXi_t ns hc2))
    (case xb32 => exact congrArg (rNum X.K) (jXi_f ns hc2))
    (case sz33 => first | (show (3 : Nat) < sizeLine; decide) | exact Nat.lt_of_le_of_lt (show _ ≤ 7 by omega) (by decide))
    (case cl34 => first | rfl | (rw [lc_true, List.map_map]; rfl) | exact lc_all (R := fun _ => rInt 0) (d := ([] : List Rg)) (xs := ((List.range 3).map (jB ns))) (f := fun l : List Rg => rLst X.K (List.map (rRg X.K) l)) | exact j_lc rfl | exact j_lc2 rfl)
    refine @go_nf _ _ _ _ _ _ [_, _, _, _, _, _, _, _, _, _, _, _, _, _, _, _] rfl ?go_32
    refine go_froz 9 rfl ?go_33
    refine @go_nf _ _ _ _ _ _ [_, _, _, _, _, _, _, _, _, _, _, _, _, _, _, _] rfl ?go_34
    refine go_if (dt_not (dt_val (CA.val (ca_call B (ok__law_meets T) (by decide) (jB ns 0, boxQ (jX ns) ((jM ns).drop 14), boxQ (jF ns) ((jM ns).drop 28), jS ns) ?c_m2_42 (da_cons (DL.froz (DL.to (l' := List.map (fun l => rLst X.K (List.map (rRg X.K) l)) ([jB ns 0, boxQ (jX ns) ((jM ns).drop 14), boxQ (jF ns) ((jM ns).drop 28)])) (dl_lst (da_cons (DL.froz (dl_list B T.b_list (de_ixM (R := (fun l => rLst X.K (List.map (rRg X.K) l))) (xs := ((List.range 3).map (jB ns))) [] ?xl35 ?xh36 (de_var B (i := 6) rfl rfl (.inl rfl)) de_int) rfl)) (da_cons (DL.froz (CA.lst (ca_call B (ok__law_box T) (by decide) (jX ns, (jM ns).drop 14) ?c_law_box_38 (da_cons (de_var B (i := 9) rfl rfl (.inl rfl)) (da_cons (DL.froz (dl_from (de_var B (i := 5) rfl rfl (.inr (.inl rfl))) ?sl37 de_int)) da_nil)) rfl))) (da_cons (DL.froz (CA.lst (ca_call B (ok__law_box T) (by decide) (jF ns, (jM ns).drop 28) ?c_law_box_40 (da_cons (de_var B (i := 7) rfl rfl (.inr (.inl rfl))) (da_cons (DL.froz (dl_from (de_var B (i := 5) rfl rfl (.inr (.inl rfl))) ?sl39 de_int)) da_nil)) rfl))) da_nil))) (show (3 : Nat) ≤ sizeLine by decide)) ?cl41)) da_nil) rfl)))) (fun hc => ?gt_35) (fun hc => ?gf_36)
    (case xl35 => first | omega | decide)
    (case xh36 => first | omega | (show (0 : Int) < ((3 : Nat) : Int); decide) | (show (1 : Int) < ((3 : Nat) : Int); decide) | exact jx_h lN (by decide) | exact jx_h lM (by decide) | (show _ < (((jN ns).length : Nat) : Int); rw [lN]; omega) | (show _ < (((jM ns).length : Nat) : Int); rw [lM]; omega) | (show _ < (((jP ns).length : Nat) : Int); rw [lP]; omega) | (show _ < (((jF ns).length : Nat) : Int); rw [lF]; omega))
    (case sl37 => first | omega | decide)
    (case c_law_box_38 => first | exact ⟨by omega, by rw [List.length_drop, lM, lP]; omega, g56_sz (jP_g ns) (by decide)⟩ | exact ⟨by rw [jX_len]; omega, by rw [List.length_drop, lM, jX_len]; omega, g56_sz (jX_g ns) (by decide)⟩ | exact ⟨by omega, by rw [List.length_drop, lM, lF]; omega, g56_sz (jF_g ns) (by decide)⟩)
    (case sl39 => first | omega | decide)
    (case c_law_box_40 => first | exact ⟨by omega, by rw [List.length_drop, lM, lP]; omega, g56_sz (jP_g ns) (by decide)⟩ | exact ⟨by rw [jX_len]; omega, by rw [List.length_drop, lM, jX_len]; omega, g56_sz (jX_g ns) (by decide)⟩ | exact ⟨by omega, by rw [List.length_drop, lM, lF]; omega, g56_sz (jF_g ns) (by decide)⟩)
    (case cl41 => first | rfl | (rw [lc_true, List.map_map]; rfl) | exact lc_all (R := fun _ => rInt 0) (d := ([] : List Rg)) (xs := ((List.range 3).map (jB ns))) (f := fun l : List Rg => rLst X.K (List.map (rRg X.K) l)) | exact j_lc rfl | exact j_lc2 rfl)
    (case c_m2_42 => exact jm_pre hS (jB_m ns 0) (bx_m (jX_len ns)) (bx_m lF) (jB_g ns 0) (box_g7 (jX_g ns)) (box_g7 (jF_g ns)))
    case gt_35 =>
      exfalso; revert hc; simp
    case gf_36 =>
      try (simp only [decide_eq_true_eq, decide_eq_false_iff_not, Bool.not_eq_true', Bool.not_eq_false', Bool.not_eq_true, Bool.not_eq_false] at hc)
      refine go_then ?go_37
      refine go_setLc (l' := List.map (rNum X.K) (jW ns)) B [("_law_k", 15)] (sr_range1 B T.b_range (de_var B (i := 2) rfl rfl (.inl rfl)) rfl ?r43 ?r44) (blkOk_by (by decide +kernel)) _ (fun _ => true) (fun i : Nat => rNum X.K (((((jN ns).getD (42 + (i : Int)).toNat 0).fmod 7 : Int) : Rat) / ((1 + ((((jN ns).getD (42 + (i : Int)).toNat 0)).fdiv 7).fmod 3 : Int) : Rat))) ?sz54 (by decide) (fun _ _ _ _ _ B i hi => (dg_name B (i := 15) rfl (.inl rfl))) (fun _ _ _ _ _ B i hi => dts_nil) (fun _ _ _ _ _ B i hi hb => (CA.val (ca_call B (ok__law_make T) (by decide) (_, _) ?c_law_make_53 (da_cons (de_mod ?z47 (de_toInt B T.b_int (de_ixM (R := rInt) (0 : Int) ?xl45 ?xh46 (de_var B (i := 1) rfl rfl (.inr (.inl rfl))) (de_add de_int (de_var B (i := 15) rfl rfl (.inl rfl)))) rfl) de_int) (da_cons (de_add de_int (de_mod ?z52 (de_divG ?z50 ?d51 (de_toInt B T.b_int (de_ixM (R := rInt) (0 : Int) ?xl48 ?xh49 (de_var B (i := 1) rfl rfl (.inr (.inl rfl))) (de_add de_int (de_var B (i := 15) rfl rfl (.inl rfl)))) rfl) de_int) de_int)) da_nil)) rfl))) (hl := ?cl55) (iy := 10) (hNy := rfl) (hyl := rfl) (h := ?go_38) (hsw := fun env h => by cases env; subst h; with_unfolding_all rfl)
      (case r43 => omega)
      (case r44 => omega)
      (case xl45 => first | omega | decide)
      (case xh46 => first | omega | (show (0 : Int) < ((3 : Nat) : Int); decide) | (show (1 : Int) < ((3 : Nat) : Int); decide) | exact jx_h lN (by decide) | exact jx_h lM (by decide) | (show _ < (((jN ns).length : Nat) : Int); rw [lN]; omega) | (show _ < (((jM ns).length : Nat) : Int); rw [lM]; omega) | (show _ < (((jP ns).length : Nat) : Int); rw [lP]; omega) | (show _ < (((jF ns).length : Nat) : Int); rw [lF]; omega))
      (case z47 => first | decide | omega)
      (case xl48 => first | omega | decide)
      (case xh49 => first | omega | (show (0 : Int) < ((3 : Nat) : Int); decide) | (show (1 : Int) < ((3 : Nat) : Int); decide) | exact jx_h lN (by decide) | exact jx_h lM (by decide) | (show _ < (((jN ns).length : Nat) : Int); rw [lN]; omega) | (show _ < (((jM ns).length : Nat) : Int); rw [lM]; omega) | (show _ < (((jP ns).length : Nat) : Int); rw [lP]; omega) | (show _ < (((jF ns).length : Nat) : Int); rw [lF]; omega))
      (case z50 => first | decide | omega)
      (case d51 => decide)
      (case z52 => first | decide | omega)
      (case c_law_make_53 => first | exact jm_w ns _ | exact jm_r ns _ | exact jm_d ns)
      (case sz54 => first | (show (3 : Nat) < sizeLine; decide) | exact Nat.lt_of_le_of_lt (show _ ≤ 7 by omega) (by decide))
      (case cl55 => first | rfl | (rw [lc_true, List.map_map]; rfl) | exact lc_all (R := fun _ => rInt 0) (d := ([] : List Rg)) (xs := ((List.range 3).map (jB ns))) (f := fun l : List Rg => rLst X.K (List.map (rRg X.K) l)) | exact j_lc rfl | exact j_lc2 rfl)
      refine @go_nf _ _ _ _ _ _ [_, _, _, _, _, _, _, _, _, _, _, _, _, _, _, _] rfl ?go_39
      refine go_froz 10 rfl ?go_40
      refine @go_nf _ _ _ _ _ _ [_, _, _, _, _, _, _, _, _, _, _, _, _, _, _, _] rfl ?go_41
      refine go_set B (i := 11) (CA.val (ca_call B (ok__law_make T) (by decide) (_, _) ?c_law_make_62 (da_cons (de_mod ?z58 (de_toInt B T.b_int (de_ixM (R := rInt) (0 : Int) ?xl56 ?xh57 (de_var B (i := 1) rfl rfl (.inr (.inl rfl))) de_int) rfl) de_int) (da_cons (de_add de_int (de_mod ?z61 (de_toInt B T.b_int (de_ixM (R := rInt) (0 : Int) ?xl59 ?xh60 (de_var B (i := 1) rfl rfl (.inr (.inl rfl))) de_int) rfl) de_int)) da_nil)) rfl)) rfl (.inl rfl) ?go_42
      (case xl56 => first | omega | decide)
      (case xh57 => first | omega | (show (0 : Int) < ((3 : Nat) : Int); decide) | (show (1 : Int) < ((3 : Nat) : Int); decide) | exact jx_h lN (by decide) | exact jx_h lM (by decide) | (show _ < (((jN ns).length : Nat) : Int); rw [lN]; omega) | (show _ < (((jM ns).length : Nat) : Int); rw [lM]; omega) | (show _ < (((jP ns).length : Nat) : Int); rw [lP]; omega) | (show _ < (((jF ns).length : Nat) : Int); rw [lF]; omega))
      (case z58 => first | decide | omega)
      (case xl59 => first | omega | decide)
      (case xh60 => first | omega | (show (0 : Int) < ((3 : Nat) : Int); decide) | (show (1 : Int) < ((3 : Nat) : Int); decide) | exact jx_h lN (by decide) | exact jx_h lM (by decide) | (show _ < (((jN ns).length : Nat) : Int); rw [lN]; omega) | (show _ < (((jM ns).length : Nat) : Int); rw [lM]; omega) | (show _ < (((jP ns).length : Nat) : Int); rw [lP]; omega) | (show _ < (((jF ns).length : Nat) : Int); rw [lF]; omega))
      (case z61 => first | decide | omega)
      (case c_law_make_62 => first | exact jm_w ns _ | exact jm_r ns _ | exact jm_d ns)
      refine @go_nf _ _ _ _ _ _ [_, _, _, _, _, _, _, _, _, _, _, _, _, _, _, _] rfl ?go_43
      refine go_setLc (l' := List.map (rNum X.K) (jR ns)) B [("_law_k", 15)] (sr_range1 B T.b_range (de_var B (i := 2) rfl rfl (.inl rfl)) rfl ?r63 ?r64) (blkOk_by (by decide +kernel)) _ (fun _ => true) (fun i : Nat => rNum X.K (((((jM ns).getD (43 + (i : Int)).toNat 0).fmod 9 - 4 : Int) : Rat) / ((1 + ((((jM ns).getD (43 + (i : Int)).toNat 0)).fdiv 9).fmod 3 : Int) : Rat))) ?sz74 (by decide) (fun _ _ _ _ _ B i hi => (dg_name B (i := 15) rfl (.inl rfl))) (fun _ _ _ _ _ B i hi => dts_nil) (fun _ _ _ _ _ B i hi hb => (CA.val (ca_call B (ok__law_make T) (by decide) (_, _) ?c_law_make_73 (da_cons (de_sub (de_mod ?z67 (de_toInt B T.b_int (de_ixM (R := rInt) (0 : Int) ?xl65 ?xh66 (de_var B (i := 5) rfl rfl (.inr (.inl rfl))) (de_add de_int (de_var B (i := 15) rfl rfl (.inl rfl)))) rfl) de_int) de_int) (da_cons (de_add de_int (de_mod ?z72 (de_divG ?z70 ?d71 (de_toInt B T.b_int (de_ixM (R := rInt) (0 : Int) ?xl68 ?xh69 (de_var B (i := 5) rfl rfl (.inr (.inl rfl))) (de_add de_int (de_var B (i := 15) rfl rfl (.inl rfl)))) rfl) de_int) de_int)) da_nil)) rfl))) (hl := ?cl75) (iy := 12) (hNy := rfl) (hyl := rfl) (h := ?go_44) (hsw := fun env h => by cases env; subst h; with_unfolding_all rfl)
      (case r63 => omega)
      (case r64 => omega)
      (case xl65 => first | omega | decide)
      (case xh66 => first | omega | (show (0 : Int) < ((3 : Nat) : Int); decide) | (show (1 : Int) < ((3 : Nat) : Int); decide) | exact jx_h lN (by decide) | exact jx_h lM (by decide) | (show _ < (((jN ns).length : Nat) : Int); rw [lN]; omega) | (show _ < (((jM ns).length : Nat) : Int); rw [lM]; omega) | (show _ < (((jP ns).length : Nat) : Int); rw [lP]; omega) | (show _ < (((jF ns).length : Nat) : Int); rw [lF]; omega))
      (case z67 => first | decide | omega)
      (case xl68 => first | omega | decide)
      (case xh69 => first | omega | (show (0 : Int) < ((3 : Nat) : Int); decide) | (show (1 : Int) < ((3 : Nat) : Int); decide) | exact jx_h lN (by decide) | exact jx_h lM (by decide) | (show _ < (((jN ns).length : Nat) : Int); rw [lN]; omega) | (show _ < (((jM ns).length : Nat) : Int); rw [lM]; omega) | (show _ < (((jP ns).length : Nat) : Int); rw [lP]; omega) | (show _ < (((jF ns).length : Nat) : Int); rw [lF]; omega))
      (case z70 => first | decide | omega)
      (case d71 => decide)
      (case z72 => first | decide | omega)
      (case c_law_make_73 => first | exact jm_w ns _ | exact jm_r ns _ | exact jm_d ns)
      (case sz74 => first | (show (3 : Nat) < sizeLine; decide) | exact Nat.lt_of_le_of_lt (show _ ≤ 7 by omega) (by decide))
      (case cl75 => first | rfl | (rw [lc_true, List.map_map]; rfl) | exact lc_all (R := fun _ => rInt 0) (d := ([] : List Rg)) (xs := ((List.range 3).map (jB ns))) (f := fun l : List Rg => rLst X.K (List.map (rRg X.K) l)) | exact j_lc rfl | exact j_lc2 rfl)
      refine @go_nf _ _ _ _ _ _ [_, _, _, _, _, _, _, _, _, _, _, _, _, _, _, _] rfl ?go_45
      refine go_froz 12 rfl ?go_46
      refine @go_nf _ _ _ _ _ _ [_, _, _, _, _, _, _, _, _, _, _, _, _, _, _, _] rfl ?go_47
      refine go_forS B (fun i => [(13, .any)]) (fun i => True) (sr_listM (R := (fun l => rLst X.K (List.map (rRg X.K) l))) [] (de_var B (i := 6) rfl rfl (.inl rfl))) _ (fun i hi => (dg_name B (i := 13) rfl (.inl rfl))) ?h0_48 ?j0_49 (fun F1 u i hi hj => ?gb_50) (fun hj => ?ge_51)
      (case h0_48 => refine .same ?_; refine .same ?_; refine .same ?_; refine .same ?_; refine .same ?_; refine .same ?_; refine .same ?_; refine .same ?_; refine .same ?_; refine .same ?_; refine .same ?_; refine .same ?_; refine .same ?_; refine .any ?_; refine .same ?_; refine .same ?_; exact .nil)
      (case j0_49 => trivial)
      case gb_50 =>
        refine @go_nf _ _ _ _ _ _ [_, _, _, _, _, _, _, _, _, _, _, _, _, _, _, _] rfl ?go_52
        refine go_if (DW.t (dw_or (dt_not (dt_val (CA.val (ca_call B (ok__law_worths T) (by decide) (jR ns, ((List.range 3).map (jB ns)).getD i [], jP ns, jW ns, jD ns) ?c_w1_76 (da_cons (DL.froz (dl_list B T.b_list (de_var B (i := 12) rfl rfl (.inl rfl)) rfl)) (da_cons (DL.froz (dl_list B T.b_list (de_var B (i := 13) rfl rfl (.inl rfl)) rfl)) (da_cons (DL.froz (dl_list B T.b_list (de_var B (i := 4) rfl rfl (.inr (.inl rfl))) rfl)) (da_cons (DL.froz (dl_list B T.b_list (de_var B (i := 10) rfl rfl (.inl rfl)) rfl)) (da_cons (de_var B (i := 11) rfl rfl (.inl rfl)) da_nil))))) rfl)))) (fun hb1 => (dw_or1 (dt_not (dt_val (CA.val (ca_call B (ok__law_out T) (by decide) (((List.range 3).map (jB ns)).getD i [], jP ns, (jM ns).drop 50) ?c_law_out_78 (da_cons (de_var B (i := 13) rfl rfl (.inl rfl)) (da_cons (de_var B (i := 4) rfl rfl (.inr (.inl rfl))) (da_cons (DL.froz (dl_from (de_var B (i := 5) rfl rfl (.inr (.inl rfl))) ?sl77 de_int)) da_nil))) rfl)))))))) (fun hc => ?gt_53) (fun hc => ?gf_54)
        (case c_w1_76 => rw [jB_at ns hi]; exact jLB ns i)
        (case sl77 => first | omega | decide)
        (case c_law_out_78 => rw [jB_at ns hi]; exact ⟨⟨by rw [jB_len]; omega, by rw [jB_len]; omega⟩, by rw [jB_len, lP], by rw [List.length_drop, lM]; omega, fun q hq => g7_mono (jP_g ns q hq), jB_g ns i, jB_in ns i⟩)
        case gt_53 =>
          exfalso; revert hc; simp
        case gf_54 =>
          try (simp only [decide_eq_true_eq, decide_eq_false_iff_not, Bool.not_eq_true', Bool.not_eq_false', Bool.not_eq_true, Bool.not_eq_false] at hc)
          refine go_then ?go_55
          refine go_turnS ?jn_56 ?ln_57
          (case jn_56 => trivial)
          (case ln_57 => refine .same ?_; refine .same ?_; refine .same ?_; refine .same ?_; refine .same ?_; refine .same ?_; refine .same ?_; refine .same ?_; refine .same ?_; refine .same ?_; refine .same ?_; refine .same ?_; refine .same ?_; refine .any ?_; refine .same ?_; refine .same ?_; exact .nil)
      case ge_51 =>
        refine @go_nf _ _ _ _ _ _ [_, _, _, _, _, _, _, _, _, _, _, _, _, _, _, _] rfl ?go_58
        refine go_setLc (l' := List.map (rNum X.K) (jZ ns)) B [("_law_k", 15)] (sr_range1 B T.b_range (de_var B (i := 2) rfl rfl (.inl rfl)) rfl ?r79 ?r80) (blkOk_by (by decide +kernel)) _ (fun _ => true) (fun i : Nat => rNum X.K ((0 : Int) : Rat)) ?sz81 (by decide) (fun _ _ _ _ _ B i hi => (dg_name B (i := 15) rfl (.inl rfl))) (fun _ _ _ _ _ B i hi => dts_nil) (fun _ _ _ _ _ B i hi hb => (de_i2n de_int)) (hl := ?cl82) (iy := 14) (hNy := rfl) (hyl := rfl) (h := ?go_59) (hsw := fun env h => by cases env; subst h; with_unfolding_all rfl)
        (case r79 => omega)
        (case r80 => omega)
        (case sz81 => first | (show (3 : Nat) < sizeLine; decide) | exact Nat.lt_of_le_of_lt (show _ ≤ 7 by omega) (by decide))
        (case cl82 => first | rfl | (rw [lc_true, List.map_map]; rfl) | exact lc_all (R := fun _ => rInt 0) (d := ([] : List Rg)) (xs := ((List.range 3).map (jB ns))) (f := fun l : List Rg => rLst X.K (List.map (rRg X.K) l)) | exact j_lc rfl | exact j_lc2 rfl)
        refine @go_nf _ _ _ _ _ _ [_, _, _, _, _, _, _, _, _, _, _, _, _, _, _, _] rfl ?go_60
        refine go_froz 14 rfl ?go_61
        refine @go_nf _ _ _ _ _ _ [_, _, _, _, _, _, _, _, _, _, _, _, _, _, _, _] rfl ?go_62
        refine go_if (dt_not (dt_val (CA.val (ca_call B (ok__law_worths T) (by decide) (jZ ns, jB ns 0, jP ns, jW ns, ((0 : Int) : Rat)) ?c_w2_85 (da_cons (de_var B (i := 14) rfl rfl (.inl rfl)) (da_cons (DL.froz (dl_list B T.b_list (de_ixM (R := (fun l => rLst X.K (List.map (rRg X.K) l))) (xs := ((List.range 3).map (jB ns))) [] ?xl83 ?xh84 (de_var B (i := 6) rfl rfl (.inl rfl)) de_int) rfl)) (da_cons (DL.froz (dl_list B T.b_list (de_var B (i := 4) rfl rfl (.inr (.inl rfl))) rfl)) (da_cons (DL.froz (dl_list B T.b_list (de_var B (i := 10) rfl rfl (.inl rfl)) rfl)) (da_cons (de_i2n de_int) da_nil))))) rfl)))) (fun hc => ?gt_63) (fun hc => ?gf_64)
        (case xl83 => first | omega | decide)
        (case xh84 => first | omega | (show (0 : Int) < ((3 : Nat) : Int); decide) | (show (1 : Int) < ((3 : Nat) : Int); decide) | exact jx_h lN (by decide) | exact jx_h lM (by decide) | (show _ < (((jN ns).length : Nat) : Int); rw [lN]; omega) | (show _ < (((jM ns).length : Nat) : Int); rw [lM]; omega) | (show _ < (((jP ns).length : Nat) : Int); rw [lP]; omega) | (show _ < (((jF ns).length : Nat) : Int); rw [lF]; omega))
        (case c_w2_85 => exact jLZ ns 0)
        case gt_63 =>
          exfalso; revert hc; simp
        case gf_64 =>
          try (simp only [decide_eq_true_eq, decide_eq_false_iff_not, Bool.not_eq_true', Bool.not_eq_false', Bool.not_eq_true, Bool.not_eq_false] at hc)
          refine go_then ?go_65
          refine go_ret R (CA.val (ca_call B (ok__law_refusals T) (by decide) (jB ns 1, jP ns, jW ns, (jM ns).drop 50) ?c_law_refusals_89 (da_cons (DL.hfz (dl_list B T.b_list (de_ixM (R := (fun l => rLst X.K (List.map (rRg X.K) l))) (xs := ((List.range 3).map (jB ns))) [] ?xl86 ?xh87 (de_var B (i := 6) rfl rfl (.inl rfl)) de_int) rfl)) (da_cons (de_var B (i := 4) rfl rfl (.inr (.inl rfl))) (da_cons (de_var B (i := 10) rfl rfl (.inl rfl)) (da_cons (DL.froz (dl_from (de_var B (i := 5) rfl rfl (.inr (.inl rfl))) ?sl88 de_int)) da_nil)))) rfl)) ?rs_66
          (case xl86 => first | omega | decide)
          (case xh87 => first | omega | (show (0 : Int) < ((3 : Nat) : Int); decide) | (show (1 : Int) < ((3 : Nat) : Int); decide) | exact jx_h lN (by decide) | exact jx_h lM (by decide) | (show _ < (((jN ns).length : Nat) : Int); rw [lN]; omega) | (show _ < (((jM ns).length : Nat) : Int); rw [lM]; omega) | (show _ < (((jP ns).length : Nat) : Int); rw [lP]; omega) | (show _ < (((jF ns).length : Nat) : Int); rw [lF]; omega))
          (case sl88 => first | omega | decide)
          (case c_law_refusals_89 => exact ⟨⟨by rw [jB_len]; omega, by rw [jB_len]; omega⟩, ⟨by rw [jB_len, lP], by rw [jB_len, jW_len], by rw [List.length_drop, lM]; omega⟩, fun q hq => g7_mono (jP_g ns q hq), jW_g ns, jW_p ns, jB_g ns 1, box_full⟩)
          (case rs_66 => exact Sub.rfl)
end K17

namespace K17
open PySem PySem.Spec PyProof.Rows L2 DL
theorem td_mk {K : PySem.W.Frag} {mg : Str → Option Value} {h : Heap} {x : Str} {st : Stmt} {f : Addr} {od an : Option Addr} {sl : Array (Option Value)} {oc kV dc pm cd ct : Value} (X : K.In h) (G : h.Ns mainGlobals mg)
    (a : PySem.W.nsIn K mainGlobals x = some (some (.ref f))) (l : K.lookup f = some ⟨oc, od, .func (PySem.W.fnOf x x (defArgs st) (defBody st) (defScope st) .none kV dc pm an cd ct), sl⟩) (c : PySem.W.codeIn K cd x = true) (k : PySem.W.keepIn K (.ref f) = true) : TD K mg x st :=
  ⟨f, _, fun_mk l c k, PySem.W.mg_of X G a⟩
theorem xcls_mk {K : PySem.W.Frag} {mg : Str → Option Value} {h : Heap} {x : Str} {C : Addr} (X : K.In h) (G : h.Ns mainGlobals mg) (g : PySem.W.nsIn K mainGlobals x = some (some (.ref C)))
    (e : PySem.W.excIn K C [.type "ValueError", .type "Exception", .type "BaseException", .type "object"] "ValueError.__new__" = true) (k : PySem.W.keepIn K (.ref C) = true) (b : PySem.W.subIn K (.ref C) (.type "BaseException") = some true)
    (t : PySem.W.typeIn K (.ref C) = some (.type "type")) (hd : PySem.W.hasDictIn K C = true) : XCls K mg x C := ⟨PySem.W.mg_of X G g, e, k, b, t, hd⟩
theorem int_mk {K : PySem.W.Frag} {mg : Str → Option Value} {h : Heap} {x : Str} {n : Int} {tk : Nat} (X : K.In h) (G : h.Ns mainGlobals mg) (g : PySem.W.nsIn K mainGlobals x = some (some (.int n tk))) : ∃ u, mg x = some u ∧ RelV (.int n) u := ⟨_, PySem.W.mg_of X G g, _, rfl⟩
abbrev i_EmptyRange : Stmt := inClass (topS 3) 0
theorem sci_EmptyRange : FnScope ["self", "cell"] ["self", "cell"] (defScope i_EmptyRange) := ⟨rfl, rfl, rfl, by decide +kernel, rfl, by decide +kernel, by decide +kernel⟩
theorem ini_EmptyRange {P : Program} {w : World} {K : PySem.W.Frag} {mg : Str → Option Value} {base : Heap} {f : Addr} {fd : FuncData} (F : Fun K "__init__" "EmptyRange.__init__" i_EmptyRange f fd) : FnOk P w K mg base CX0 1 f fd ["self", "cell"] (spIni K "cell") := by
  refine F.ok sci_EmptyRange (fun vs H Q E h => ?_) (fun cdv A outer s H vs Q E hr h => ?_)
  · obtain ⟨a, C, v, e, _⟩ := h
    rw [e]; rfl
  · obtain ⟨a, C, v, e, he, ho, hn, q⟩ := h
    subst e
    refine ⟨_, pss_one (ps_ost (pe_var (i := 0) rfl (.inl rfl)) (pe_var (i := 1) rfl (.inl rfl))), ?_⟩
    refine ⟨v, rfl, ?_⟩
    refine ⟨.ref a, rfl, a, C, rfl, ho, hn, .inl ⟨he, fun dx n ne => ?_⟩⟩
    exact q dx n ne
theorem xclsF_EmptyRange {K : PySem.W.Frag} {mg : Str → Option Value} {h : Heap} {C f : Addr} {nm q N bs bm sn sub ab col dd k0 k1 k2 k3 k5} {od an : Option Addr} {sl : Array (Option Value)} {oc kV dc pm cd ct : Value} (X : K.In h) (G : h.Ns mainGlobals mg)
    (g : PySem.W.nsIn K mainGlobals "EmptyRange" = some (some (.ref C))) (cl : K.lookup C = some (excClassObj nm q C N bs bm true sn sub ab col dd k0 k1 k2 k3 k5 "ValueError.__new__")) (rv : PySem.HandSPX.refsVE bm = true)
    (sa : PySem.W.findIn K (.ref C) "__setattr__" = some (some (.builtin "object.__setattr__"))) (ex : PySem.W.subIn K (.ref C) (.type "BaseException") = some true) (ty : PySem.W.typeIn K (.ref C) = some (.type "type")) (k : PySem.W.keepIn K (.ref C) = true)
    (no : PySem.W.findIn K (.ref C) "cell" = some none) (ga : PySem.W.findIn K (.ref C) "__getattribute__" = some (some (.builtin "BaseException.__getattribute__"))) (gg : PySem.W.findIn K (.ref C) "__getattr__" = some none) (hd : PySem.W.hasDictIn K C = true)
    (fi : PySem.W.findIn K (.ref C) "__init__" = some (some (.ref f))) (ft : PySem.W.typeIn K (.ref f) = some (.type "function"))
    (l : K.lookup f = some ⟨oc, od, .func (PySem.W.fnOf "__init__" "EmptyRange.__init__" (defArgs i_EmptyRange) (defBody i_EmptyRange) (defScope i_EmptyRange) .none kV dc pm an cd ct), sl⟩) (c : PySem.W.codeIn K cd "EmptyRange.__init__" = true) (kf : PySem.W.keepIn K (.ref f) = true) : XClsF K mg "EmptyRange" "cell" C :=
  ⟨PySem.W.mg_of X G g, ⟨⟨nm, q, N, bs, bm, sn, sub, ab, col, dd, k0, k1, k2, k3, k5, cl, rv⟩, sa, ex, ty, k⟩, no, ⟨ga, gg, ex, hd⟩, fun P w base => ⟨f, _, fi, ft, ini_EmptyRange (fun_mk l c kf), (fun_mk l c kf).binds (fun _ _ _ _ _ _ us hl => match us, hl with | [_, _], _ => rfl)⟩⟩
theorem txt_of {K : PySem.W.Frag} {mg : Str → Option Value} {C_BookError C_EmptyRange C_ZeroBottom C_BadSize C_BadWeight : Addr}
    (b_ValueError : mg "ValueError" = none)
    (b_abs : mg "abs" = none)
    (b_all : mg "all" = none)
    (b_bool : mg "bool" = none)
    (b_enumerate : mg "enumerate" = none)
    (b_int : mg "int" = none)
    (b_isinstance : mg "isinstance" = none)
    (b_len : mg "len" = none)
    (b_list : mg "list" = none)
    (b_range : mg "range" = none)
    (b_tuple : mg "tuple" = none)
    (b_zip : mg "zip" = none)
    (m_gcd : mg "gcd" = some (.builtin "math.gcd"))
    (x_BookError : XCls K mg "BookError" C_BookError)
    (x_EmptyRange : XClsF K mg "EmptyRange" "cell" C_EmptyRange)
    (x_ZeroBottom : XCls K mg "ZeroBottom" C_ZeroBottom)
    (x_BadSize : XCls K mg "BadSize" C_BadSize)
    (x_BadWeight : XCls K mg "BadWeight" C_BadWeight)
    (d_ratio : TD K mg "ratio" s_ratio)
    (d_is_whole : TD K mg "is_whole" s_is_whole)
    (d_top_of : TD K mg "top_of" s_top_of)
    (d_bottom_of : TD K mg "bottom_of" s_bottom_of)
    (d_plus : TD K mg "plus" s_plus)
    (d_minus : TD K mg "minus" s_minus)
    (d_times : TD K mg "times" s_times)
    (d_less : TD K mg "less" s_less)
    (d_floor_of : TD K mg "floor_of" s_floor_of)
    (d_ceiling_of : TD K mg "ceiling_of" s_ceiling_of)
    (d_least_of : TD K mg "least_of" s_least_of)
    (d_greatest_of : TD K mg "greatest_of" s_greatest_of)
    (d_is_empty : TD K mg "is_empty" s_is_empty)
    (d_lies_within : TD K mg "lies_within" s_lies_within)
    (d_check_full : TD K mg "check_full" s_check_full)
    (d_all_within : TD K mg "all_within" s_all_within)
    (d_tightest : TD K mg "tightest" s_tightest)
    (d_end_toward : TD K mg "end_toward" s_end_toward)
    (d_given : TD K mg "given" s_given)
    (d_around : TD K mg "around" s_around)
    (d_inside : TD K mg "inside" s_inside)
    (d_meet : TD K mg "meet" s_meet)
    (d_range_in_all : TD K mg "range_in_all" s_range_in_all)
    (d_widened : TD K mg "widened" s_widened)
    (d_greatest_worth : TD K mg "greatest_worth" s_greatest_worth)
    (d_worth_over : TD K mg "worth_over" s_worth_over)
    (d_check_lengths : TD K mg "check_lengths" s_check_lengths)
    (d_check_weights : TD K mg "check_weights" s_check_weights)
    (d_moved : TD K mg "moved" s_moved)
    (d__law_cell : TD K mg "_law_cell" s__law_cell)
    (d__law_numbers : TD K mg "_law_numbers" s__law_numbers)
    (d__law_gcd : TD K mg "_law_gcd" s__law_gcd)
    (d__law_make : TD K mg "_law_make" s__law_make)
    (d__law_top : TD K mg "_law_top" s__law_top)
    (d__law_bottom : TD K mg "_law_bottom" s__law_bottom)
    (d__law_is_int : TD K mg "_law_is_int" s__law_is_int)
    (d__law_is_number : TD K mg "_law_is_number" s__law_is_number)
    (d__law_plus : TD K mg "_law_plus" s__law_plus)
    (d__law_times : TD K mg "_law_times" s__law_times)
    (d__law_dot : TD K mg "_law_dot" s__law_dot)
    (d__law_less : TD K mg "_law_less" s__law_less)
    (d__law_floor : TD K mg "_law_floor" s__law_floor)
    (d__law_ceiling : TD K mg "_law_ceiling" s__law_ceiling)
    (d__law_point : TD K mg "_law_point" s__law_point)
    (d__law_end : TD K mg "_law_end" s__law_end)
    (d__law_box : TD K mg "_law_box" s__law_box)
    (d__law_within : TD K mg "_law_within" s__law_within)
    (d__law_is_box : TD K mg "_law_is_box" s__law_is_box)
    (d__law_joined : TD K mg "_law_joined" s__law_joined)
    (d__law_empty : TD K mg "_law_empty" s__law_empty)
    (d__law_kind : TD K mg "_law_kind" s__law_kind)
    (d__law_around : TD K mg "_law_around" s__law_around)
    (d__law_meets : TD K mg "_law_meets" s__law_meets)
    (d__law_wider : TD K mg "_law_wider" s__law_wider)
    (d__law_corner : TD K mg "_law_corner" s__law_corner)
    (d__law_worths : TD K mg "_law_worths" s__law_worths)
    (d__law_out : TD K mg "_law_out" s__law_out)
    (d__law_refusals : TD K mg "_law_refusals" s__law_refusals)
    (d_law : TD K mg "law" s_law)
    (e_BadSize : ExcC K C_BadSize)
    (s_BadSize_BookError : PySem.W.subIn K (.ref C_BadSize) (.ref C_BookError) = some true)
    (k_BadSize_BookError : PySem.W.kitOne K (.ref C_BadSize) (.ref C_BookError) = some true)
    (s_BadSize_EmptyRange : PySem.W.subIn K (.ref C_BadSize) (.ref C_EmptyRange) = some false)
    (k_BadSize_EmptyRange : PySem.W.kitOne K (.ref C_BadSize) (.ref C_EmptyRange) = some false)
    (s_BadSize_ZeroBottom : PySem.W.subIn K (.ref C_BadSize) (.ref C_ZeroBottom) = some false)
    (k_BadSize_ZeroBottom : PySem.W.kitOne K (.ref C_BadSize) (.ref C_ZeroBottom) = some false)
    (s_BadSize_BadSize : PySem.W.subIn K (.ref C_BadSize) (.ref C_BadSize) = some true)
    (k_BadSize_BadSize : PySem.W.kitOne K (.ref C_BadSize) (.ref C_BadSize) = some true)
    (s_BadSize_BadWeight : PySem.W.subIn K (.ref C_BadSize) (.ref C_BadWeight) = some false)
    (k_BadSize_BadWeight : PySem.W.kitOne K (.ref C_BadSize) (.ref C_BadWeight) = some false)
    (k_BadSize_ValueError : PySem.W.kitOne K (.ref C_BadSize) (.type "ValueError") = some true)
    (e_BadWeight : ExcC K C_BadWeight)
    (s_BadWeight_BookError : PySem.W.subIn K (.ref C_BadWeight) (.ref C_BookError) = some true)
    (k_BadWeight_BookError : PySem.W.kitOne K (.ref C_BadWeight) (.ref C_BookError) = some true)
    (s_BadWeight_EmptyRange : PySem.W.subIn K (.ref C_BadWeight) (.ref C_EmptyRange) = some false)
    (k_BadWeight_EmptyRange : PySem.W.kitOne K (.ref C_BadWeight) (.ref C_EmptyRange) = some false)
    (s_BadWeight_ZeroBottom : PySem.W.subIn K (.ref C_BadWeight) (.ref C_ZeroBottom) = some false)
    (k_BadWeight_ZeroBottom : PySem.W.kitOne K (.ref C_BadWeight) (.ref C_ZeroBottom) = some false)
    (s_BadWeight_BadSize : PySem.W.subIn K (.ref C_BadWeight) (.ref C_BadSize) = some false)
    (k_BadWeight_BadSize : PySem.W.kitOne K (.ref C_BadWeight) (.ref C_BadSize) = some false)
    (s_BadWeight_BadWeight : PySem.W.subIn K (.ref C_BadWeight) (.ref C_BadWeight) = some true)
    (k_BadWeight_BadWeight : PySem.W.kitOne K (.ref C_BadWeight) (.ref C_BadWeight) = some true)
    (k_BadWeight_ValueError : PySem.W.kitOne K (.ref C_BadWeight) (.type "ValueError") = some true)
    (e_EmptyRange : ExcC K C_EmptyRange)
    (s_EmptyRange_BookError : PySem.W.subIn K (.ref C_EmptyRange) (.ref C_BookError) = some true)
    (k_EmptyRange_BookError : PySem.W.kitOne K (.ref C_EmptyRange) (.ref C_BookError) = some true)
    (s_EmptyRange_EmptyRange : PySem.W.subIn K (.ref C_EmptyRange) (.ref C_EmptyRange) = some true)
    (k_EmptyRange_EmptyRange : PySem.W.kitOne K (.ref C_EmptyRange) (.ref C_EmptyRange) = some true)
    (s_EmptyRange_ZeroBottom : PySem.W.subIn K (.ref C_EmptyRange) (.ref C_ZeroBottom) = some false)
    (k_EmptyRange_ZeroBottom : PySem.W.kitOne K (.ref C_EmptyRange) (.ref C_ZeroBottom) = some false)
    (s_EmptyRange_BadSize : PySem.W.subIn K (.ref C_EmptyRange) (.ref C_BadSize) = some false)
    (k_EmptyRange_BadSize : PySem.W.kitOne K (.ref C_EmptyRange) (.ref C_BadSize) = some false)
    (s_EmptyRange_BadWeight : PySem.W.subIn K (.ref C_EmptyRange) (.ref C_BadWeight) = some false)
    (k_EmptyRange_BadWeight : PySem.W.kitOne K (.ref C_EmptyRange) (.ref C_BadWeight) = some false)
    (k_EmptyRange_ValueError : PySem.W.kitOne K (.ref C_EmptyRange) (.type "ValueError") = some true) : ∃ cs : Cs, Txt K mg cs :=
  ⟨⟨C_BookError, C_EmptyRange, C_ZeroBottom, C_BadSize, C_BadWeight⟩, { b_ValueError := b_ValueError, b_abs := b_abs, b_all := b_all, b_bool := b_bool, b_enumerate := b_enumerate, b_int := b_int, b_isinstance := b_isinstance, b_len := b_len, b_list := b_list, b_range := b_range, b_tuple := b_tuple, b_zip := b_zip, m_gcd := m_gcd, x_BookError := x_BookError, x_EmptyRange := x_EmptyRange, x_ZeroBottom := x_ZeroBottom, x_BadSize := x_BadSize, x_BadWeight := x_BadWeight, d_ratio := d_ratio, d_is_whole := d_is_whole, d_top_of := d_top_of, d_bottom_of := d_bottom_of, d_plus := d_plus, d_minus := d_minus, d_times := d_times, d_less := d_less, d_floor_of := d_floor_of, d_ceiling_of := d_ceiling_of, d_least_of := d_least_of, d_greatest_of := d_greatest_of, d_is_empty := d_is_empty, d_lies_within := d_lies_within, d_check_full := d_check_full, d_all_within := d_all_within, d_tightest := d_tightest, d_end_toward := d_end_toward, d_given := d_given, d_around := d_around, d_inside := d_inside, d_meet := d_meet, d_range_in_all := d_range_in_all, d_widened := d_widened, d_greatest_worth := d_greatest_worth, d_worth_over := d_worth_over, d_check_lengths := d_check_lengths, d_check_weights := d_check_weights, d_moved := d_moved, d__law_cell := d__law_cell, d__law_numbers := d__law_numbers, d__law_gcd := d__law_gcd, d__law_make := d__law_make, d__law_top := d__law_top, d__law_bottom := d__law_bottom, d__law_is_int := d__law_is_int, d__law_is_number := d__law_is_number, d__law_plus := d__law_plus, d__law_times := d__law_times, d__law_dot := d__law_dot, d__law_less := d__law_less, d__law_floor := d__law_floor, d__law_ceiling := d__law_ceiling, d__law_point := d__law_point, d__law_end := d__law_end, d__law_box := d__law_box, d__law_within := d__law_within, d__law_is_box := d__law_is_box, d__law_joined := d__law_joined, d__law_empty := d__law_empty, d__law_kind := d__law_kind, d__law_around := d__law_around, d__law_meets := d__law_meets, d__law_wider := d__law_wider, d__law_corner := d__law_corner, d__law_worths := d__law_worths, d__law_out := d__law_out, d__law_refusals := d__law_refusals, d_law := d_law, e_BadSize := e_BadSize, s_BadSize_BookError := s_BadSize_BookError, k_BadSize_BookError := k_BadSize_BookError, s_BadSize_EmptyRange := s_BadSize_EmptyRange, k_BadSize_EmptyRange := k_BadSize_EmptyRange, s_BadSize_ZeroBottom := s_BadSize_ZeroBottom, k_BadSize_ZeroBottom := k_BadSize_ZeroBottom, s_BadSize_BadSize := s_BadSize_BadSize, k_BadSize_BadSize := k_BadSize_BadSize, s_BadSize_BadWeight := s_BadSize_BadWeight, k_BadSize_BadWeight := k_BadSize_BadWeight, k_BadSize_ValueError := k_BadSize_ValueError, e_BadWeight := e_BadWeight, s_BadWeight_BookError := s_BadWeight_BookError, k_BadWeight_BookError := k_BadWeight_BookError, s_BadWeight_EmptyRange := s_BadWeight_EmptyRange, k_BadWeight_EmptyRange := k_BadWeight_EmptyRange, s_BadWeight_ZeroBottom := s_BadWeight_ZeroBottom, k_BadWeight_ZeroBottom := k_BadWeight_ZeroBottom, s_BadWeight_BadSize := s_BadWeight_BadSize, k_BadWeight_BadSize := k_BadWeight_BadSize, s_BadWeight_BadWeight := s_BadWeight_BadWeight, k_BadWeight_BadWeight := k_BadWeight_BadWeight, k_BadWeight_ValueError := k_BadWeight_ValueError, e_EmptyRange := e_EmptyRange, s_EmptyRange_BookError := s_EmptyRange_BookError, k_EmptyRange_BookError := k_EmptyRange_BookError, s_EmptyRange_EmptyRange := s_EmptyRange_EmptyRange, k_EmptyRange_EmptyRange := k_EmptyRange_EmptyRange, s_EmptyRange_ZeroBottom := s_EmptyRange_ZeroBottom, k_EmptyRange_ZeroBottom := k_EmptyRange_ZeroBottom, s_EmptyRange_BadSize := s_EmptyRange_BadSize, k_EmptyRange_BadSize := k_EmptyRange_BadSize, s_EmptyRange_BadWeight := s_EmptyRange_BadWeight, k_EmptyRange_BadWeight := k_EmptyRange_BadWeight, k_EmptyRange_ValueError := k_EmptyRange_ValueError }⟩
def spLaw (K : PySem.W.Frag) : Sp := Pm (ι := List Int) (fun ns => True) (fun ns => [rLst K (ns.map rInt)]) (fun ns => .val (rBl true))
theorem law_end {l : PySem.W.OpenLaw} {w : World} {K : PySem.W.Frag} {mg : Str → Option Value} {h : Heap} {fa : Addr} {cs : Cs} (hmg : mg "law" = some (.ref fa)) (T : Txt K mg cs) :
    ∃ fd : FuncData, (∀ (s : Shared) (u : Value), BindsTo s fd ⟨[u], []⟩ [("_law_script", u)]) ∧ ∀ base : Heap, K.In base → base.Ns mainGlobals mg → FnOk l.prog w K mg base (L2.CX l.prog w) 10 fa fd ["_law_script"] (spLaw K) := by
  obtain ⟨f, fd, F, hm⟩ := T.d_law.ex
  have e : f = fa := by rw [hm] at hmg; cases hmg; rfl
  subst e
  refine ⟨fd, fun s u => ?_, fun base hK hn => ?_⟩
  · obtain ⟨oc, od, kV, doc, pm, an, cdv, ct, osl, rfl, _, _⟩ := F.ex
    exact .of_eq rfl
  · exact ok_law (P := l.prog) (w := w) (base := base) T F
theorem walk {l : PySem.W.OpenLaw} {q : Program} {loose : List Str} {XP : (Str → Option Value) → Heap → Prop} {YP : World → Heap → Prop} {d : DefRec} {K : Params → PySem.W.Frag} (hn : l.most = some 63) (hdf : d.params.defaults = []) (hd : d.name = "law")
    (hY : ∀ (w : World) (h : Heap), YP w h → (K w.params).In h)
    (F : ∀ (w : World) (mg : Str → Option Value) (h : Heap), (K w.params).In h → h.Ns mainGlobals mg → ∃ cs : Cs, Txt (K w.params) mg cs) :
    PySem.W.WalkO q loose XP YP l.row.toRowW d [] (fun f vs => PySem.call f vs) :=
  L2.walk_of (n := 63) (k := 10) (x := "_law_script") (CX := fun w => L2.CX l.prog w) (sp := fun w => spLaw (K w.params)) hn (by decide) hdf ⟨rfl, by decide, by decide⟩ hY
    (fun w mg fa h KX G hmg => by
      obtain ⟨cs, T⟩ := F w mg h KX G
      exact law_end (h := h) (hd ▸ hmg) T)
    (fun _ H a ns hl _ hS => ⟨ns, H, trivial, fun _ _ z => z, .cons ⟨a, ns.map V.int, rfl, hS, rl_ints H ns⟩ .nil, fun v _ _ _ hv => hv⟩)
    (fun _ _ _ _ _ ⟨_, _, _, _, _, _, _, _, _, _, _, _, z⟩ => z)
end K17
open PySem PySem.W PyProof.Rows
set_option maxRecDepth 100000 in
set_option maxHeartbeats 0 in
theorem PySem.Challenge.cw_fineststep_k17_boxes_and_greatest_worths_holds : PySem.Challenge.rw_fineststep_k17_boxes_and_greatest_worths.Holds := by
  w_on; o_law; k_head; (case hw => w_witness2)
  k_fill
  refine K17.walk (l := PySem.Challenge.rw_fineststep_k17_boxes_and_greatest_worths) rfl rfl rfl (fun w h Y => PySem.W.kIn_of Y) ?F
  case F =>
    intro w mg h KX G
    refine' K17.txt_of (PySem.W.mg_none_of KX G ?zb_ValueError) (PySem.W.mg_none_of KX G ?zb_abs) (PySem.W.mg_none_of KX G ?zb_all) (PySem.W.mg_none_of KX G ?zb_bool) (PySem.W.mg_none_of KX G ?zb_enumerate) (PySem.W.mg_none_of KX G ?zb_int) (PySem.W.mg_none_of KX G ?zb_isinstance) (PySem.W.mg_none_of KX G ?zb_len) (PySem.W.mg_none_of KX G ?zb_list) (PySem.W.mg_none_of KX G ?zb_range) (PySem.W.mg_none_of KX G ?zb_tuple) (PySem.W.mg_none_of KX G ?zb_zip) (PySem.W.mg_of KX G ?zm_gcd) (K17.xcls_mk KX G ?xg_BookError ?xe_BookError ?xk_BookError ?xb_BookError ?xt_BookError ?xh_BookError) (K17.xclsF_EmptyRange KX G ?yg_EmptyRange ?yc_EmptyRange ?yv_EmptyRange ?ysa_EmptyRange ?yex_EmptyRange ?yty_EmptyRange ?yk_EmptyRange ?yno_EmptyRange ?yga_EmptyRange ?ygg_EmptyRange ?yhd_EmptyRange ?yfi_EmptyRange ?yft_EmptyRange ?yl_EmptyRange ?ycd_EmptyRange ?ykf_EmptyRange) (K17.xcls_mk KX G ?xg_ZeroBottom ?xe_ZeroBottom ?xk_ZeroBottom ?xb_ZeroBottom ?xt_ZeroBottom ?xh_ZeroBottom) (K17.xcls_mk KX G ?xg_BadSize ?xe_BadSize ?xk_BadSize ?xb_BadSize ?xt_BadSize ?xh_BadSize) (K17.xcls_mk KX G ?xg_BadWeight ?xe_BadWeight ?xk_BadWeight ?xb_BadWeight ?xt_BadWeight ?xh_BadWeight) (K17.td_mk KX G ?da_0 ?dl_0 ?dc_0 ?dk_0) (K17.td_mk KX G ?da_1 ?dl_1 ?dc_1 ?dk_1) (K17.td_mk KX G ?da_2 ?dl_2 ?dc_2 ?dk_2) (K17.td_mk KX G ?da_3 ?dl_3 ?dc_3 ?dk_3) (K17.td_mk KX G ?da_4 ?dl_4 ?dc_4 ?dk_4) (K17.td_mk KX G ?da_5 ?dl_5 ?dc_5 ?dk_5) (K17.td_mk KX G ?da_6 ?dl_6 ?dc_6 ?dk_6) (K17.td_mk KX G ?da_7 ?dl_7 ?dc_7 ?dk_7) (K17.td_mk KX G ?da_8 ?dl_8 ?dc_8 ?dk_8) (K17.td_mk KX G ?da_9 ?dl_9 ?dc_9 ?dk_9) (K17.td_mk KX G ?da_10 ?dl_10 ?dc_10 ?dk_10) (K17.td_mk KX G ?da_11 ?dl_11 ?dc_11 ?dk_11) (K17.td_mk KX G ?da_12 ?dl_12 ?dc_12 ?dk_12) (K17.td_mk KX G ?da_13 ?dl_13 ?dc_13 ?dk_13) (K17.td_mk KX G ?da_14 ?dl_14 ?dc_14 ?dk_14) (K17.td_mk KX G ?da_15 ?dl_15 ?dc_15 ?dk_15) (K17.td_mk KX G ?da_16 ?dl_16 ?dc_16 ?dk_16) (K17.td_mk KX G ?da_17 ?dl_17 ?dc_17 ?dk_17) (K17.td_mk KX G ?da_18 ?dl_18 ?dc_18 ?dk_18) (K17.td_mk KX G ?da_19 ?dl_19 ?dc_19 ?dk_19) (K17.td_mk KX G ?da_20 ?dl_20 ?dc_20 ?dk_20) (K17.td_mk KX G ?da_21 ?dl_21 ?dc_21 ?dk_21) (K17.td_mk KX G ?da_22 ?dl_22 ?dc_22 ?dk_22) (K17.td_mk KX G ?da_23 ?dl_23 ?dc_23 ?dk_23) (K17.td_mk KX G ?da_24 ?dl_24 ?dc_24 ?dk_24) (K17.td_mk KX G ?da_25 ?dl_25 ?dc_25 ?dk_25) (K17.td_mk KX G ?da_26 ?dl_26 ?dc_26 ?dk_26) (K17.td_mk KX G ?da_27 ?dl_27 ?dc_27 ?dk_27) (K17.td_mk KX G ?da_28 ?dl_28 ?dc_28 ?dk_28) (K17.td_mk KX G ?da_29 ?dl_29 ?dc_29 ?dk_29) (K17.td_mk KX G ?da_30 ?dl_30 ?dc_30 ?dk_30) (K17.td_mk KX G ?da_31 ?dl_31 ?dc_31 ?dk_31) (K17.td_mk KX G ?da_32 ?dl_32 ?dc_32 ?dk_32) (K17.td_mk KX G ?da_33 ?dl_33 ?dc_33 ?dk_33) (K17.td_mk KX G ?da_34 ?dl_34 ?dc_34 ?dk_34) (K17.td_mk KX G ?da_35 ?dl_35 ?dc_35 ?dk_35) (K17.td_mk KX G ?da_36 ?dl_36 ?dc_36 ?dk_36) (K17.td_mk KX G ?da_37 ?dl_37 ?dc_37 ?dk_37) (K17.td_mk KX G ?da_38 ?dl_38 ?dc_38 ?dk_38) (K17.td_mk KX G ?da_39 ?dl_39 ?dc_39 ?dk_39) (K17.td_mk KX G ?da_40 ?dl_40 ?dc_40 ?dk_40) (K17.td_mk KX G ?da_41 ?dl_41 ?dc_41 ?dk_41) (K17.td_mk KX G ?da_42 ?dl_42 ?dc_42 ?dk_42) (K17.td_mk KX G ?da_43 ?dl_43 ?dc_43 ?dk_43) (K17.td_mk KX G ?da_44 ?dl_44 ?dc_44 ?dk_44) (K17.td_mk KX G ?da_45 ?dl_45 ?dc_45 ?dk_45) (K17.td_mk KX G ?da_46 ?dl_46 ?dc_46 ?dk_46) (K17.td_mk KX G ?da_47 ?dl_47 ?dc_47 ?dk_47) (K17.td_mk KX G ?da_48 ?dl_48 ?dc_48 ?dk_48) (K17.td_mk KX G ?da_49 ?dl_49 ?dc_49 ?dk_49) (K17.td_mk KX G ?da_50 ?dl_50 ?dc_50 ?dk_50) (K17.td_mk KX G ?da_51 ?dl_51 ?dc_51 ?dk_51) (K17.td_mk KX G ?da_52 ?dl_52 ?dc_52 ?dk_52) (K17.td_mk KX G ?da_53 ?dl_53 ?dc_53 ?dk_53) (K17.td_mk KX G ?da_54 ?dl_54 ?dc_54 ?dk_54) (K17.td_mk KX G ?da_55 ?dl_55 ?dc_55 ?dk_55) (K17.td_mk KX G ?da_56 ?dl_56 ?dc_56 ?dk_56) (K17.td_mk KX G ?da_57 ?dl_57 ?dc_57 ?dk_57) (K17.td_mk KX G ?da_58 ?dl_58 ?dc_58 ?dk_58) ⟨?e0_BadSize, ?e1_BadSize, ?e2_BadSize, ?e3_BadSize, ?e4_BadSize, ?e5_BadSize, ?e6_BadSize, ?e7_BadSize⟩ ?s_BadSize_BookError ?k_BadSize_BookError ?s_BadSize_EmptyRange ?k_BadSize_EmptyRange ?s_BadSize_ZeroBottom ?k_BadSize_ZeroBottom ?s_BadSize_BadSize ?k_BadSize_BadSize ?s_BadSize_BadWeight ?k_BadSize_BadWeight ?k_BadSize_VE ⟨?e0_BadWeight, ?e1_BadWeight, ?e2_BadWeight, ?e3_BadWeight, ?e4_BadWeight, ?e5_BadWeight, ?e6_BadWeight, ?e7_BadWeight⟩ ?s_BadWeight_BookError ?k_BadWeight_BookError ?s_BadWeight_EmptyRange ?k_BadWeight_EmptyRange ?s_BadWeight_ZeroBottom ?k_BadWeight_ZeroBottom ?s_BadWeight_BadSize ?k_BadWeight_BadSize ?s_BadWeight_BadWeight ?k_BadWeight_BadWeight ?k_BadWeight_VE ⟨?e0_EmptyRange, ?e1_EmptyRange, ?e2_EmptyRange, ?e3_EmptyRange, ?e4_EmptyRange, ?e5_EmptyRange, ?e6_EmptyRange, ?e7_EmptyRange⟩ ?s_EmptyRange_BookError ?k_EmptyRange_BookError ?s_EmptyRange_EmptyRange ?k_EmptyRange_EmptyRange ?s_EmptyRange_ZeroBottom ?k_EmptyRange_ZeroBottom ?s_EmptyRange_BadSize ?k_EmptyRange_BadSize ?s_EmptyRange_BadWeight ?k_EmptyRange_BadWeight ?k_EmptyRange_VE
    (case zb_ValueError => k_is)
    (case zb_abs => k_is)
    (case zb_all => k_is)
    (case zb_bool => k_is)
    (case zb_enumerate => k_is)
    (case zb_int => k_is)
    (case zb_isinstance => k_is)
    (case zb_len => k_is)
    (case zb_list => k_is)
    (case zb_range => k_is)
    (case zb_tuple => k_is)
    (case zb_zip => k_is)
    (case zm_gcd => k_is)
    (case xg_BookError => k_is)
    (case xe_BookError => k_exc)
    (case xk_BookError => k_is)
    (case xb_BookError => k_is)
    (case xt_BookError => k_is)
    (case xh_BookError => k_is)
    (case yg_EmptyRange => first | k_is | rfl | decide +kernel)
    (case yc_EmptyRange => first | k_is | rfl | decide +kernel)
    (case yv_EmptyRange => first | k_is | rfl | decide +kernel)
    (case ysa_EmptyRange => first | k_is | rfl | decide +kernel)
    (case yex_EmptyRange => first | k_is | rfl | decide +kernel)
    (case yty_EmptyRange => first | k_is | rfl | decide +kernel)
    (case yk_EmptyRange => first | k_is | rfl | decide +kernel)
    (case yno_EmptyRange => first | k_is | rfl | decide +kernel)
    (case yga_EmptyRange => first | k_is | rfl | decide +kernel)
    (case ygg_EmptyRange => first | k_is | rfl | decide +kernel)
    (case yhd_EmptyRange => first | k_is | rfl | decide +kernel)
    (case yfi_EmptyRange => first | k_is | rfl | decide +kernel)
    (case yft_EmptyRange => first | k_is | rfl | decide +kernel)
    (case yl_EmptyRange => first | k_is | rfl | decide +kernel)
    (case ycd_EmptyRange => first | k_is | rfl | decide +kernel)
    (case ykf_EmptyRange => first | k_is | rfl | decide +kernel)
    (case xg_ZeroBottom => k_is)
    (case xe_ZeroBottom => k_exc)
    (case xk_ZeroBottom => k_is)
    (case xb_ZeroBottom => k_is)
    (case xt_ZeroBottom => k_is)
    (case xh_ZeroBottom => k_is)
    (case xg_BadSize => k_is)
    (case xe_BadSize => k_exc)
    (case xk_BadSize => k_is)
    (case xb_BadSize => k_is)
    (case xt_BadSize => k_is)
    (case xh_BadSize => k_is)
    (case xg_BadWeight => k_is)
    (case xe_BadWeight => k_exc)
    (case xk_BadWeight => k_is)
    (case xb_BadWeight => k_is)
    (case xt_BadWeight => k_is)
    (case xh_BadWeight => k_is)
    (case da_0 => k_is)
    (case dl_0 => k_is)
    (case dc_0 => k_is)
    (case dk_0 => k_is)
    (case da_1 => k_is)
    (case dl_1 => k_is)
    (case dc_1 => k_is)
    (case dk_1 => k_is)
    (case da_2 => k_is)
    (case dl_2 => k_is)
    (case dc_2 => k_is)
    (case dk_2 => k_is)
    (case da_3 => k_is)
    (case dl_3 => k_is)
    (case dc_3 => k_is)
    (case dk_3 => k_is)
    (case da_4 => k_is)
    (case dl_4 => k_is)
    (case dc_4 => k_is)
    (case dk_4 => k_is)
    (case da_5 => k_is)
    (case dl_5 => k_is)
    (case dc_5 => k_is)
    (case dk_5 => k_is)
    (case da_6 => k_is)
    (case dl_6 => k_is)
    (case dc_6 => k_is)
    (case dk_6 => k_is)
    (case da_7 => k_is)
    (case dl_7 => k_is)
    (case dc_7 => k_is)
    (case dk_7 => k_is)
    (case da_8 => k_is)
    (case dl_8 => k_is)
    (case dc_8 => k_is)
    (case dk_8 => k_is)
    (case da_9 => k_is)
    (case dl_9 => k_is)
    (case dc_9 => k_is)
    (case dk_9 => k_is)
    (case da_10 => k_is)
    (case dl_10 => k_is)
    (case dc_10 => k_is)
    (case dk_10 => k_is)
    (case da_11 => k_is)
    (case dl_11 => k_is)
    (case dc_11 => k_is)
    (case dk_11 => k_is)
    (case da_12 => k_is)
    (case dl_12 => k_is)
    (case dc_12 => k_is)
    (case dk_12 => k_is)
    (case da_13 => k_is)
    (case dl_13 => k_is)
    (case dc_13 => k_is)
    (case dk_13 => k_is)
    (case da_14 => k_is)
    (case dl_14 => k_is)
    (case dc_14 => k_is)
    (case dk_14 => k_is)
    (case da_15 => k_is)
    (case dl_15 => k_is)
    (case dc_15 => k_is)
    (case dk_15 => k_is)
    (case da_16 => k_is)
    (case dl_16 => k_is)
    (case dc_16 => k_is)
    (case dk_16 => k_is)
    (case da_17 => k_is)
    (case dl_17 => k_is)
    (case dc_17 => k_is)
    (case dk_17 => k_is)
    (case da_18 => k_is)
    (case dl_18 => k_is)
    (case dc_18 => k_is)
    (case dk_18 => k_is)
    (case da_19 => k_is)
    (case dl_19 => k_is)
    (case dc_19 => k_is)
    (case dk_19 => k_is)
    (case da_20 => k_is)
    (case dl_20 => k_is)
    (case dc_20 => k_is)
    (case dk_20 => k_is)
    (case da_21 => k_is)
    (case dl_21 => k_is)
    (case dc_21 => k_is)
    (case dk_21 => k_is)
    (case da_22 => k_is)
    (case dl_22 => k_is)
    (case dc_22 => k_is)
    (case dk_22 => k_is)
    (case da_23 => k_is)
    (case dl_23 => k_is)
    (case dc_23 => k_is)
    (case dk_23 => k_is)
    (case da_24 => k_is)
    (case dl_24 => k_is)
    (case dc_24 => k_is)
    (case dk_24 => k_is)
    (case da_25 => k_is)
    (case dl_25 => k_is)
    (case dc_25 => k_is)
    (case dk_25 => k_is)
    (case da_26 => k_is)
    (case dl_26 => k_is)
    (case dc_26 => k_is)
    (case dk_26 => k_is)
    (case da_27 => k_is)
    (case dl_27 => k_is)
    (case dc_27 => k_is)
    (case dk_27 => k_is)
    (case da_28 => k_is)
    (case dl_28 => k_is)
    (case dc_28 => k_is)
    (case dk_28 => k_is)
    (case da_29 => k_is)
    (case dl_29 => k_is)
    (case dc_29 => k_is)
    (case dk_29 => k_is)
    (case da_30 => k_is)
    (case dl_30 => k_is)
    (case dc_30 => k_is)
    (case dk_30 => k_is)
    (case da_31 => k_is)
    (case dl_31 => k_is)
    (case dc_31 => k_is)
    (case dk_31 => k_is)
    (case da_32 => k_is)
    (case dl_32 => k_is)
    (case dc_32 => k_is)
    (case dk_32 => k_is)
    (case da_33 => k_is)
    (case dl_33 => k_is)
    (case dc_33 => k_is)
    (case dk_33 => k_is)
    (case da_34 => k_is)
    (case dl_34 => k_is)
    (case dc_34 => k_is)
    (case dk_34 => k_is)
    (case da_35 => k_is)
    (case dl_35 => k_is)
    (case dc_35 => k_is)
    (case dk_35 => k_is)
    (case da_36 => k_is)
    (case dl_36 => k_is)
    (case dc_36 => k_is)
    (case dk_36 => k_is)
    (case da_37 => k_is)
    (case dl_37 => k_is)
    (case dc_37 => k_is)
    (case dk_37 => k_is)
    (case da_38 => k_is)
    (case dl_38 => k_is)
    (case dc_38 => k_is)
    (case dk_38 => k_is)
    (case da_39 => k_is)
    (case dl_39 => k_is)
    (case dc_39 => k_is)
    (case dk_39 => k_is)
    (case da_40 => k_is)
    (case dl_40 => k_is)
    (case dc_40 => k_is)
    (case dk_40 => k_is)
    (case da_41 => k_is)
    (case dl_41 => k_is)
    (case dc_41 => k_is)
    (case dk_41 => k_is)
    (case da_42 => k_is)
    (case dl_42 => k_is)
    (case dc_42 => k_is)
    (case dk_42 => k_is)
    (case da_43 => k_is)
    (case dl_43 => k_is)
    (case dc_43 => k_is)
    (case dk_43 => k_is)
    (case da_44 => k_is)
    (case dl_44 => k_is)
    (case dc_44 => k_is)
    (case dk_44 => k_is)
    (case da_45 => k_is)
    (case dl_45 => k_is)
    (case dc_45 => k_is)
    (case dk_45 => k_is)
    (case da_46 => k_is)
    (case dl_46 => k_is)
    (case dc_46 => k_is)
    (case dk_46 => k_is)
    (case da_47 => k_is)
    (case dl_47 => k_is)
    (case dc_47 => k_is)
    (case dk_47 => k_is)
    (case da_48 => k_is)
    (case dl_48 => k_is)
    (case dc_48 => k_is)
    (case dk_48 => k_is)
    (case da_49 => k_is)
    (case dl_49 => k_is)
    (case dc_49 => k_is)
    (case dk_49 => k_is)
    (case da_50 => k_is)
    (case dl_50 => k_is)
    (case dc_50 => k_is)
    (case dk_50 => k_is)
    (case da_51 => k_is)
    (case dl_51 => k_is)
    (case dc_51 => k_is)
    (case dk_51 => k_is)
    (case da_52 => k_is)
    (case dl_52 => k_is)
    (case dc_52 => k_is)
    (case dk_52 => k_is)
    (case da_53 => k_is)
    (case dl_53 => k_is)
    (case dc_53 => k_is)
    (case dk_53 => k_is)
    (case da_54 => k_is)
    (case dl_54 => k_is)
    (case dc_54 => k_is)
    (case dk_54 => k_is)
    (case da_55 => k_is)
    (case dl_55 => k_is)
    (case dc_55 => k_is)
    (case dk_55 => k_is)
    (case da_56 => k_is)
    (case dl_56 => k_is)
    (case dc_56 => k_is)
    (case dk_56 => k_is)
    (case da_57 => k_is)
    (case dl_57 => k_is)
    (case dc_57 => k_is)
    (case dk_57 => k_is)
    (case da_58 => k_is)
    (case dl_58 => k_is)
    (case dc_58 => k_is)
    (case dk_58 => k_is)
    (case e0_BadSize => k_is)
    (case e1_BadSize => k_is)
    (case e2_BadSize => k_is)
    (case e3_BadSize => k_is)
    (case e4_BadSize => k_is)
    (case e5_BadSize => k_is)
    (case e6_BadSize => k_is)
    (case e7_BadSize => k_is)
    (case s_BadSize_BookError => first | rfl | k_is)
    (case k_BadSize_BookError => first | k_is | rfl)
    (case s_BadSize_EmptyRange => first | rfl | k_is)
    (case k_BadSize_EmptyRange => first | k_is | rfl)
    (case s_BadSize_ZeroBottom => first | rfl | k_is)
    (case k_BadSize_ZeroBottom => first | k_is | rfl)
    (case s_BadSize_BadSize => first | rfl | k_is)
    (case k_BadSize_BadSize => first | k_is | rfl)
    (case s_BadSize_BadWeight => first | rfl | k_is)
    (case k_BadSize_BadWeight => first | k_is | rfl)
    (case k_BadSize_VE => first | k_is | rfl)
    (case e0_BadWeight => k_is)
    (case e1_BadWeight => k_is)
    (case e2_BadWeight => k_is)
    (case e3_BadWeight => k_is)
    (case e4_BadWeight => k_is)
    (case e5_BadWeight => k_is)
    (case e6_BadWeight => k_is)
    (case e7_BadWeight => k_is)
    (case s_BadWeight_BookError => first | rfl | k_is)
    (case k_BadWeight_BookError => first | k_is | rfl)
    (case s_BadWeight_EmptyRange => first | rfl | k_is)
    (case k_BadWeight_EmptyRange => first | k_is | rfl)
    (case s_BadWeight_ZeroBottom => first | rfl | k_is)
    (case k_BadWeight_ZeroBottom => first | k_is | rfl)
    (case s_BadWeight_BadSize => first | rfl | k_is)
    (case k_BadWeight_BadSize => first | k_is | rfl)
    (case s_BadWeight_BadWeight => first | rfl | k_is)
    (case k_BadWeight_BadWeight => first | k_is | rfl)
    (case k_BadWeight_VE => first | k_is | rfl)
    (case e0_EmptyRange => k_is)
    (case e1_EmptyRange => k_is)
    (case e2_EmptyRange => k_is)
    (case e3_EmptyRange => k_is)
    (case e4_EmptyRange => k_is)
    (case e5_EmptyRange => k_is)
    (case e6_EmptyRange => k_is)
    (case e7_EmptyRange => k_is)
    (case s_EmptyRange_BookError => first | rfl | k_is)
    (case k_EmptyRange_BookError => first | k_is | rfl)
    (case s_EmptyRange_EmptyRange => first | rfl | k_is)
    (case k_EmptyRange_EmptyRange => first | k_is | rfl)
    (case s_EmptyRange_ZeroBottom => first | rfl | k_is)
    (case k_EmptyRange_ZeroBottom => first | k_is | rfl)
    (case s_EmptyRange_BadSize => first | rfl | k_is)
    (case k_EmptyRange_BadSize => first | k_is | rfl)
    (case s_EmptyRange_BadWeight => first | rfl | k_is)
    (case k_EmptyRange_BadWeight => first | k_is | rfl)
    (case k_EmptyRange_VE => first | k_is | rfl)
