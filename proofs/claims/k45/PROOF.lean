import PyProof.Rows.All
import Wide.All
import OpenK.AllK
import Wide.FinOn
import HandS.ForMost
import HandS.ForExc
import HandS.Gcd
import HandS.Wide
import HandS.WideMore
import HandS.IsInst
import HandS.ExcIs
import HandS.Style
import HandS.Zip
import HandS.FStr
import HandS.Flow
import HandS.Deep
import HandS.List
import HandS.ExcInit
import HandS.ExcField
import HandS.Star
import HandS.SetFor
import HandS.Strs
import HandS.ClsMeth
import HandS.CallLocal
import HandS.Flt
import HandS.Conv
import KE.GoesMore
import KE.GoesEnum
import PySem.Challenge.RW_fineststep_k45_greatest_chance
import Open.SpecLaws
set_option Elab.async false
set_option linter.all false
set_option maxRecDepth 100000
set_option maxHeartbeats 4000000
set_option Elab.async false
set_option linter.all false
set_option maxRecDepth 100000
set_option maxHeartbeats 4000000
/-! A layer of data: what an expression is worth, a def at a time, over the hand layer. -/
namespace DL
open PySem PySem.Spec PyProof.Rows L2

/-! ### what a value is worth, by a heap that only grows -/
structure Rep where
  P : Hp → V → Prop
  mono : ∀ {F F' : Hp} {v : V}, Same F F' → P F v → P F' v
def RL (F : Hp) (l : List Rep) (vs : List V) : Prop := Paired (fun (r : Rep) v => r.P F v) l vs
theorem RL.mono {F F' : Hp} (s : Same F F') : ∀ {l : List Rep} {vs : List V}, RL F l vs → RL F' l vs
  | _, _, .nil => .nil
  | _, _, .cons h t => .cons (Rep.mono _ s h) (RL.mono s t)
theorem RL.len {F : Hp} {l : List Rep} {vs : List V} (h : RL F l vs) : l.length = vs.length := Paired.length h
theorem RL.get {F : Hp} : ∀ {l : List Rep} {vs : List V} {i : Nat} {r : Rep}, RL F l vs → l[i]? = some r → ∃ v, vs[i]? = some v ∧ r.P F v
  | _, _, _, _, .nil, e => by simp at e
  | _, _, 0, _, .cons h _, e => by simp at e; subst e; exact ⟨_, rfl, h⟩
  | _, _, i + 1, r, .cons _ t, e => by
    obtain ⟨v, h1, h2⟩ := RL.get (i := i) (r := r) t (by simpa using e)
    exact ⟨v, by simpa using h1, h2⟩
theorem RL.got {F : Hp} : ∀ {l : List Rep} {vs : List V} {i : Nat} {v : V}, RL F l vs → vs[i]? = some v → ∃ r, l[i]? = some r ∧ r.P F v
  | _, _, _, _, .nil, e => by simp at e
  | _, _, 0, _, .cons h _, e => by simp at e; subst e; exact ⟨_, rfl, h⟩
  | _, _, i + 1, v, .cons _ t, e => by
    obtain ⟨r, h1, h2⟩ := RL.got (i := i) (v := v) t (by simpa using e)
    exact ⟨r, by simpa using h1, h2⟩
theorem RL.app {F : Hp} : ∀ {l m : List Rep} {vs ws : List V}, RL F l vs → RL F m ws → RL F (l ++ m) (vs ++ ws)
  | _, _, _, _, .nil, s => s
  | _, _, _, _, .cons h t, s => .cons h (RL.app t s)
theorem RL.take {F : Hp} : ∀ {l : List Rep} {vs : List V} (n : Nat), RL F l vs → RL F (l.take n) (vs.take n)
  | _, _, 0, _ => .nil
  | _, _, _ + 1, .nil => .nil
  | _, _, n + 1, .cons h t => .cons h (RL.take n t)
theorem RL.drop {F : Hp} : ∀ {l : List Rep} {vs : List V} (n : Nat), RL F l vs → RL F (l.drop n) (vs.drop n)
  | _, _, 0, r => r
  | _, _, _ + 1, .nil => .nil
  | _, _, n + 1, .cons _ t => RL.drop n t
theorem RL.set {F : Hp} {r : Rep} {v : V} (h : r.P F v) : ∀ {l : List Rep} {vs : List V} (i : Nat), RL F l vs → RL F (l.set i r) (vs.set i v)
  | _, _, _, .nil => .nil
  | _, _, 0, .cons _ t => .cons h t
  | _, _, i + 1, .cons q t => .cons q (RL.set h i t)
theorem RL.snoc {F : Hp} {l : List Rep} {vs : List V} {r : Rep} {v : V} (h : RL F l vs) (q : r.P F v) : RL F (l ++ [r]) (vs ++ [v]) := h.app (.cons q .nil)

def rC (v : V) : Rep := ⟨fun _ x => x = v, fun _ h => h⟩
abbrev rInt (i : Int) : Rep := rC (.int i)
abbrev rBl (b : Bool) : Rep := rC (.bl b)
abbrev rStr (s : Str) : Rep := rC (.str s)
abbrev rNon : Rep := rC .non
theorem sqt_mono {K : PySem.W.Frag} {H H' : Hp} {a : Addr} {xs : List V} (e : Same H H') (h : SqT K H a xs) : SqT K H' a xs := by
  rcases h with (h | ⟨o, h⟩) | h
  · exact .inl (.inl (e _ _ h))
  · exact .inl (.inr ⟨o, e _ _ h⟩)
  · exact .inr h
def rTup (K : PySem.W.Frag) (l : List Rep) : Rep := ⟨fun F x => ∃ a vs, x = .ref a ∧ SqT K F a vs ∧ RL F l vs, fun s ⟨a, vs, e, h, q⟩ => ⟨a, vs, e, sqt_mono s h, q.mono s⟩⟩
def rLst (K : PySem.W.Frag) (l : List Rep) : Rep := ⟨fun F x => ∃ a vs, x = .ref a ∧ SqL K F a vs ∧ RL F l vs, fun s ⟨a, vs, e, h, q⟩ => ⟨a, vs, e, s.seq h, q.mono s⟩⟩
/-- a number: a whole one, or a pair in lowest terms -/
def rNum (K : PySem.W.Frag) (q : Rat) : Rep := if q.den = 1 then rInt q.num else rTup K [rInt q.num, rInt (q.den : Int)]
/-- one is worth what the other is worth -/
def Sub (r r' : Rep) : Prop := ∀ F v, r.P F v → r'.P F v
theorem Sub.rfl {r : Rep} : Sub r r := fun _ _ h => h
theorem Sub.of {r r' : Rep} (e : r = r') : Sub r r' := e ▸ Sub.rfl
theorem Sub.trans {a b c : Rep} (h : Sub a b) (k : Sub b c) : Sub a c := fun F v q => k F v (h F v q)

/-! ### growth: F the part that stands still, H the heap -/
structure Gr (F H F' H' : Hp) : Prop where
  f : Same F F'
  h : Same H H'
  s : Same F' H'
  n : ∀ a, H a ≠ none → F a = none → F' a = none
theorem Gr.refl {F H : Hp} (s : Same F H) : Gr F H F H := ⟨Same.refl _, Same.refl _, s, fun _ _ h => h⟩
theorem Gr.trans {F H F1 H1 F2 H2 : Hp} (a : Gr F H F1 H1) (b : Gr F1 H1 F2 H2) : Gr F H F2 H2 :=
  ⟨a.f.trans b.f, a.h.trans b.h, b.s, fun x h e => b.n x (fun z => h (a.h.free z)) (a.n x h e)⟩
theorem same_new {H : Hp} {p : Addr} {o : HO} (h : H p = none) : Same H (upd H p o) := fun b x e => by
  rw [upd_ne (ne_of_none e h)]
  exact e
theorem same_upd2 {F H : Hp} {p : Addr} {o : HO} (s : Same F H) : Same (upd F p o) (upd H p o) := fun b x e => by
  by_cases hb : b = p
  · subst hb
    rw [upd_same] at e ⊢
    exact e
  · rw [upd_ne hb] at e ⊢
    exact s _ _ e
theorem same_out {F H : Hp} {p : Addr} {o : HO} (s : Same F H) (h : F p = none) : Same F (upd H p o) := fun b x e => by
  rw [upd_ne (ne_of_none e h)]
  exact s _ _ e
/-- a new thing that stands still -/
theorem Gr.new {F H : Hp} {p : Addr} {o : HO} (s : Same F H) (h : H p = none) : Gr F H (upd F p o) (upd H p o) :=
  ⟨same_new (s.free h), same_new h, same_upd2 s, fun a ha e => by
    have hp : a ≠ p := fun z => ha (z ▸ h)
    rw [upd_ne hp]
    exact e⟩
/-- a new thing of one's own -/
theorem Gr.newOwn {F H : Hp} {p : Addr} {o : HO} (s : Same F H) (h : H p = none) : Gr F H F (upd H p o) :=
  ⟨Same.refl _, same_new h, same_out s (s.free h), fun _ _ e => e⟩

/-! ### what the slots hold -/
inductive Sl where
  | any
  | im (r : Rep)
  | ow (l : List Rep)
def Sl.ok (F H : Hp) : Sl → Option V → Prop
  | .any, _ => True
  | .im r, x => ∃ v, x = some v ∧ r.P F v
  | .ow l, x => ∃ p vs, x = some (.ref p) ∧ F p = none ∧ H p = some (.lst vs) ∧ RL F l vs
structure En (F0 H0 F H : Hp) (σ : L2.St) (Γ : List Sl) : Prop where
  gr : Gr F0 H0 F H
  len : Γ.length = σ.length
  ok : ∀ (i : Nat) (s : Sl) (x : Option V), Γ[i]? = some s → σ[i]? = some x → s.ok F H x
  own : ∀ (i : Nat) (p : Addr) (l : List Rep), Γ[i]? = some (.ow l) → σ[i]? = some (some (.ref p)) → H0 p = none
  sep : ∀ (i j : Nat) (p : Addr) (l l' : List Rep), Γ[i]? = some (.ow l) → Γ[j]? = some (.ow l') → σ[i]? = some (some (.ref p)) → σ[j]? = some (some (.ref p)) → i = j
section
variable {F0 H0 F H F' H' : Hp} {σ : L2.St} {Γ : List Sl} {i : Nat} {r : Rep} {l : List Rep} {v : V} {vs : List V} {p : Addr}
theorem En.at (e : En F0 H0 F H σ Γ) {s : Sl} (h : Γ[i]? = some s) : ∃ x, σ[i]? = some x ∧ s.ok F H x := by
  have hi : i < Γ.length := (List.getElem?_eq_some_iff.mp h).1
  have hj : i < σ.length := e.len ▸ hi
  exact ⟨σ[i], List.getElem?_eq_getElem hj, e.ok i s _ h (List.getElem?_eq_getElem hj)⟩
theorem En.im (e : En F0 H0 F H σ Γ) (h : Γ[i]? = some (.im r)) : ∃ v, σ[i]? = some (some v) ∧ r.P F v := by
  obtain ⟨x, h1, v, h2, h3⟩ := e.at h
  exact ⟨v, h2 ▸ h1, h3⟩
theorem En.ow (e : En F0 H0 F H σ Γ) (h : Γ[i]? = some (.ow l)) : ∃ p vs, σ[i]? = some (some (.ref p)) ∧ F p = none ∧ H p = some (.lst vs) ∧ RL F l vs ∧ H0 p = none := by
  obtain ⟨x, h1, p, vs, h2, h3, h4, h5⟩ := e.at h
  subst h2
  exact ⟨p, vs, h1, h3, h4, h5, e.own i p l h h1⟩
theorem En.grow (e : En F0 H0 F H σ Γ) (g : Gr F H F' H') : En F0 H0 F' H' σ Γ where
  gr := e.gr.trans g
  len := e.len
  ok i s x h1 h2 := by
    have q := e.ok i s x h1 h2
    cases s with
    | any => trivial
    | im r =>
      obtain ⟨v, a, b⟩ := q
      exact ⟨v, a, r.mono g.f b⟩
    | ow l =>
      obtain ⟨p, vs, a, b, c, d⟩ := q
      exact ⟨p, vs, a, g.n p (by rw [c]; exact fun z => nomatch z) b, g.h _ _ c, d.mono g.f⟩
  own := e.own
  sep := e.sep
theorem get_set {α : Type} {l : List α} {i j : Nat} {x y : α} (h : (l.set i x)[j]? = some y) : (i = j ∧ y = x) ∨ (i ≠ j ∧ l[j]? = some y) := by
  by_cases hi : i = j
  · subst hi
    have hl : i < l.length := by
      have := (List.getElem?_eq_some_iff.mp h).1
      simpa using this
    rw [List.getElem?_set_self hl] at h
    exact .inl ⟨rfl, (Option.some.inj h).symm⟩
  · rw [List.getElem?_set_ne hi] at h
    exact .inr ⟨hi, h⟩
theorem En.setIm (e : En F0 H0 F H σ Γ) (h : r.P F v) : En F0 H0 F H (σ.set i (some v)) (Γ.set i (.im r)) where
  gr := e.gr
  len := by simpa using e.len
  ok j s x h1 h2 := by
    rcases get_set h1 with ⟨rfl, rfl⟩ | ⟨n, h1⟩
    · rcases get_set h2 with ⟨_, rfl⟩ | ⟨n, _⟩
      · exact ⟨v, rfl, h⟩
      · exact absurd rfl n
    · rcases get_set h2 with ⟨z, _⟩ | ⟨_, h2⟩
      · exact absurd z n
      · exact e.ok j s x h1 h2
  own j p l h1 h2 := by
    rcases get_set h1 with ⟨_, z⟩ | ⟨n, h1⟩
    · cases z
    · rcases get_set h2 with ⟨z, _⟩ | ⟨_, h2⟩
      · exact absurd z n
      · exact e.own j p l h1 h2
  sep j k p l l' h1 h1' h2 h2' := by
    rcases get_set h1 with ⟨_, z⟩ | ⟨n, h1⟩
    · cases z
    rcases get_set h1' with ⟨_, z⟩ | ⟨n', h1'⟩
    · cases z
    rw [List.getElem?_set_ne n] at h2
    rw [List.getElem?_set_ne n'] at h2'
    exact e.sep j k p l l' h1 h1' h2 h2'
theorem En.setAny (e : En F0 H0 F H σ Γ) (x : Option V) : En F0 H0 F H (σ.set i x) (Γ.set i .any) where
  gr := e.gr
  len := by simpa using e.len
  ok j s y h1 h2 := by
    rcases get_set h1 with ⟨rfl, rfl⟩ | ⟨n, h1⟩
    · trivial
    · rcases get_set h2 with ⟨z, _⟩ | ⟨_, h2⟩
      · exact absurd z n
      · exact e.ok j s y h1 h2
  own j p l h1 h2 := by
    rcases get_set h1 with ⟨_, z⟩ | ⟨n, h1⟩
    · cases z
    · rcases get_set h2 with ⟨z, _⟩ | ⟨_, h2⟩
      · exact absurd z n
      · exact e.own j p l h1 h2
  sep j k p l l' h1 h1' h2 h2' := by
    rcases get_set h1 with ⟨_, z⟩ | ⟨n, h1⟩
    · cases z
    rcases get_set h1' with ⟨_, z⟩ | ⟨n', h1'⟩
    · cases z
    rw [List.getElem?_set_ne n] at h2
    rw [List.getElem?_set_ne n'] at h2'
    exact e.sep j k p l l' h1 h1' h2 h2'
/-- a list of one's own, that no slot holds -/
theorem En.setOw (e : En F0 H0 F H σ Γ) (hF : F p = none) (hH : H p = some (.lst vs)) (hr : RL F l vs) (h0 : H0 p = none) (hn : ∀ (j : Nat) (l' : List Rep), Γ[j]? = some (.ow l') → σ[j]? ≠ some (some (.ref p))) :
    En F0 H0 F H (σ.set i (some (.ref p))) (Γ.set i (.ow l)) where
  gr := e.gr
  len := by simpa using e.len
  ok j s x h1 h2 := by
    rcases get_set h1 with ⟨rfl, rfl⟩ | ⟨n, h1⟩
    · rcases get_set h2 with ⟨_, rfl⟩ | ⟨n, _⟩
      · exact ⟨p, vs, rfl, hF, hH, hr⟩
      · exact absurd rfl n
    · rcases get_set h2 with ⟨z, _⟩ | ⟨_, h2⟩
      · exact absurd z n
      · exact e.ok j s x h1 h2
  own j q l h1 h2 := by
    rcases get_set h2 with ⟨rfl, z⟩ | ⟨n, h2⟩
    · cases z
      exact h0
    · rcases get_set h1 with ⟨z, _⟩ | ⟨_, h1⟩
      · exact absurd z n
      · exact e.own j q l h1 h2
  sep j k q l1 l2 h1 h1' h2 h2' := by
    rcases get_set h2 with ⟨rfl, z⟩ | ⟨n, h2⟩
    · cases z
      rcases get_set h2' with ⟨rfl, _⟩ | ⟨n', h2'⟩
      · rfl
      · rcases get_set h1' with ⟨z, _⟩ | ⟨_, h1'⟩
        · exact z
        · exact absurd h2' (hn k l2 h1')
    · rcases get_set h1 with ⟨z, _⟩ | ⟨_, h1⟩
      · exact absurd z n
      rcases get_set h2' with ⟨rfl, z⟩ | ⟨n', h2'⟩
      · cases z
        exact absurd h2 (hn j l1 h1)
      · rcases get_set h1' with ⟨z, _⟩ | ⟨_, h1'⟩
        · exact absurd z n'
        · exact e.sep j k q l1 l2 h1 h1' h2 h2'
/-- a list of one's own is written anew -/
theorem En.put (e : En F0 H0 F H σ Γ) (h : Γ[i]? = some (.ow l)) (hs : σ[i]? = some (some (.ref p))) {l' : List Rep} {ws : List V} (hr : RL F l' ws) : En F0 H0 F (upd H p (.lst ws)) σ (Γ.set i (.ow l')) := by
  obtain ⟨p', vs', h1, h2, h3, h4, h5⟩ := e.ow h
  rw [hs] at h1
  cases h1
  exact {
    gr := ⟨e.gr.f, fun b o z => by rw [upd_ne (ne_of_none z h5)]; exact e.gr.h b o z, same_out e.gr.s h2, e.gr.n⟩
    len := by simpa using e.len
    ok := fun j s x k1 k2 => by
      rcases get_set k1 with ⟨rfl, rfl⟩ | ⟨n, k1⟩
      · rw [hs] at k2
        cases k2
        exact ⟨p, ws, rfl, h2, upd_same, hr⟩
      · have q := e.ok j s x k1 k2
        cases s with
        | any => trivial
        | im r => exact q
        | ow m =>
          obtain ⟨p2, ws2, a, b, c, d⟩ := q
          subst a
          refine ⟨p2, ws2, rfl, b, ?_, d⟩
          have hp : p2 ≠ p := fun z => n (e.sep i j p l m h k1 hs (z ▸ k2))
          rw [upd_ne hp]
          exact c
    own := fun j q m k1 k2 => by
      rcases get_set k1 with ⟨rfl, _⟩ | ⟨n, k1⟩
      · rw [hs] at k2
        cases k2
        exact h5
      · exact e.own j q m k1 k2
    sep := fun j k q m m' k1 k1' k2 k2' => by
      have g : ∀ {j : Nat} {m : List Rep}, (Γ.set i (.ow l'))[j]? = some (.ow m) → ∃ m1, Γ[j]? = some (.ow m1) := fun {j m} k1 => by
        rcases get_set k1 with ⟨rfl, _⟩ | ⟨n, k1⟩
        · exact ⟨l, h⟩
        · exact ⟨m, k1⟩
      obtain ⟨m1, k1⟩ := g k1
      obtain ⟨m2, k1'⟩ := g k1'
      exact e.sep j k q m1 m2 k1 k1' k2 k2' }
/-- a list of one's own stands still from now on -/
theorem En.freeze {K : PySem.W.Frag} (e : En F0 H0 F H σ Γ) (h : Γ[i]? = some (.ow l)) : ∃ F', Same F F' ∧ Same F' H ∧ En F0 H0 F' H σ (Γ.set i (.im (rLst K l))) := by
  obtain ⟨p, vs, h1, h2, h3, h4, h5⟩ := e.ow h
  have s1 : Same F (upd F p (.lst vs)) := same_new h2
  have s2 : Same (upd F p (.lst vs)) H := fun b o z => by
    by_cases hb : b = p
    · subst hb
      rw [upd_same] at z
      rw [h3, ← z]
    · rw [upd_ne hb] at z
      exact e.gr.s b o z
  have nn : ∀ {j : Nat} {q : Addr} {m : List Rep}, j ≠ i → Γ[j]? = some (.ow m) → σ[j]? = some (some (.ref q)) → q ≠ p := fun {j q m} hj k1 k2 z => hj (e.sep j i p m l k1 h (z ▸ k2) h1)
  refine ⟨upd F p (.lst vs), s1, s2, ?_⟩
  exact {
    gr := ⟨e.gr.f.trans s1, e.gr.h, s2, fun a ha z => by
      have hp : a ≠ p := fun y => ha (y ▸ h5)
      rw [upd_ne hp]
      exact e.gr.n a ha z⟩
    len := by simpa using e.len
    ok := fun j s x k1 k2 => by
      rcases get_set k1 with ⟨rfl, rfl⟩ | ⟨n, k1⟩
      · rw [h1] at k2
        cases k2
        exact ⟨.ref p, rfl, p, vs, rfl, SqL.of upd_same, h4.mono s1⟩
      · have q := e.ok j s x k1 k2
        cases s with
        | any => trivial
        | im r =>
          obtain ⟨v, a, b⟩ := q
          exact ⟨v, a, r.mono s1 b⟩
        | ow m =>
          obtain ⟨p2, ws2, a, b, c, d⟩ := q
          subst a
          refine ⟨p2, ws2, rfl, ?_, c, d.mono s1⟩
          rw [upd_ne (nn (Ne.symm n) k1 k2)]
          exact b
    own := fun j q m k1 k2 => by
      rcases get_set k1 with ⟨_, z⟩ | ⟨n, k1⟩
      · cases z
      · exact e.own j q m k1 k2
    sep := fun j k q m m' k1 k1' k2 k2' => by
      rcases get_set k1 with ⟨_, z⟩ | ⟨n, k1⟩
      · cases z
      rcases get_set k1' with ⟨_, z⟩ | ⟨n', k1'⟩
      · cases z
      exact e.sep j k q m m' k1 k1' k2 k2' }
end
/-! ### slots of which less is known -/
inductive SlLe : List Sl → List Sl → Prop
  | nil : SlLe [] []
  | any {s : Sl} {Γ Γ' : List Sl} : SlLe Γ Γ' → SlLe (s :: Γ) (.any :: Γ')
  | same {s : Sl} {Γ Γ' : List Sl} : SlLe Γ Γ' → SlLe (s :: Γ) (s :: Γ')
  | im {r r' : Rep} {Γ Γ' : List Sl} (h : Sub r r') : SlLe Γ Γ' → SlLe (.im r :: Γ) (.im r' :: Γ')
  | ow {l l' : List Rep} {Γ Γ' : List Sl} (h : l = l') : SlLe Γ Γ' → SlLe (.ow l :: Γ) (.ow l' :: Γ')
theorem SlLe.len : ∀ {Γ Γ' : List Sl}, SlLe Γ Γ' → Γ.length = Γ'.length
  | _, _, .nil => rfl
  | _, _, .any h => congrArg (· + 1) h.len
  | _, _, .same h => congrArg (· + 1) h.len
  | _, _, .im _ h => congrArg (· + 1) h.len
  | _, _, .ow _ h => congrArg (· + 1) h.len
theorem SlLe.rfl : ∀ {Γ : List Sl}, SlLe Γ Γ
  | [] => .nil
  | _ :: _ => .same SlLe.rfl
theorem SlLe.at : ∀ {Γ Γ' : List Sl}, SlLe Γ Γ' → ∀ {i : Nat} {s' : Sl}, Γ'[i]? = some s' → ∃ s, Γ[i]? = some s ∧ (s = s' ∨ s' = .any ∨ (∃ r r', s = .im r ∧ s' = .im r' ∧ Sub r r'))
  | _, _, .nil, i, s', h => by simp at h
  | _, _, .any h, 0, s', e => by simp at e; subst e; exact ⟨_, _root_.rfl, .inr (.inl _root_.rfl)⟩
  | _, _, .same h, 0, s', e => by simp at e; subst e; exact ⟨_, _root_.rfl, .inl _root_.rfl⟩
  | _, _, .im k h, 0, s', e => by simp at e; subst e; exact ⟨_, _root_.rfl, .inr (.inr ⟨_, _, _root_.rfl, _root_.rfl, k⟩)⟩
  | _, _, .ow k h, 0, s', e => by simp at e; subst e; exact ⟨_, _root_.rfl, .inl (by rw [k])⟩
  | _, _, .any h, i + 1, s', e => by simpa using h.at (i := i) (by simpa using e)
  | _, _, .same h, i + 1, s', e => by simpa using h.at (i := i) (by simpa using e)
  | _, _, .im k h, i + 1, s', e => by simpa using h.at (i := i) (by simpa using e)
  | _, _, .ow k h, i + 1, s', e => by simpa using h.at (i := i) (by simpa using e)
theorem En.le {F0 H0 F H : Hp} {σ : L2.St} {Γ Γ' : List Sl} (e : En F0 H0 F H σ Γ) (h : SlLe Γ Γ') : En F0 H0 F H σ Γ' where
  gr := e.gr
  len := by rw [← h.len]; exact e.len
  ok i s' x h1 h2 := by
    obtain ⟨s, k1, k2⟩ := h.at h1
    have q := e.ok i s x k1 h2
    rcases k2 with rfl | rfl | ⟨r, r', rfl, rfl, hs⟩
    · exact q
    · trivial
    · obtain ⟨v, a, b⟩ := q
      exact ⟨v, a, hs F v b⟩
  own i p l h1 h2 := by
    obtain ⟨s, k1, k2⟩ := h.at h1
    rcases k2 with rfl | z | ⟨r, r', rfl, z, hs⟩
    · exact e.own i p l k1 h2
    · cases z
    · cases z
  sep i j p l l' h1 h1' h2 h2' := by
    obtain ⟨s, k1, k2⟩ := h.at h1
    obtain ⟨s', k1', k2'⟩ := h.at h1'
    rcases k2 with rfl | z | ⟨r, r', rfl, z, hs⟩
    · rcases k2' with rfl | z | ⟨r, r', rfl, z, hs⟩
      · exact e.sep i j p l l' k1 k1' h2 h2'
      · cases z
      · cases z
    · cases z
    · cases z
end DL

set_option Elab.async false
set_option linter.all false
set_option maxRecDepth 100000
set_option maxHeartbeats 4000000
namespace DL
open PySem PySem.Spec PyProof.Rows L2

/-! ### what is asked of an expression, a test, an argument list, a block -/
def EV (X : Cx) (e : Expr) (σ : L2.St) (H : Hp) (Q : VK) : Prop := ∀ (pins : List (Addr × Obj)) (s : Shared), Inv X pins σ H s → wpAny (model X.prog X.w) X.A (eval e X.env) (EP X pins σ Q) X.xe s
def TV (X : Cx) (e : Expr) (σ : L2.St) (H : Hp) (Q : Bool → Hp → Prop) : Prop := ∀ (pins : List (Addr × Obj)) (s : Shared), Inv X pins σ H s → wpAny (model X.prog X.w) X.A (isTrue e X.env (eval e X.env)) (TP X pins σ Q) X.xe s
def WV (X : Cx) (e : Expr) (σ : L2.St) (H : Hp) (Q : Bool → Hp → Prop) : Prop := ∀ (whole : Sem Value) (pins : List (Addr × Obj)) (s : Shared), Inv X pins σ H s → wpAny (model X.prog X.w) X.A (isTrue e X.env whole) (TP X pins σ Q) X.xe s
def AV (X : Cx) (es : List Expr) (σ : L2.St) (H : Hp) (Q : List V → Hp → Prop) : Prop := ∀ (pos : Pos) (pins : List (Addr × Obj)) (s : Shared), Inv X pins σ H s → wpAny (model X.prog X.w) X.A (spliced (backTo pos (starEach es X.env))) (AP X pins σ Q) X.xe s
def XS (X : Cx) (st : List Stmt) (D : Ends) (σ : L2.St) (H : Hp) : Prop := ∀ (pins : List (Addr × Obj)) (s : Shared), Inv X pins σ H s → wpAny (model X.prog X.w) X.A (execs st X.env) (SP X pins D) X.xe s
section
variable {X : Cx} {e : Expr} {es : List Expr} {st : List Stmt} {σ : L2.St} {H : Hp}
theorem pe_ev : PE X e (EV X e) := ⟨fun pins s σ H Q I h => h pins s I⟩
theorem pt_ev : PT X e (TV X e) := ⟨fun pins s σ H Q I h => h pins s I⟩
theorem pw_ev : PW X e (WV X e) := ⟨fun whole pins s σ H Q I h => h whole pins s I⟩
theorem pa_ev : PA X es (AV X es) := ⟨fun pos pins s σ H Q I h => h pos pins s I⟩
theorem pss_ev : PSs X st (XS X st) := ⟨fun pins s σ H D I h => h pins s I⟩
theorem EV.of {te : TE} {Q : VK} (h : PE X e te) (q : te σ H Q) : EV X e σ H Q := fun pins s I => h.run pins s σ H Q I q
theorem TV.of {te : TT} {Q : Bool → Hp → Prop} (h : PT X e te) (q : te σ H Q) : TV X e σ H Q := fun pins s I => h.run pins s σ H Q I q
theorem WV.of {te : TT} {Q : Bool → Hp → Prop} (h : PW X e te) (q : te σ H Q) : WV X e σ H Q := fun whole pins s I => h.run whole pins s σ H Q I q
theorem AV.of {te : TA} {Q : List V → Hp → Prop} (h : PA X es te) (q : te σ H Q) : AV X es σ H Q := fun pos pins s I => h.run pos pins s σ H Q I q
theorem XS.of {te : TS} {D : Ends} (h : PSs X st te) (q : te D σ H) : XS X st D σ H := fun pins s I => h.run pins s σ H D I q
end

/-- where a def's body runs: its names, its scope, the room -/
structure BX (X : Cx) (N : List Str) (sc : Scope) (k : Nat) : Prop where
  hN : X.N = N
  hsc : X.env.scope = sc
  nd : N.Nodup
  room : Room k X.A
  calm : X.calm = true
  own : PassesOwn (model X.prog X.w) X.A X.env X.xe

/-- the values -/
def DE (X : Cx) (Γ : List Sl) (e : Expr) (r : Rep) : Prop := ∀ F0 H0 F H σ, En F0 H0 F H σ Γ → ∀ Q : VK, (∀ v F' H', Gr F H F' H' → r.P F' v → Q v H') → EV X e σ H Q
def DA (X : Cx) (Γ : List Sl) (es : List Expr) (rs : List Rep) : Prop := ∀ F0 H0 F H σ, En F0 H0 F H σ Γ → ∀ Q : List V → Hp → Prop, (∀ vs F' H', Gr F H F' H' → RL F' rs vs → Q vs H') → AV X es σ H Q
/-- a new list of one's own -/
def DL (X : Cx) (Γ : List Sl) (e : Expr) (l : List Rep) : Prop := ∀ F0 H0 F H σ, En F0 H0 F H σ Γ → ∀ Q : VK, (∀ p vs F' H', Gr F H F' H' → H p = none → F' p = none → H' p = some (.lst vs) → RL F' l vs → Q (.ref p) H') → EV X e σ H Q
def DT (X : Cx) (Γ : List Sl) (e : Expr) (b : Bool) : Prop := ∀ F0 H0 F H σ, En F0 H0 F H σ Γ → ∀ Q : Bool → Hp → Prop, (∀ F' H', Gr F H F' H' → Q b H') → TV X e σ H Q
def DW (X : Cx) (Γ : List Sl) (e : Expr) (b : Bool) : Prop := ∀ F0 H0 F H σ, En F0 H0 F H σ Γ → ∀ Q : Bool → Hp → Prop, (∀ F' H', Gr F H F' H' → Q b H') → WV X e σ H Q

section
variable {X : Cx} {N : List Str} {sc : Scope} {k : Nat} {Γ : List Sl} {a b c e : Expr} {es rest : List Expr} {r ra rb rc r' : Rep} {rs l : List Rep} {pos p : Pos} {x : Str}
theorem DE.sub (h : DE X Γ e r) (s : Sub r r') : DE X Γ e r' := fun F0 H0 F H σ en Q q => h F0 H0 F H σ en Q fun v F' H' g hv => q v F' H' g (s F' v hv)
theorem DE.to (h : DE X Γ e r) (s : r = r') : DE X Γ e r' := s ▸ h
theorem DT.to {b b' : Bool} (h : DT X Γ e b) (s : b = b') : DT X Γ e b' := s ▸ h
theorem DL.to {l l' : List Rep} (h : DL X Γ e l) (s : l = l') : DL X Γ e l' := s ▸ h
theorem DL.froz (h : DL X Γ e l) : DE X Γ e (rLst X.K l) := fun F0 H0 F H σ en Q q => h F0 H0 F H σ en Q fun p vs F' H' g h1 h2 h3 h4 =>
  q (.ref p) (upd F' p (.lst vs)) H' ⟨g.f.trans (same_new h2), g.h, fun b o z => by
    by_cases hb : b = p
    · subst hb
      rw [upd_same] at z
      rw [h3, ← z]
    · rw [upd_ne hb] at z
      exact g.s b o z, fun a ha z => by
    have hp : a ≠ p := fun y => ha (y ▸ h1)
    rw [upd_ne hp]
    exact g.n a ha z⟩ ⟨p, vs, rfl, SqL.of upd_same, h4.mono (same_new h2)⟩
theorem de_var (B : BX X N sc k) {i : Nat} (hΓ : Γ[i]? = some (.im r)) (hN : N[i]? = some x) (hv : Vis sc x) (hd : (x == ("__debug__" : Str)) = false := by decide) (hcd : (x == ("__classdict__" : Str)) = false := by decide) : DE X Γ (.Name x pos) r := fun F0 H0 F H σ en Q q => by
  obtain ⟨v, h1, h2⟩ := en.im hΓ
  exact .of (pe_var (i := i) (B.hN ▸ hN) (B.hsc ▸ hv) hd hcd) ⟨v, h1, q v F H (.refl en.gr.s) h2⟩
theorem de_int {i : Int} {j : Nat} : DE X Γ (.Constant (.int i) j pos) (rInt i) := fun F0 H0 F H σ en Q q => .of pe_int (q _ F H (.refl en.gr.s) rfl)
theorem de_bl {i : Bool} {j : Nat} : DE X Γ (.Constant (.bool i) j pos) (rBl i) := fun F0 H0 F H σ en Q q => .of pe_bl (q _ F H (.refl en.gr.s) rfl)
theorem de_non {j : Nat} : DE X Γ (.Constant .none j pos) rNon := fun F0 H0 F H σ en Q q => .of pe_non (q _ F H (.refl en.gr.s) rfl)
theorem de_str {s : Str} {j : Nat} : DE X Γ (.Constant (.str s) j pos) (rStr s) := fun F0 H0 F H σ en Q q => .of pe_str (q _ F H (.refl en.gr.s) rfl)
/-- an operator by values -/
def B2 (r2 : R2) (ra rb rc : Rep) : Prop := ∀ F H x y, Same F H → ra.P F x → rb.P F y → ∀ Q : VK, (∀ v F' H', Gr F H F' H' → rc.P F' v → Q v H') → r2 x y H Q
theorem two {r2 : R2} (ha : DE X Γ a ra) (hb : DE X Γ b rb) (h2 : B2 r2 ra rb rc) {F0 H0 F H : Hp} {σ : L2.St} (en : En F0 H0 F H σ Γ) {Q : VK} (q : ∀ v F' H', Gr F H F' H' → rc.P F' v → Q v H') :
    tOp r2 (EV X a) (EV X b) σ H Q :=
  ha F0 H0 F H σ en _ fun v F1 H1 g1 h1 => hb F0 H0 F1 H1 σ (en.grow g1) _ fun u F2 H2 g2 k2 => h2 F2 H2 v u g2.s (ra.mono g2.f h1) k2 Q fun z F3 H3 g3 h3 => q z F3 H3 ((g1.trans g2).trans g3) h3
theorem de_op {op : Operator} {r2 : R2} (ho : OpR X (binaryOp op) r2) (h2 : B2 r2 ra rb rc) (ha : DE X Γ a ra) (hb : DE X Γ b rb) : DE X Γ (.BinOp a op b pos) rc := fun F0 H0 F H σ en Q q =>
  .of (pe_op ho pe_ev pe_ev) (two ha hb h2 en q)
theorem de_cmp {op : CmpOp} {r2 : R2} (ho : OpR X (compareOp op) r2) (h2 : B2 r2 ra rb rc) (ha : DE X Γ a ra) (hb : DE X Γ b rb) (hm : behindInMarks op b = false) : DE X Γ (.Compare a [op] [b] pos) rc := fun F0 H0 F H σ en Q q =>
  .of (pe_cmpR ho pe_ev pe_ev hm) (two ha hb h2 en q)
theorem dt_cmp {op : CmpOp} {r2 : R2} {t : Bool} (ho : OpR X (compareOp op) r2) (h2 : B2 r2 ra rb (rBl t)) (ha : DE X Γ a ra) (hb : DE X Γ b rb) (hm : behindInMarks op b = false) : DT X Γ (.Compare a [op] [b] pos) t := fun F0 H0 F H σ en Q q =>
  .of (pt_cmpR ho pe_ev pe_ev hm) (two ha hb h2 en fun v F' H' g hv => ⟨t, hv, q F' H' g⟩)
theorem b2_I0 {g : Int → Int → V} {i j : Int} : B2 (rI0 g) (rInt i) (rInt j) (rC (g i j)) := fun F H x y s h1 h2 Q q => ⟨i, j, h1, h2, q _ F H (.refl s) rfl⟩
theorem b2_I {C : Int → Int → Prop} {g : Int → Int → V} {i j : Int} (hc : C i j) : B2 (rI C g) (rInt i) (rInt j) (rC (g i j)) := fun F H x y s h1 h2 Q q => ⟨i, j, h1, h2, hc, q _ F H (.refl s) rfl⟩
theorem b2_eq {x y : V} (h : scal x y = true) : B2 rEq (rC x) (rC y) (rBl (decide (x = y))) := fun F H x y s h1 h2 Q q => by cases h1; cases h2; exact ⟨h, q _ F H (.refl s) rfl⟩
theorem b2_ne {x y : V} (h : scal x y = true) : B2 rNe (rC x) (rC y) (rBl (!decide (x = y))) := fun F H x y s h1 h2 Q q => by cases h1; cases h2; exact ⟨h, q _ F H (.refl s) rfl⟩
/-! ints -/
section
variable {i j : Int}
theorem de_add (ha : DE X Γ a (rInt i)) (hb : DE X Γ b (rInt j)) : DE X Γ (.BinOp a .Add b pos) (rInt (i + j)) := de_op op_add b2_I0 ha hb
theorem de_sub (ha : DE X Γ a (rInt i)) (hb : DE X Γ b (rInt j)) : DE X Γ (.BinOp a .Sub b pos) (rInt (i - j)) := de_op op_sub b2_I0 ha hb
theorem de_mul (hc : CMulW i j) (ha : DE X Γ a (rInt i)) (hb : DE X Γ b (rInt j)) : DE X Γ (.BinOp a .Mult b pos) (rInt (i * j)) := de_op op_mulW (b2_I hc) ha hb
def CDivX (_ j : Int) : Prop := j ≠ 0 ∧ j.natAbs.log2 < 9000
theorem op_fdivX : OpR X (binaryOp .FloorDiv) (rI CDivX fun i j => .int (i.fdiv j)) := opI fun i j _ _ _ _ _ hc q => floordiv_int hc.1 q (.inl (PyProof.noPylong_of_log2 hc.2))
theorem de_fdiv (hc : CDivX i j) (ha : DE X Γ a (rInt i)) (hb : DE X Γ b (rInt j)) : DE X Γ (.BinOp a .FloorDiv b pos) (rInt (i.fdiv j)) := de_op op_fdivX (b2_I hc) ha hb
theorem de_mod (hc : j ≠ 0) (ha : DE X Γ a (rInt i)) (hb : DE X Γ b (rInt j)) : DE X Γ (.BinOp a .Mod b pos) (rInt (i.fmod j)) := de_op op_modN (b2_I hc) ha hb
theorem de_pow (hc : CPow i j) (ha : DE X Γ a (rInt i)) (hb : DE X Γ b (rInt j)) : DE X Γ (.BinOp a .Pow b pos) (rInt (i ^ j.toNat)) := de_op op_pow (b2_I hc) ha hb
def U1 (f : V → Hp → VK → Prop) (ra rc : Rep) : Prop := ∀ F H x, Same F H → ra.P F x → ∀ Q : VK, (∀ v F' H', Gr F H F' H' → rc.P F' v → Q v H') → f x H Q
theorem de_un {op : UnaryOp} {f : V → Hp → VK → Prop} (ho : UnR X (unaryOp op) f) (h2 : U1 f ra rc) (ha : DE X Γ a ra) : DE X Γ (.UnaryOp op a pos) rc := fun F0 H0 F H σ en Q q =>
  .of (pe_un ho pe_ev) (ha F0 H0 F H σ en _ fun v F1 H1 g1 h1 => h2 F1 H1 v g1.s h1 Q fun z F3 H3 g3 h3 => q z F3 H3 (g1.trans g3) h3)
theorem de_neg (ha : DE X Γ a (rInt i)) : DE X Γ (.UnaryOp .USub a pos) (rInt (-i)) := de_un un_neg (fun F H x s h1 Q q => ⟨i, h1, q _ F H (.refl s) rfl⟩) ha
theorem dt_lt (ha : DE X Γ a (rInt i)) (hb : DE X Γ b (rInt j)) : DT X Γ (.Compare a [.Lt] [b] pos) (decide (i < j)) := dt_cmp op_lt b2_I0 ha hb (nomark _)
theorem dt_gt (ha : DE X Γ a (rInt i)) (hb : DE X Γ b (rInt j)) : DT X Γ (.Compare a [.Gt] [b] pos) (decide (j < i)) := dt_cmp op_gt b2_I0 ha hb (nomark _)
theorem dt_ge (ha : DE X Γ a (rInt i)) (hb : DE X Γ b (rInt j)) : DT X Γ (.Compare a [.GtE] [b] pos) (decide (j ≤ i)) := dt_cmp op_ge b2_I0 ha hb (nomark _)
theorem vint_dec : decide (V.int i = V.int j) = decide (i = j) := by
  by_cases h : i = j
  · rw [decide_eq_true h, h, decide_eq_true rfl]
  · rw [decide_eq_false h, decide_eq_false fun z => h (V.int.inj z)]
theorem b2_eqI : B2 rEq (rInt i) (rInt j) (rBl (decide (i = j))) := by
  have h := b2_eq (x := .int i) (y := .int j) rfl
  rw [vint_dec] at h
  exact h
theorem b2_neI : B2 rNe (rInt i) (rInt j) (rBl (!decide (i = j))) := by
  have h := b2_ne (x := .int i) (y := .int j) rfl
  rw [vint_dec] at h
  exact h
theorem dt_eqI (ha : DE X Γ a (rInt i)) (hb : DE X Γ b (rInt j)) : DT X Γ (.Compare a [.Eq] [b] pos) (decide (i = j)) := dt_cmp op_eq b2_eqI ha hb (nomark _)
theorem dt_neI (ha : DE X Γ a (rInt i)) (hb : DE X Γ b (rInt j)) : DT X Γ (.Compare a [.NotEq] [b] pos) (!decide (i = j)) := dt_cmp op_ne b2_neI ha hb (nomark _)
theorem de_ltI (ha : DE X Γ a (rInt i)) (hb : DE X Γ b (rInt j)) : DE X Γ (.Compare a [.Lt] [b] pos) (rBl (decide (i < j))) := de_cmp op_lt b2_I0 ha hb (nomark _)
theorem de_geI (ha : DE X Γ a (rInt i)) (hb : DE X Γ b (rInt j)) : DE X Γ (.Compare a [.GtE] [b] pos) (rBl (decide (j ≤ i))) := de_cmp op_ge b2_I0 ha hb (nomark _)
theorem de_eqI (ha : DE X Γ a (rInt i)) (hb : DE X Γ b (rInt j)) : DE X Γ (.Compare a [.Eq] [b] pos) (rBl (decide (i = j))) := de_cmp op_eq b2_eqI ha hb (nomark _)
end
/-! truth values -/
section
variable {u v : Bool}
theorem dt_val (h : DE X Γ e (rBl u)) (he : ∀ whole, isTrue e X.env whole = (do let v ← whole; standAt e.pos; holding [v] (truthy v)) := by intro _; rfl) : DT X Γ e u := fun F0 H0 F H σ en Q q =>
  .of (pt_val pe_ev he) (h F0 H0 F H σ en _ fun v F' H' g hv => ⟨u, hv, q F' H' g⟩)
theorem dt_not (h : DT X Γ a u) : DT X Γ (.UnaryOp .Not a pos) (!u) := fun F0 H0 F H σ en Q q => .of (pt_not pt_ev) (h F0 H0 F H σ en _ fun F' H' g => q F' H' g)
theorem de_not (h : DE X Γ a (rBl u)) : DE X Γ (.UnaryOp .Not a pos) (rBl (!u)) := fun F0 H0 F H σ en Q q => .of (pe_not pe_ev) (h F0 H0 F H σ en _ fun v F' H' g hv => ⟨u, hv, q _ F' H' g rfl⟩)
theorem DW.t (h : DW X Γ e u) : DT X Γ e u := fun F0 H0 F H σ en Q q => .of (pw_ev.pt) (h F0 H0 F H σ en Q q)
theorem dw_and1 (h : DT X Γ a u) : DW X Γ (.BoolOp .And [a] pos) u := fun F0 H0 F H σ en Q q => .of (pw_and1 pt_ev) (h F0 H0 F H σ en Q q)
theorem dw_or1 (h : DT X Γ a u) : DW X Γ (.BoolOp .Or [a] pos) u := fun F0 H0 F H σ en Q q => .of (pw_or1 pt_ev) (h F0 H0 F H σ en Q q)
theorem dw_and (h : DT X Γ a u) (h2 : u = true → DW X Γ (.BoolOp .And (b :: rest) pos) v) : DW X Γ (.BoolOp .And (a :: b :: rest) pos) (u && v) := fun F0 H0 F H σ en Q q =>
  .of (pw_and pt_ev pw_ev) (h F0 H0 F H σ en _ fun F' H' g => by
    cases u with
    | true => rw [if_pos rfl]; exact h2 rfl F0 H0 F' H' σ (en.grow g) Q fun F2 H2 g2 => q F2 H2 (g.trans g2)
    | false => rw [if_neg Bool.false_ne_true]; exact q F' H' g)
theorem dw_or (h : DT X Γ a u) (h2 : u = false → DW X Γ (.BoolOp .Or (b :: rest) pos) v) : DW X Γ (.BoolOp .Or (a :: b :: rest) pos) (u || v) := fun F0 H0 F H σ en Q q =>
  .of (pw_or pt_ev pw_ev) (h F0 H0 F H σ en _ fun F' H' g => by
    cases u with
    | true => rw [if_pos rfl]; exact q F' H' g
    | false => rw [if_neg Bool.false_ne_true]; exact h2 rfl F0 H0 F' H' σ (en.grow g) Q fun F2 H2 g2 => q F2 H2 (g.trans g2))
theorem de_one {op} (h : DE X Γ a r) : DE X Γ (.BoolOp op [a] pos) r := fun F0 H0 F H σ en Q q => .of (pe_one pe_ev) (h F0 H0 F H σ en Q q)
theorem de_and (h : DE X Γ a (rBl u)) (h2 : u = true → DE X Γ (.BoolOp .And (b :: rest) pos) (rBl v)) : DE X Γ (.BoolOp .And (a :: b :: rest) pos) (rBl (u && v)) := fun F0 H0 F H σ en Q q =>
  .of (pe_and pe_ev pe_ev) (h F0 H0 F H σ en _ fun x F' H' g hx => ⟨u, hx, by
    cases u with
    | true => rw [if_pos rfl]; exact h2 rfl F0 H0 F' H' σ (en.grow g) Q fun y F2 H2 g2 hy => q y F2 H2 (g.trans g2) hy
    | false => rw [if_neg Bool.false_ne_true]; exact q _ F' H' g rfl⟩)
theorem de_or (h : DE X Γ a (rBl u)) (h2 : u = false → DE X Γ (.BoolOp .Or (b :: rest) pos) (rBl v)) : DE X Γ (.BoolOp .Or (a :: b :: rest) pos) (rBl (u || v)) := fun F0 H0 F H σ en Q q =>
  .of (pe_or pe_ev pe_ev) (h F0 H0 F H σ en _ fun x F' H' g hx => ⟨u, hx, by
    cases u with
    | true => rw [if_pos rfl]; exact q _ F' H' g rfl
    | false => rw [if_neg Bool.false_ne_true]; exact h2 rfl F0 H0 F' H' σ (en.grow g) Q fun y F2 H2 g2 hy => q y F2 H2 (g.trans g2) hy⟩)
theorem de_if (h : DT X Γ c u) (h1 : u = true → DE X Γ a r) (h2 : u = false → DE X Γ b r) : DE X Γ (.IfExp c a b pos) r := fun F0 H0 F H σ en Q q =>
  .of (pe_ifExp pt_ev pe_ev pe_ev) (h F0 H0 F H σ en _ fun F' H' g => by
    cases u with
    | true => rw [if_pos rfl]; exact h1 rfl F0 H0 F' H' σ (en.grow g) Q fun y F2 H2 g2 hy => q y F2 H2 (g.trans g2) hy
    | false => rw [if_neg Bool.false_ne_true]; exact h2 rfl F0 H0 F' H' σ (en.grow g) Q fun y F2 H2 g2 hy => q y F2 H2 (g.trans g2) hy)
end
/-! argument lists, displays -/
theorem da_nil : DA X Γ [] [] := fun F0 H0 F H σ en Q q => .of pa_nil (q [] F H (.refl en.gr.s) .nil)
theorem da_cons (h : DE X Γ e r) (h2 : DA X Γ es rs) (hs : starEach (e :: es) X.env = (false, eval e X.env) :: starEach es X.env := by rfl) : DA X Γ (e :: es) (r :: rs) := fun F0 H0 F H σ en Q q =>
  .of (pa_cons pe_ev pa_ev hs) (h F0 H0 F H σ en _ fun v F1 H1 g1 h1 => h2 F0 H0 F1 H1 σ (en.grow g1) _ fun vs F2 H2 g2 k2 => q (v :: vs) F2 H2 (g1.trans g2) (.cons (r.mono g2.f h1) k2))
theorem de_tup {x1} (h : DA X Γ es rs) (hl : rs.length ≤ sizeLine) : DE X Γ (.Tuple es x1 pos) (rTup X.K rs) := fun F0 H0 F H σ en Q q =>
  .of (pe_tup pa_ev) (h F0 H0 F H σ en _ fun vs F1 H1 g1 h1 => ⟨h1.len ▸ hl, fun p hp => q (.ref p) _ _ (g1.trans (.new g1.s hp)) ⟨p, vs, rfl, SqT.of upd_same, h1.mono (same_new (g1.s.free hp))⟩⟩)
theorem dl_lst (h : DA X Γ es rs) (hl : rs.length ≤ sizeLine) : DL X Γ (.List es pos) rs := fun F0 H0 F H σ en Q q =>
  .of (pe_lst pa_ev) (h F0 H0 F H σ en _ fun vs F1 H1 g1 h1 => ⟨h1.len ▸ hl, fun p hp => q p vs F1 _ (g1.trans (.newOwn g1.s hp)) (g1.h.free hp) (g1.s.free hp) upd_same h1⟩)
end
end DL

set_option Elab.async false
set_option linter.all false
set_option maxRecDepth 100000
set_option maxHeartbeats 4000000
namespace DL
open PySem PySem.Spec PyProof.Rows L2

/-! ### a def that may be called by its name -/
structure Cal (P : Program) (w : World) (K : PySem.W.Frag) (mg : Str → Option Value) (base : Heap) (k : Nat) (x : Str) (sp : Sp) : Prop where
  ex : ∃ (f : Addr) (fd : FuncData) (ps : List Str), FnOk P w K mg base (L2.CX P w) k f fd ps sp ∧ mg x = some (.ref f) ∧ PySem.W.keepIn K (.ref f) = true ∧ Binds K fd ps []
theorem FnOk.wide {P : Program} {w : World} {K : PySem.W.Frag} {mg : Str → Option Value} {base : Heap} {k : Nat} {f : Addr} {fd : FuncData} {ps : List Str} {sp : Sp} (F : FnOk P w K mg base CX0 k f fd ps sp) : FnOk P w K mg base (L2.CX P w) k f fd ps sp :=
  ⟨F.len, fun A outer s H args us vs Q E hr he hb hv hs => codeAny_mono (F.run A outer s H args us vs Q E hr he hb hv hs) fun r s' h => by
    cases r with
    | error e => exact False.elim h
    | ok fl => cases fl <;> exact h⟩
/-- the end of a call: a value, a new list of one's own, or an error without a field of the class named -/
inductive Ret where
  | val (r : Rep)
  | lst (l : List Rep)
  | tfr (K : PySem.W.Frag) (l : List Rep) (rs : List Rep)
def Ret.P (F0 H0 F H : Hp) : Ret → V → Prop
  | .val r, v => r.P F v
  | .lst l, v => ∃ p vs, v = .ref p ∧ H0 p = none ∧ F p = none ∧ H p = some (.lst vs) ∧ RL F l vs
  | .tfr K l rs, v => ∃ t p us vs, v = .ref t ∧ SqT K F t (.ref p :: vs) ∧ H0 p = none ∧ F p = none ∧ H p = some (.lst us) ∧ RL F l us ∧ RL F rs vs
/-- from the arguments' worth to the answer's -/
def Pr (F H : Hp) (res : Ret) (Q : VK) : Prop := ∀ v F' H', Gr F H F' H' → res.P F H F' H' v → Q v H'
def Pm {ι : Type} (pre : ι → Prop) (args : ι → List Rep) (res : ι → Ret) : Sp := fun vs H Q _ => ∃ (x : ι) (F : Hp), pre x ∧ Same F H ∧ RL F (args x) vs ∧ Pr F H (res x) Q
section
variable {X : Cx} {N : List Str} {sc : Scope} {k j : Nat} {Γ : List Sl} {a b c e : Expr} {es rest : List Expr} {r ra rb rc r' : Rep} {rs l : List Rep} {pos p : Pos} {x : Str}
variable {ι : Type} {pre : ι → Prop} {args : ι → List Rep} {res : ι → Ret}
def CA (X : Cx) (Γ : List Sl) (e : Expr) (ret : Ret) : Prop := ∀ F0 H0 F H σ, En F0 H0 F H σ Γ → ∀ Q : VK, (∀ v F' H' F1 H1, Gr F H F1 H1 → Gr F1 H1 F' H' → ret.P F1 H1 F' H' v → Q v H') → EV X e σ H Q
theorem ca_call (B : BX X N sc k) (C : Cal X.prog X.w X.K X.mg X.base j x (Pm pre args res)) (hk : j ≤ k) (g : ι) (hp : pre g) (ha : DA X Γ (e :: es) (args g)) (hg : sc.names.lookup x = some .globalImplicit)
    (hdb : (x == ("__debug__" : Str)) = false := by decide) (he : starEach (e :: es) X.env = (false, eval e X.env) :: starEach es X.env := by rfl) (hpl : (backTo pos (starEach es X.env)).any (·.1) = false := by rfl) :
    CA X Γ (.Call (.Name x p) (e :: es) [] pos) (res g) := fun F0 H0 F H σ en Q q => by
  obtain ⟨f, fd, ps, G, hm, kp, hb⟩ := C.ex
  have hgl : Gl X x := by
    show X.env.scope.names.lookup x = _
    rw [B.hsc]
    exact hg
  refine .of (pe_call (E := E0) G (B.room.mono hk) hgl hm kp hb .nil passL pa_ev hdb he hpl) ?_
  refine ha F0 H0 F H σ en _ fun vs F1 H1 g1 h1 => ?_
  show Pm pre args res (vs ++ []) H1 Q E0
  rw [List.append_nil]
  exact ⟨g, F1, hp, g1.s, h1, fun v F' H' g2 hv => q v F' H' F1 H1 g1 g2 hv⟩
theorem CA.val (h : CA X Γ e (.val r)) : DE X Γ e r := fun F0 H0 F H σ en Q q => h F0 H0 F H σ en Q fun v F' H' F1 H1 g1 g2 hv => q v F' H' (g1.trans g2) hv
theorem CA.lst (h : CA X Γ e (.lst l)) : DL X Γ e l := fun F0 H0 F H σ en Q q => h F0 H0 F H σ en Q fun v F' H' F1 H1 g1 g2 hv => by
  obtain ⟨p, vs, rfl, h1, h2, h3, h4⟩ := hv
  exact q p vs F' H' (g1.trans g2) (g1.h.free h1) h2 h3 h4

/-! ### built-ins by name -/
def CB (f : List V → Hp → VK → Prop) (rs : List Rep) (r : Rep) : Prop := ∀ F H vs, Same F H → RL F rs vs → ∀ Q : VK, (∀ v F' H', Gr F H F' H' → r.P F' v → Q v H') → f vs H Q
theorem de_blt {id : String} {f : List V → Hp → VK → Prop} (B : BX X N sc k) (hc : CallR X (.builtin id) f) (h2 : CB f rs r) (hm : X.mg x = none) (hv : bootBuiltins x = some (.builtin id)) (ha : DA X Γ (e :: es) rs) (hg : sc.names.lookup x = some .globalImplicit)
    (hn : x ≠ "__name__" := by decide) (hdb : (x == ("__debug__" : Str)) = false := by decide) (he : starEach (e :: es) X.env = (false, eval e X.env) :: starEach es X.env := by rfl) (hpl : (backTo pos (starEach es X.env)).any (·.1) = false := by rfl) :
    DE X Γ (.Call (.Name x p) (e :: es) [] pos) r := fun F0 H0 F H σ en Q q => by
  have hgl : Gl X x := by
    show X.env.scope.names.lookup x = _
    rw [B.hsc]
    exact hg
  exact .of (pe_callB hc hgl hm hv pa_ev hn hdb he hpl) (ha F0 H0 F H σ en _ fun vs F1 H1 g1 h1 => h2 F1 H1 vs g1.s h1 Q fun v F' H' g2 hv => q v F' H' (g1.trans g2) hv)
theorem de_bty {id : String} {f : List V → Hp → VK → Prop} (B : BX X N sc k) (hc : CallR X (.type id) f) (h2 : CB f rs r) (hm : X.mg x = none) (hv : bootBuiltins x = some (.type id)) (ha : DA X Γ (e :: es) rs) (hg : sc.names.lookup x = some .globalImplicit)
    (hn : x ≠ "__name__" := by decide) (hdb : (x == ("__debug__" : Str)) = false := by decide) (he : starEach (e :: es) X.env = (false, eval e X.env) :: starEach es X.env := by rfl) (hpl : (backTo pos (starEach es X.env)).any (·.1) = false := by rfl) :
    DE X Γ (.Call (.Name x p) (e :: es) [] pos) r := fun F0 H0 F H σ en Q q => by
  have hgl : Gl X x := by
    show X.env.scope.names.lookup x = _
    rw [B.hsc]
    exact hg
  exact .of (pe_callTy hc hgl hm hv pa_ev hn hdb he hpl) (ha F0 H0 F H σ en _ fun vs F1 H1 g1 h1 => h2 F1 H1 vs g1.s h1 Q fun v F' H' g2 hv => q v F' H' (g1.trans g2) hv)
/-- a built-in function under a module's own name (from math import ..) -/
theorem de_bfun {id : String} {f : List V → Hp → VK → Prop} (B : BX X N sc k) (hc : CallR X (.builtin id) f) (h2 : CB f rs r) (hm : X.mg x = some (.builtin id)) (ha : DA X Γ (e :: es) rs) (hg : sc.names.lookup x = some .globalImplicit)
    (hdb : (x == ("__debug__" : Str)) = false := by decide) (he : starEach (e :: es) X.env = (false, eval e X.env) :: starEach es X.env := by rfl) (hpl : (backTo pos (starEach es X.env)).any (·.1) = false := by rfl) :
    DE X Γ (.Call (.Name x p) (e :: es) [] pos) r := fun F0 H0 F H σ en Q q => by
  have hgl : Gl X x := by
    show X.env.scope.names.lookup x = _
    rw [B.hsc]
    exact hg
  exact .of (pe_callBfun hc hgl hm pa_ev hdb he hpl) (ha F0 H0 F H σ en _ fun vs F1 H1 g1 h1 => h2 F1 H1 vs g1.s h1 Q fun v F' H' g2 hv => q v F' H' (g1.trans g2) hv)
theorem rl1 {F : Hp} {r : Rep} {vs : List V} (h : RL F [r] vs) : ∃ v, vs = [v] ∧ r.P F v := by
  cases h with
  | cons a t => cases t; exact ⟨_, rfl, a⟩
theorem rl2 {F : Hp} {r s : Rep} {vs : List V} (h : RL F [r, s] vs) : ∃ v w, vs = [v, w] ∧ r.P F v ∧ s.P F w := by
  cases h with
  | cons a t =>
    obtain ⟨w, rfl, b⟩ := rl1 t
    exact ⟨_, _, rfl, a, b⟩

/-- a name that the body may store -/
def LocX (X : Cx) (sc : Scope) (x : Str) : Prop := sc.names.lookup x = some .local ∨ (sc.names.lookup x = some .cell ∧ X.fn x = true)
/-! ### statements -/
def GO (X : Cx) (F0 H0 : Hp) (st : List Stmt) (D : Ends) (Γ : List Sl) : Prop := ∀ F H σ, En F0 H0 F H σ Γ → XS X st D σ H
variable {F0 H0 : Hp} {st body orelse : List Stmt} {D : Ends} {i : Nat} {tpos : Pos}
theorem go_nil (h : ∀ F H σ, En F0 H0 F H σ Γ → D.nx σ H) : GO X F0 H0 [] D Γ := fun F H σ en => .of pss_nil (h F H σ en)
theorem go_then (h : GO X F0 H0 st D Γ) : GO X F0 H0 [] { D with nx := XS X st D } Γ := go_nil fun F H σ en => h F H σ en
theorem go_set (B : BX X N sc k) (he : DE X Γ e r) (hN : N[i]? = some x) (hx : LocX X sc x) (h : GO X F0 H0 st D (Γ.set i (.im r))) (hs : swapsWith e (some (.Name x tpos)) pos.line X.env = pure false := by rfl) :
    GO X F0 H0 (.Assign [.Name x tpos] e pos :: st) D Γ := fun F H σ en => by
  have hf : X.fn x = true ∨ X.env.scope.names.lookup x = some .local := by
    rcases hx with hx | hx
    · exact .inr (by rw [B.hsc]; exact hx)
    · exact .inl hx.2
  have hx : Loc sc x := hx.elim .inl fun z => .inr z.1
  refine .of (pss_cons (ps_set (i := i) (by rw [B.hN]; exact B.nd) (by rw [B.hN]; exact hN) (by rw [B.hsc]; exact hx) pe_ev hs hf) pss_ev) ?_
  exact he F0 H0 F H σ en _ fun v F' H' g hv => h F' H' _ ((en.grow g).setIm hv)
theorem go_setL (B : BX X N sc k) (he : DL X Γ e l) (hN : N[i]? = some x) (hx : LocX X sc x) (h : GO X F0 H0 st D (Γ.set i (.ow l))) (hs : swapsWith e (some (.Name x tpos)) pos.line X.env = pure false := by rfl) :
    GO X F0 H0 (.Assign [.Name x tpos] e pos :: st) D Γ := fun F H σ en => by
  have hf : X.fn x = true ∨ X.env.scope.names.lookup x = some .local := by
    rcases hx with hx | hx
    · exact .inr (by rw [B.hsc]; exact hx)
    · exact .inl hx.2
  have hx : Loc sc x := hx.elim .inl fun z => .inr z.1
  refine .of (pss_cons (ps_set (i := i) (by rw [B.hN]; exact B.nd) (by rw [B.hN]; exact hN) (by rw [B.hsc]; exact hx) pe_ev hs hf) pss_ev) ?_
  refine he F0 H0 F H σ en _ fun p vs F' H' g h1 h2 h3 h4 => h F' H' _ ((en.grow g).setOw h2 h3 h4 (en.gr.h.free h1) fun j l' k1 k2 => ?_)
  obtain ⟨p', vs', a1, a2, a3, a4, a5⟩ := en.ow k1
  rw [a1] at k2
  have e2 : p' = p := V.ref.inj (Option.some.inj (Option.some.inj k2))
  rw [e2, h1] at a3
  cases a3
theorem go_expr (he : DE X Γ e r) (h : GO X F0 H0 st D Γ) (hs : swapsWith e none pos.line X.env = pure false := by rfl) : GO X F0 H0 (.Expr e pos :: st) D Γ := fun F H σ en =>
  .of (pss_cons (ps_expr pe_ev hs) pss_ev) (he F0 H0 F H σ en _ fun v F' H' g _ => h F' H' σ (en.grow g))
theorem go_if {t : Bool} (hc : DT X Γ c t) (h1 : t = true → GO X F0 H0 body { D with nx := XS X st D } Γ) (h2 : t = false → GO X F0 H0 orelse { D with nx := XS X st D } Γ) : GO X F0 H0 (.If c body orelse pos :: st) D Γ := fun F H σ en =>
  .of (pss_cons (ps_if pt_ev pss_ev pss_ev) pss_ev) (hc F0 H0 F H σ en _ fun F' H' g => by
    cases t with
    | true => rw [if_pos rfl]; exact h1 rfl F' H' σ (en.grow g)
    | false => rw [if_neg Bool.false_ne_true]; exact h2 rfl F' H' σ (en.grow g))
/-- what a return gives -/
def RT (F0 H0 : Hp) (ret : Ret) (D : Ends) : Prop := ∀ v F' H', Gr F0 H0 F' H' → ret.P F0 H0 F' H' v → D.rt v H'
theorem go_ret (R : RT F0 H0 (.val r') D) (he : DE X Γ e r) (hs : Sub r r') : GO X F0 H0 (.Return (some e) pos :: st) D Γ := fun F H σ en =>
  .of (pss_cons (ps_ret pe_ev) (pss_ev (st := st))) (he F0 H0 F H σ en _ fun v F' H' g hv => R v F' H' (en.gr.trans g) (hs F' v hv))
theorem go_retL {l' : List Rep} (R : RT F0 H0 (.lst l') D) (he : DL X Γ e l) (hs : l = l') : GO X F0 H0 (.Return (some e) pos :: st) D Γ := fun F H σ en =>
  .of (pss_cons (ps_ret pe_ev) (pss_ev (st := st))) (he F0 H0 F H σ en _ fun p vs F' H' g h1 h2 h3 h4 => R _ F' H' (en.gr.trans g) ⟨p, vs, rfl, en.gr.h.free h1, h2, h3, hs ▸ h4⟩)
/-- return of a list of one's own by its name -/
theorem go_retV {l' : List Rep} (B : BX X N sc k) (R : RT F0 H0 (.lst l') D) (hΓ : Γ[i]? = some (.ow l)) (hs : l = l') (hN : N[i]? = some x) (hv : Vis sc x) (hd : (x == ("__debug__" : Str)) = false := by decide) (hcd : (x == ("__classdict__" : Str)) = false := by decide) :
    GO X F0 H0 (.Return (some (.Name x p)) pos :: st) D Γ := fun F H σ en => by
  obtain ⟨q, vs, h1, h2, h3, h4, h5⟩ := en.ow hΓ
  exact .of (pss_cons (ps_ret (pe_var (i := i) (B.hN ▸ hN) (B.hsc ▸ hv) hd hcd)) (pss_ev (st := st))) ⟨_, h1, R _ F H en.gr ⟨q, vs, rfl, h5, h2, h3, hs ▸ h4⟩⟩
theorem go_break (h : ∀ F H σ, En F0 H0 F H σ Γ → D.bk σ H) : GO X F0 H0 (.Break pos :: st) D Γ := fun F H σ en => .of (pss_cons ps_break (pss_ev (st := st))) (h F H σ en)
/-- a list of one's own stands still from here on -/
theorem go_froz (i : Nat) (hΓ : Γ[i]? = some (.ow l)) (h : GO X F0 H0 st D (Γ.set i (.im (rLst X.K l)))) : GO X F0 H0 st D Γ := fun F H σ en => by
  obtain ⟨F', s1, s2, en'⟩ := en.freeze (K := X.K) hΓ
  exact h F' H σ en'
/-- x.append(e), x a list of one's own -/
theorem go_append {apos ps2 : Pos} (B : BX X N sc k) (hΓ : Γ[i]? = some (.ow l)) (he : DE X Γ e r) (hl : l.length < sizeLine) (hN : N[i]? = some x) (hv : Vis sc x) (h : GO X F0 H0 st D (Γ.set i (.ow (l ++ [r]))))
    (hd : (x == ("__debug__" : Str)) = false := by decide) (hcd : (x == ("__classdict__" : Str)) = false := by decide)
    (hbase : attributeBase (.Name x p) "append" X.env (eval (.Name x p) X.env) = eval (.Name x p) X.env := by rfl)
    (hfew : ((backTo pos (starEach (e :: []) X.env)).all (fun x => !x.1) && (backToKw pos (keywordEach [] X.env)).all (fun x => x.1.isSome)
      && decide ((e :: []).length + ([] : List Keyword).length + (if ([] : List Keyword).isEmpty then 0 else 1) < 30)) = true := by rfl)
    (hline : (apos.endLine == pos.line) = true := by rfl) (hs : starEach (e :: []) X.env = (false, eval e X.env) :: starEach [] X.env := by rfl) (hplain : (backTo pos (starEach [] X.env)).any (·.1) = false := by rfl)
    (hsw : swapsWith (.Call (.Attribute (.Name x p) "append" apos) [e] [] pos) none ps2.line X.env = pure false := by rfl) :
    GO X F0 H0 (.Expr (.Call (.Attribute (.Name x p) "append" apos) [e] [] pos) ps2 :: st) D Γ := fun F H σ en => by
  obtain ⟨q, vs, h1, h2, h3, h4, h5⟩ := en.ow hΓ
  refine .of (pss_cons (ps_expr (pe_bm PySem.F.plainAttrs_list PySem.F.slot_list_append PySem.F.type_list_append mt_append (pe_var (i := i) (B.hN ▸ hN) (B.hsc ▸ hv) hd hcd) (pa_cons pe_ev pa_nil hs) hbase hfew hline hs hplain) hsw) pss_ev) ?_
  refine ⟨.ref q, h1, .inl ⟨rfl, vs, SqL.of h3⟩, ?_⟩
  refine he F0 H0 F H σ en _ fun v F' H' g hv => ?_
  have en' := en.grow g
  refine ⟨q, vs, v, rfl, rfl, g.h _ _ h3, by rw [← h4.len]; exact hl, ?_⟩
  exact h F' _ σ (en'.put hΓ h1 ((h4.mono g.f).snoc hv))
end

/-! ### a def keeps its promise -/
/-- the def st, under the name x -/
structure TD (K : PySem.W.Frag) (mg : Str → Option Value) (x : Str) (st : Stmt) : Prop where
  ex : ∃ f fd, Fun K x x st f fd ∧ mg x = some (.ref f)
theorem en_start {F H : Hp} {N : List Str} {rs : List Rep} {vs : List V} (s : Same F H) (h : RL F rs vs) (hl : rs.length ≤ N.length) : En F H F H (L2.start N vs) (rs.map Sl.im ++ List.replicate (N.length - rs.length) .any) where
  gr := .refl s
  len := by
    unfold L2.start
    have := h.len
    simp
    omega
  ok i t x h1 h2 := by
    have hlen := h.len
    by_cases hi : i < rs.length
    · rw [List.getElem?_append_left (by simpa using hi), List.getElem?_map] at h1
      unfold L2.start at h2
      rw [List.getElem?_append_left (by simp; omega), List.getElem?_map] at h2
      cases e : rs[i]? with
      | none => rw [e] at h1; cases h1
      | some r =>
        rw [e] at h1
        cases h1
        obtain ⟨v, k1, k2⟩ := h.get e
        rw [k1] at h2
        cases h2
        exact ⟨v, rfl, k2⟩
    · rw [List.getElem?_append_right (by simpa using hi), List.getElem?_replicate] at h1
      split at h1
      · cases h1
        trivial
      · cases h1
  own i p l h1 h2 := by
    by_cases hi : i < rs.length
    · rw [List.getElem?_append_left (by simpa using hi), List.getElem?_map] at h1
      cases e : rs[i]? with
      | none => rw [e] at h1; cases h1
      | some r => rw [e] at h1; cases h1
    · rw [List.getElem?_append_right (by simpa using hi), List.getElem?_replicate] at h1
      split at h1 <;> cases h1
  sep i j p l l' h1 := by
    by_cases hi : i < rs.length
    · rw [List.getElem?_append_left (by simpa using hi), List.getElem?_map] at h1
      cases e : rs[i]? with
      | none => rw [e] at h1; cases h1
      | some r => rw [e] at h1; cases h1
    · rw [List.getElem?_append_right (by simpa using hi), List.getElem?_replicate] at h1
      split at h1 <;> cases h1
section
variable {P : Program} {w : World} {K : PySem.W.Frag} {mg : Str → Option Value} {base : Heap} {k : Nat} {x : Str} {st : Stmt} {N ps : List Str} {ι : Type} {pre : ι → Prop} {args : ι → List Rep} {res : ι → Ret}
/-- a def that raises nothing -/
theorem cal_ok (T : TD K mg x st) (S : FnScope N ps (defScope st)) (hn : ∀ g, (args g).length = ps.length)
    (hb : ∀ (kV doc pm : Value) (an : Option Addr) (cdv ct : Value) (us : List Value), us.length = ps.length → bindArgs (PySem.W.fnOf x x (defArgs st) (defBody st) (defScope st) .none kV doc pm an cdv ct) ⟨us, []⟩ = pure (ps.zip us))
    (body : ∀ (X : Cx), X.prog = P → X.w = w → X.K = K → X.mg = mg → X.base = base → BX X N (defScope st) k → (∀ x : Str, X.fn x = true) → ∀ (g : ι) (F0 H0 : Hp) (D : Ends), pre g → RT F0 H0 (res g) D → (∀ σ H', D.nx σ H' = D.rt .non H') →
      GO X F0 H0 (defBody st) D ((args g).map Sl.im ++ List.replicate (N.length - ps.length) .any)) : Cal P w K mg base (k + 1) x (Pm pre args res) := by
  obtain ⟨f, fd, F, hm⟩ := T.ex
  refine ⟨f, fd, ps, ?_, hm, F.kp, F.binds hb⟩
  refine FnOk.wide (F.ok S (fun vs H Q E h => ?_) (fun cdv A outer s H vs Q E hr h => ?_))
  · obtain ⟨g, F1, _, _, h1, _⟩ := h
    rw [← h1.len, hn]
  · obtain ⟨g, F1, hp, hs, h1, q⟩ := h
    refine ⟨_, pss_ev, ?_⟩
    have hpl : ps.length ≤ N.length := by have := congrArg List.length S.pre; rw [List.length_take] at this; omega
    have en := en_start (N := N) hs h1 (by rw [hn]; exact hpl)
    rw [hn] at en
    exact body _ rfl rfl rfl rfl rfl ⟨rfl, rfl, S.nd, hr, rfl, PassesOwn.never⟩ (fun _ => rfl) g F1 H { nx := fun _ H' => Q .non H', rt := Q } hp q (fun _ _ => rfl) F1 H _ en
end
end DL

set_option Elab.async false
set_option linter.all false
set_option maxRecDepth 100000
set_option maxHeartbeats 4000000
namespace DL
open PySem PySem.Spec PyProof.Rows L2

/-! ### targets -/
def GV (X : Cx) (tg : Expr) (v : V) (σ : L2.St) (H : Hp) (Q : L2.St → Hp → Prop) : Prop := ∀ (pins : List (Addr × Obj)) (s : Shared) (u : Value), Inv X pins σ H s → RelV v u → wpAny (model X.prog X.w) X.A (assign tg X.env u) (fun _ s' => ∃ σ' H', Inv X pins σ' H' s' ∧ Q σ' H') X.xe s
theorem pg_ev {X : Cx} {tg : Expr} : PG X tg (GV X tg) := ⟨fun pins s σ H v u Q I r h => h pins s u I r⟩
theorem GV.of {X : Cx} {tg : Expr} {t : TG} {v : V} {σ : L2.St} {H : Hp} {Q : L2.St → Hp → Prop} (h : PG X tg t) (q : t v σ H Q) : GV X tg v σ H Q := fun pins s u I r => h.run pins s σ H v u Q I r q
def GVs (X : Cx) (ts : List Expr) (vs : List V) (σ : L2.St) (H : Hp) (Q : L2.St → Hp → Prop) : Prop := ∀ (pins : List (Addr × Obj)) (s : Shared) (us : List Value), Inv X pins σ H s → Vals vs us → wpAny (model X.prog X.w) X.A (assignInOrder ((assignEach ts X.env).map (·.2)) us) (fun _ s' => ∃ σ' H', Inv X pins σ' H' s' ∧ Q σ' H') X.xe s
/-- two states of the slots that part at ws alone -/
def Off (ws : List Nat) (σ σ' : L2.St) : Prop := ∀ us : List Nat, (∀ i ∈ ws, i ∈ us) → wipe σ' us = wipe σ us
theorem wipe_get : ∀ (us : List Nat) (σ : L2.St) (j : Nat), (wipe σ us)[j]? = if j ∈ us ∧ j < σ.length then some none else σ[j]?
  | [], σ, j => by simp [wipe]
  | u :: us, σ, j => by
    unfold wipe
    by_cases h : u = j
    · subst h
      by_cases hl : u < σ.length
      · rw [List.getElem?_set_self (by rw [wipe_length]; exact hl), if_pos ⟨List.mem_cons_self, hl⟩]
      · rw [List.getElem?_eq_none (by rw [List.length_set, wipe_length]; omega), if_neg (fun z => hl z.2), List.getElem?_eq_none (by omega)]
    · rw [List.getElem?_set_ne h, wipe_get us σ j]
      by_cases hm : j ∈ us ∧ j < σ.length
      · rw [if_pos hm, if_pos ⟨List.mem_cons_of_mem _ hm.1, hm.2⟩]
      · rw [if_neg hm, if_neg]
        rintro ⟨z, z2⟩
        rcases List.mem_cons.mp z with z | z
        · exact h z.symm
        · exact hm ⟨z, z2⟩
theorem off_set {σ : L2.St} {i : Nat} {x : Option V} : Off [i] σ (σ.set i x) := fun us h => by
  apply List.ext_getElem?
  intro j
  rw [wipe_get, wipe_get, List.length_set]
  by_cases hj : j ∈ us ∧ j < σ.length
  · rw [if_pos hj, if_pos hj]
  · rw [if_neg hj, if_neg hj]
    by_cases hi : i = j
    · subst hi
      have : ¬ i < σ.length := fun z => hj ⟨h i (by simp), z⟩
      rw [List.getElem?_eq_none (by simpa using this), List.getElem?_eq_none (by omega)]
    · rw [List.getElem?_set_ne hi]
theorem Off.trans {a b : List Nat} {σ σ1 σ2 : L2.St} (h : Off a σ σ1) (k : Off b σ1 σ2) : Off (a ++ b) σ σ2 := fun us z =>
  (k us fun i hi => z i (List.mem_append_right _ hi)).trans (h us fun i hi => z i (List.mem_append_left _ hi))
def DG (X : Cx) (Γ : List Sl) (tg : Expr) (r : Rep) (Γ' : List Sl) (ws : List Nat) : Prop := ∀ F0 H0 F H σ v, En F0 H0 F H σ Γ → r.P F v → ∀ Q : L2.St → Hp → Prop, (∀ F' H' σ', Gr F H F' H' → En F0 H0 F' H' σ' Γ' → Off ws σ σ' → Q σ' H') → GV X tg v σ H Q
def DGs (X : Cx) (Γ : List Sl) (ts : List Expr) (rs : List Rep) (Γ' : List Sl) (ws : List Nat) : Prop := ∀ F0 H0 F H σ vs, En F0 H0 F H σ Γ → RL F rs vs → ∀ Q : L2.St → Hp → Prop, (∀ F' H' σ', Gr F H F' H' → En F0 H0 F' H' σ' Γ' → Off ws σ σ' → Q σ' H') → GVs X ts vs σ H Q
section
variable {X : Cx} {N : List Str} {sc : Scope} {k j : Nat} {Γ Γ' Γ1 : List Sl} {a b c e : Expr} {es rest : List Expr} {r ra rb rc r' : Rep} {rs l : List Rep} {pos p : Pos} {x : Str} {i : Nat} {ws ws' : List Nat}
theorem dg_name (B : BX X N sc k) (hN : N[i]? = some x) (hx : LocX X sc x) : DG X Γ (.Name x pos) r (Γ.set i (.im r)) [i] := fun F0 H0 F H σ v en hv Q q => by
  have hf : X.fn x = true ∨ X.env.scope.names.lookup x = some .local := by
    rcases hx with hx | hx
    · exact .inr (by rw [B.hsc]; exact hx)
    · exact .inl hx.2
  have hx : Loc sc x := hx.elim .inl fun z => .inr z.1
  exact .of (pg_name (i := i) (by rw [B.hN]; exact B.nd) (by rw [B.hN]; exact hN) (by rw [B.hsc]; exact hx) hf) (q F H _ (.refl en.gr.s) (en.setIm hv) off_set)
theorem dgs_nil : DGs X Γ [] [] Γ [] := fun F0 H0 F H σ vs en hv Q q pins s us I r => by
  cases hv
  cases r
  exact assignInOrder_nil ⟨σ, H, I, q F H σ (.refl en.gr.s) en fun _ _ => rfl⟩
theorem dgs_cons (h1 : DG X Γ e r Γ1 ws) (h2 : DGs X Γ1 es rs Γ' ws') (hs : (assignEach (e :: es) X.env).map (·.2) = assign e X.env :: (assignEach es X.env).map (·.2) := by rfl) : DGs X Γ (e :: es) (r :: rs) Γ' (ws ++ ws') := fun F0 H0 F H σ vs en hv Q q pins s us I rr => by
  cases hv with
  | cons v1 vt =>
    cases rr with
    | cons r1 rt =>
      rw [hs]
      refine assignInOrder_cons (thn (h1 F0 H0 F H σ _ en v1 (fun σ1 H1 => ∃ F1, Gr F H F1 H1 ∧ En F0 H0 F1 H1 σ1 Γ1 ∧ Off ws σ σ1) (fun F' H' σ' g en' o => ⟨F', g, en', o⟩) pins s _ I r1) fun _ s1 ⟨σ1, H1, I1, F1, g1, en1, o1⟩ => ?_)
      exact h2 F0 H0 F1 H1 σ1 _ en1 (RL.mono g1.f vt) Q (fun F' H' σ' g en' o => q F' H' σ' (g1.trans g) en' (o1.trans o)) pins s1 _ I1 rt
theorem dg_tup {n : Nat} (B : BX X N sc k) (h : DGs X Γ es rs Γ' ws) (hn : (assignEach es X.env).length = n := by rfl) (hl : rs.length = n := by rfl) (hst : (assignEach es X.env).findIdx? (·.1) = none := by rfl) : DG X Γ (.Tuple es j pos) (rTup X.K rs) Γ' ws := fun F0 H0 F H σ v en hv Q q => by
  obtain ⟨p, vs, rfl, h1, h2⟩ := hv
  refine .of (pg_tup (n := n) (t := GVs X es) B.calm ⟨fun pins s σ H vs us Q I r h => h pins s us I r⟩ hn hst) ?_
  exact ⟨p, vs, rfl, sqt_mono en.gr.s h1, by rw [← h2.len]; exact hl, h F0 H0 F H σ vs en h2 Q q⟩
end
/-! ### what a for or a comprehension walks -/
def IV (X : Cx) (tg it : Expr) (σ : L2.St) (H : Hp) (R : It → Hp → Prop) : Prop := ∀ (pins : List (Addr × Obj)) (s : Shared), Inv X pins σ H s → wpAny (model X.prog X.w) X.A (eval it X.env) (fun v s1 => wpAny (model X.prog X.w) X.A (pyIter v) (PIE X pins σ tg R) X.xe s1) X.xe s
theorem pi_ev {X : Cx} {tg it : Expr} : PI X tg it (IV X tg it) := ⟨fun pins s σ H R I h => h pins s I⟩
theorem IV.of {X : Cx} {tg it : Expr} {wi : TI} {σ : L2.St} {H : Hp} {R : It → Hp → Prop} (h : PI X tg it wi) (q : wi σ H R) : IV X tg it σ H R := fun pins s I => h.run pins s σ H R I q
/-- n turns, the i-th brings what is worth rr i -/
structure Wk (J : It) (F1 H1 : Hp) (n : Nat) (rr : Nat → Rep) : Prop where
  stop : ∀ i H, Same F1 H → n ≤ i → J.stop i H
  go : ∀ i H, Same F1 H → i < n → J.go i H
  yld : ∀ i F H x H', Same F1 F → Same F H → i < n → J.yld i H x H' → ∃ F', Gr F H F' H' ∧ (rr i).P F' x
def SR (X : Cx) (Γ : List Sl) (tg it : Expr) (n : Nat) (rr : Nat → Rep) : Prop := ∀ F0 H0 F H σ, En F0 H0 F H σ Γ → ∀ R : It → Hp → Prop, (∀ J F1 H1, Gr F H F1 H1 → Wk J F1 H1 n rr → R J H1) → IV X tg it σ H R
section
variable {X : Cx} {N : List Str} {sc : Scope} {k j : Nat} {Γ Γ' Γ1 : List Sl} {tg it it2 a b c e : Expr} {es rest : List Expr} {r ra rb rc r' : Rep} {rs l l2 : List Rep} {pos p : Pos} {x : Str} {i : Nat} {ws ws' : List Nat}
theorem sr_list (h : DE X Γ it (rLst X.K l)) : SR X Γ tg it l.length (fun i => l.getD i rNon) := fun F0 H0 F H σ en R q =>
  .of (pi_list pe_ev) (h F0 H0 F H σ en _ fun v F1 H1 g hv => by
    obtain ⟨p, vs, rfl, hs, hl⟩ := hv
    refine ⟨p, rfl, ⟨vs, g.s.seq hs⟩, q _ F1 H1 g ⟨fun i H2 s hi => ⟨vs, s.seq hs, by rw [← hl.len]; exact hi⟩, fun i H2 s hi => ?_, fun i F2 H2 x H' s s2 hi hy => ?_⟩⟩
    · have hi' : i < vs.length := hl.len ▸ hi
      exact ⟨vs, vs[i], s.seq hs, List.getElem?_eq_getElem hi'⟩
    · obtain ⟨rfl, hx⟩ := hy
      have hx' := hx vs (s2.seq (s.seq hs))
      obtain ⟨r, e, hr⟩ := hl.got hx'
      refine ⟨F2, .refl s2, ?_⟩
      show (l.getD i rNon).P F2 x
      rw [List.getD_eq_getElem?_getD, e]
      exact r.mono s hr)
theorem sr_range1 {n : Int} (B : BX X N sc k) (hm : X.mg "range" = none) (h : DE X Γ a (rInt n)) (hg : sc.names.lookup ("range" : Str) = some NameKind.globalImplicit) (hb : n < 2 ^ 62) (hb2 : -(2 ^ 62) ≤ n) (hs : starEach [a] X.env = [(false, eval a X.env)] := by rfl) :
    SR X Γ tg (.Call (.Name "range" p) [a] [] pos) n.toNat (fun i => rInt (i : Nat)) := fun F0 H0 F H σ en R q => by
  have hgl : Gl X "range" := by
    show X.env.scope.names.lookup _ = _
    rw [B.hsc]
    exact hg
  refine .of (pi_range1 hgl hm (pa_cons pe_ev pa_nil hs) hs) (h F0 H0 F H σ en _ fun v F1 H1 g hv => ?_)
  cases hv
  refine ⟨n, rfl, hb2, hb, q _ F1 H1 g ⟨fun i H2 s hi => hi, fun i H2 s hi => hi, fun i F2 H2 x H' s s2 hi hy => ?_⟩⟩
  obtain ⟨rfl, rfl⟩ := hy
  exact ⟨F2, .refl s2, by show V.int _ = V.int _; rw [Int.zero_add]⟩
theorem sr_zip {jj : Nat} {tpos : Pos} (B : BX X N sc k) (hm : X.mg "zip" = none) (h : DE X Γ it (rLst X.K l)) (h2 : DE X Γ it2 (rLst X.K l2)) (hg : sc.names.lookup ("zip" : Str) = some NameKind.globalImplicit)
    (hs : starEach [it, it2] X.env = (false, eval it X.env) :: starEach [it2] X.env := by rfl) (hs2 : starEach [it2] X.env = (false, eval it2 X.env) :: starEach [] X.env := by rfl) (hpl : (backTo pos (starEach [it2] X.env)).any (·.1) = false := by rfl) :
    SR X Γ (.Tuple es jj tpos) (.Call (.Name "zip" p) [it, it2] [] pos) (min l.length l2.length) (fun i => rTup X.K [l.getD i rNon, l2.getD i rNon]) := fun F0 H0 F H σ en R q => by
  have hgl : Gl X "zip" := by
    show X.env.scope.names.lookup _ = _
    rw [B.hsc]
    exact hg
  refine .of (pi_zip hgl hm (pa_cons pe_ev (pa_cons pe_ev pa_nil hs2) hs) hs hpl) (h F0 H0 F H σ en _ fun v F1 H1 g hv => h2 F0 H0 F1 H1 σ (en.grow g) _ fun v2 F3 H3 g3 hv2 => ?_)
  obtain ⟨p, vs, rfl, hsq, hl⟩ := hv
  obtain ⟨p2, vs2, rfl, hsq2, hl2⟩ := hv2
  have hsq := g3.f.seq hsq
  have hl := hl.mono g3.f
  refine ⟨p, p2, vs, vs2, rfl, g3.s.seq hsq, g3.s.seq hsq2, q _ F3 H3 (g.trans g3) ⟨fun i H2 s hi => ⟨vs, vs2, s.seq hsq, s.seq hsq2, ?_⟩, fun i H2 s hi => ?_, fun i F2 H2 x H' s s2 hi hy => ?_⟩⟩
  · rw [← hl.len, ← hl2.len]
    omega
  · have h3 := hl.len
    have h4 := hl2.len
    have i1 : i < vs.length := by omega
    have i2 : i < vs2.length := by omega
    exact ⟨vs, vs2, vs[i], vs2[i], s.seq hsq, s.seq hsq2, List.getElem?_eq_getElem i1, List.getElem?_eq_getElem i2⟩
  · obtain ⟨T, y, z, rfl, nT, rfl, f1, f2⟩ := hy
    obtain ⟨r1, e1, k1⟩ := hl.got (f1 vs (s2.seq (s.seq hsq)))
    obtain ⟨r2, e2, k2⟩ := hl2.got (f2 vs2 (s2.seq (s.seq hsq2)))
    refine ⟨_, .new s2 nT, T, [y, z], rfl, SqT.of upd_same, ?_⟩
    have sn : Same F2 (upd F2 T (.tup [y, z])) := same_new (s2.free nT)
    rw [List.getD_eq_getElem?_getD, List.getD_eq_getElem?_getD, e1, e2]
    exact .cons (r1.mono (s.trans sn) k1) (.cons (r2.mono (s.trans sn) k2) .nil)
theorem sr_enum {jj : Nat} {tpos : Pos} (B : BX X N sc k) (hm : X.mg "enumerate" = none) (h : DE X Γ it (rLst X.K l)) (hg : sc.names.lookup ("enumerate" : Str) = some NameKind.globalImplicit) (hs : starEach [it] X.env = [(false, eval it X.env)] := by rfl) :
    SR X Γ (.Tuple es jj tpos) (.Call (.Name "enumerate" p) [it] [] pos) l.length (fun i => rTup X.K [rInt (i : Nat), l.getD i rNon]) := fun F0 H0 F H σ en R q => by
  have hgl : Gl X "enumerate" := by
    show X.env.scope.names.lookup _ = _
    rw [B.hsc]
    exact hg
  refine .of (pi_enum hgl hm (pa_cons pe_ev pa_nil hs) hs) (h F0 H0 F H σ en _ fun v F1 H1 g hv => ?_)
  obtain ⟨p, vs, rfl, hsq, hl⟩ := hv
  refine ⟨p, vs, rfl, g.s.seq hsq, q _ F1 H1 g ⟨fun i H2 s hi => ⟨vs, s.seq hsq, ?_⟩, fun i H2 s hi => ?_, fun i F2 H2 x H' s s2 hi hy => ?_⟩⟩
  · rw [← hl.len]
    exact hi
  · have i1 : i < vs.length := hl.len ▸ hi
    exact ⟨vs, vs[i], s.seq hsq, List.getElem?_eq_getElem i1⟩
  · obtain ⟨T, y, rfl, nT, rfl, f1⟩ := hy
    obtain ⟨r1, e1, k1⟩ := hl.got (f1 vs (s2.seq (s.seq hsq)))
    refine ⟨_, .new s2 nT, T, _, rfl, SqT.of upd_same, ?_⟩
    have sn : Same F2 (upd F2 T (.tup [.int (i : Nat), y])) := same_new (s2.free nT)
    rw [List.getD_eq_getElem?_getD, e1]
    exact .cons rfl (.cons (r1.mono (s.trans sn) k1) .nil)

/-! ### for -/
structure Up (F0 F1 H0 : Hp) : Prop where
  up : ∀ F H, Gr F1 H0 F H → Gr F0 H0 F H
variable {F0 H0 F1 F H : Hp} {σ : L2.St} {st body : List Stmt} {D : Ends} {n : Nat} {rr : Nat → Rep}
theorem Up.en (u : Up F0 F1 H0) (en : En F1 H0 F H σ Γ) : En F0 H0 F H σ Γ := ⟨u.up _ _ en.gr, en.len, en.ok, en.own, en.sep⟩
theorem Up.rt {ret : Ret} (u : Up F0 F1 H0) (h : RT F0 H0 ret D) : RT F1 H0 ret D := fun v F' H' g hv => h v F' H' (u.up _ _ g) (by
  cases ret with
  | val r => exact hv
  | lst l => exact hv
  | tfr K l rs => exact hv)
/-- what is wanted behind a turn -/
def LN (F1 H0 : Hp) (Iv : Nat → List Sl → Prop) (j : Nat) : L2.St → Hp → Prop := fun σ H => ∃ F Γ, En F1 H0 F H σ Γ ∧ Iv j Γ
theorem go_brk (u : Up F0 F1 H0) {D0 : Ends} (h : GO X F0 H0 body D0 Γ) (e : D.bk = XS X body D0 := by rfl) : GO X F1 H0 (.Break pos :: st) D Γ := go_break fun F H σ en => by rw [e]; exact h F H σ (u.en en)
theorem go_for {ws : List Nat} (B : BX X N sc k) (Iv : Nat → List Sl → Prop) (hi : SR X Γ tg it n rr) {Γ0 : List Sl} (hle : SlLe Γ Γ0) (h0 : Iv 0 Γ0) (G1 : Nat → List Sl → List Sl)
    (hg : ∀ i Γ', i < n → Iv i Γ' → DG X Γ' tg (rr i) (G1 i Γ') ws)
    (hb : ∀ F1, Up F0 F1 H0 → ∀ i Γ', i < n → Iv i Γ' → GO X F1 H0 body { D with nx := LN F1 H0 Iv (i + 1), ct := LN F1 H0 Iv (i + 1), bk := XS X st D } (G1 i Γ'))
    (he : ∀ Γ', Iv n Γ' → GO X F0 H0 st D Γ') (hs : ∀ x, foldedSetIterable it X.env x = pure x := by intro _; rfl) : GO X F0 H0 (.For tg it body [] pos :: st) D Γ := fun F H σ en => by
  refine .of (pss_cons (ps_for B.own B.calm pi_ev pg_ev pss_ev hs) pss_ev) ?_
  refine hi F0 H0 F H σ en _ fun J F1 H1 g wk => ?_
  have en1 := en.grow g
  have u : Up F0 F1 H0 := ⟨fun F2 H2 g2 => ⟨en1.gr.f.trans g2.f, g2.h, g2.s, fun a ha z => g2.n a ha (en1.gr.n a ha z)⟩⟩
  have start : En F1 H0 F1 H1 σ Γ := ⟨⟨Same.refl _, en1.gr.h, g.s, fun _ _ z => z⟩, en1.len, en1.ok, en1.own, en1.sep⟩
  refine ⟨fun i m σ H => m = n - i ∧ i ≤ n ∧ LN F1 H0 Iv i σ H, ⟨n, by simp, Nat.zero_le _, F1, Γ0, start.le hle, h0⟩, fun i m σ2 H2 hw => ?_⟩
  obtain ⟨rfl, hle, F2, Γ2, en2, iv⟩ := hw
  have s2 : Same F1 H2 := en2.gr.f.trans en2.gr.s
  by_cases hlt : i < n
  · refine .inr ⟨wk.go i H2 s2 hlt, LN F1 H0 Iv (i + 1), fun σ' H' h => ⟨n - (i + 1), by omega, rfl, hlt, h⟩, fun x H' hy => ?_⟩
    obtain ⟨F3, g3, hx⟩ := wk.yld i F2 H2 x H' en2.gr.f en2.gr.s hlt hy
    exact hg i Γ2 hlt iv F1 H0 F3 H' σ2 x (en2.grow g3) hx _ fun F4 H4 σ4 g4 en4 _ => hb F1 u i Γ2 hlt iv F4 H4 σ4 en4
  · have e : i = n := by omega
    subst e
    exact .inl ⟨wk.stop i H2 s2 (Nat.le_refl _), he Γ2 iv F2 H2 σ2 (u.en en2)⟩
/-- a, b = e -/
theorem go_asg {ws : List Nat} (he : DE X Γ e r) (hg : DG X Γ tg r Γ' ws) (h : GO X F0 H0 st D Γ') (hs : swapsWithSole [tg] e pos.line X.env = pure false := by rfl) (hw : swappedStores [tg] e X.env = pure none := by rfl)
    (h1 : (assignEach [tg] X.env).map (·.2) = [assign tg X.env] := by rfl) : GO X F0 H0 (.Assign [tg] e pos :: st) D Γ := fun F H σ en => by
  refine .of (pss_cons (ps_asg pe_ev pg_ev hs hw h1) pss_ev) ?_
  exact he F0 H0 F H σ en _ fun v F1 H1 g hv => hg F0 H0 F1 H1 σ v (en.grow g) hv _ fun F2 H2 σ2 g2 en2 _ => h F2 H2 σ2 en2
/-- a, b = x, y -/
theorem go_par {i j : Nat} {y : Str} {px py pt : Pos} {kt k2 : Nat} {pt2 : Pos} (B : BX X N sc k) (ha : DE X Γ a ra) (hb : DE X Γ b rb) (hi : N[i]? = some x) (hj : N[j]? = some y) (hij : i ≠ j) (hx : sc.names.lookup x = some .local) (hy : sc.names.lookup y = some .local)
    (h : GO X F0 H0 st D ((Γ.set i (.im ra)).set j (.im rb))) (hw : ∀ env : Env, env.scope = sc → swappedStores [.Tuple [.Name x px, .Name y py] kt pt] (.Tuple [a, b] k2 pt2) env = pure (some [x, y]))
    (hs : swapsWithSole [.Tuple [.Name x px, .Name y py] kt pt] (.Tuple [a, b] k2 pt2) pos.line X.env = pure false := by rfl)
    (hs1 : starEach [a, b] X.env = (false, eval a X.env) :: starEach [b] X.env := by rfl) (hs2 : starEach [b] X.env = (false, eval b X.env) :: starEach [] X.env := by rfl) :
    GO X F0 H0 (.Assign [.Tuple [.Name x px, .Name y py] kt pt] (.Tuple [a, b] k2 pt2) pos :: st) D Γ := fun F H σ en => by
  refine .of (pss_cons (ps_par (i := i) (j := j) B.calm (by rw [B.hN]; exact B.nd) (by rw [B.hN]; exact hi) (by rw [B.hN]; exact hj) hij (by rw [B.hsc]; exact hx) (by rw [B.hsc]; exact hy) (pa_cons pe_ev (pa_cons pe_ev pa_nil hs2) hs1) (hw X.env B.hsc) hs) pss_ev) ?_
  exact ha F0 H0 F H σ en _ fun v F1 H1 g1 h1 => hb F0 H0 F1 H1 σ (en.grow g1) _ fun u F2 H2 g2 h2 => ⟨v, u, rfl, h F2 H2 _ (((en.grow g1).grow g2).setIm (ra.mono g2.f h1) |>.setIm h2)⟩
end
end DL

set_option Elab.async false
set_option linter.all false
set_option maxRecDepth 100000
set_option maxHeartbeats 4000000
namespace DL
open PySem PySem.Spec PyProof.Rows L2
theorem RL.atI {F : Hp} {l : List Rep} {vs : List V} {i : Int} {r : Rep} (h : RL F l vs) (e : L2.atI l i = some r) : ∃ v, L2.atI vs i = some v ∧ r.P F v := by
  unfold L2.atI at e ⊢
  rw [h.len] at e
  cases q : ixN vs.length i with
  | none => rw [q] at e; cases e
  | some j =>
    rw [q] at e
    exact h.get e
def cutR {α : Type} (xs : List α) (lo hi : Option Int) : List α := (xs.drop (HT.sIx xs.length 0 lo)).take (HT.sIx xs.length xs.length hi - HT.sIx xs.length 0 lo)
theorem RL.cut {F : Hp} {l : List Rep} {vs : List V} {lo hi : Option Int} (h : RL F l vs) : RL F (cutR l lo hi) (cutV vs lo hi) := by
  unfold cutR cutV
  rw [h.len]
  exact (h.drop _).take _
theorem cutR_map {α β : Type} (f : α → β) (xs : List α) (lo hi : Option Int) : cutR (xs.map f) lo hi = (cutR xs lo hi).map f := by
  unfold cutR
  rw [List.length_map, List.map_take, List.map_drop]
theorem cutR_to {α : Type} (xs : List α) (n : Nat) : cutR xs none (some (n : Int)) = xs.take n := by
  unfold cutR
  rw [HT.sIx_none, HT.sIx_nat, List.drop_zero, Nat.sub_zero]
  by_cases h : n ≤ xs.length
  · rw [Nat.min_eq_left h]
  · rw [Nat.min_eq_right (by omega), List.take_of_length_le (Nat.le_refl _), List.take_of_length_le (by omega)]
theorem cutR_from {α : Type} (xs : List α) (n : Nat) : cutR xs (some (n : Int)) none = xs.drop n := by
  unfold cutR
  rw [HT.sIx_none, HT.sIx_nat]
  by_cases h : n ≤ xs.length
  · rw [Nat.min_eq_left h, List.take_of_length_le (by rw [List.length_drop]; omega)]
  · rw [Nat.min_eq_right (by omega), Nat.sub_self, List.take_zero, List.drop_eq_nil_of_le (by omega)]
section
variable {X : Cx} {N : List Str} {sc : Scope} {k j : Nat} {Γ Γ' Γ1 : List Sl} {tg it a b c e : Expr} {es rest : List Expr} {r ra rb rc r' : Rep} {rs l l2 : List Rep} {pos p p2 : Pos} {x : Str} {i : Nat} {ws ws' : List Nat} {F0 H0 F1 F H : Hp} {σ : L2.St} {st body : List Stmt} {D : Ends}
/-! places -/
theorem de_ixr {r2 : R2} (hr : IxR X r2) (h2 : B2 r2 ra rb rc) (ha : DE X Γ a ra) (hb : DE X Γ b rb) (hs : PlainIx b := by exact fun _ _ => rfl) : DE X Γ (.Subscript a b pos) rc := fun F0 H0 F H σ en Q q =>
  .of (pe_ix hr pe_ev pe_ev hs) (two ha hb h2 en q)
theorem de_ixL {n : Int} (h : atI l n = some r) (ha : DE X Γ a (rLst X.K l)) (hb : DE X Γ b (rInt n)) (hs : PlainIx b := by exact fun _ _ => rfl) : DE X Γ (.Subscript a b pos) r :=
  de_ixr ix_list (fun F H x y s h1 h2 Q q => by
    obtain ⟨p, vs, rfl, k1, k2⟩ := h1
    cases h2
    obtain ⟨v, k3, k4⟩ := k2.atI h
    exact ⟨p, vs, n, v, rfl, rfl, s.seq k1, k3, q v F H (.refl s) k4⟩) ha hb hs
theorem de_ixT {n : Int} (h : atI l n = some r) (ha : DE X Γ a (rTup X.K l)) (hb : DE X Γ b (rInt n)) (hs : PlainIx b := by exact fun _ _ => rfl) : DE X Γ (.Subscript a b pos) r :=
  de_ixr ix_tup (fun F H x y s h1 h2 Q q => by
    obtain ⟨p, vs, rfl, k1, k2⟩ := h1
    cases h2
    obtain ⟨v, k3, k4⟩ := k2.atI h
    exact ⟨p, vs, n, v, rfl, rfl, sqt_mono s k1, k3, q v F H (.refl s) k4⟩) ha hb hs
/-- an item of a list of one's own -/
theorem de_ixO {n : Int} (B : BX X N sc k) (h : atI l n = some r) (hΓ : Γ[i]? = some (.ow l)) (hN : N[i]? = some x) (hv : Vis sc x) (hb : DE X Γ b (rInt n)) (hs : PlainIx b := by exact fun _ _ => rfl) (hd : (x == ("__debug__" : Str)) = false := by decide) (hcd : (x == ("__classdict__" : Str)) = false := by decide) :
    DE X Γ (.Subscript (.Name x p) b pos) r := fun F0 H0 F H σ en Q q => by
  obtain ⟨p, vs, h1, h2, h3, h4, h5⟩ := en.ow hΓ
  refine .of (pe_ix ix_list (pe_var (i := i) (B.hN ▸ hN) (B.hsc ▸ hv) hd hcd) pe_ev hs) ⟨_, h1, hb F0 H0 F H σ en _ fun v F' H' g hv => ?_⟩
  cases hv
  obtain ⟨v, k3, k4⟩ := h4.atI h
  exact ⟨p, vs, n, v, rfl, rfl, SqL.of (g.h _ _ h3), k3, q v F' H' g (r.mono g.f k4)⟩
/-- x[i] = e, x a list of one's own -/
theorem go_put {n : Int} {jj : Nat} {tpos : Pos} (B : BX X N sc k) (he : DE X Γ e r) (hb : DE X Γ b (rInt n)) (hj : ixN l.length n = some jj) (hΓ : Γ[i]? = some (.ow l)) (hN : N[i]? = some x) (hv : Vis sc x) (h : GO X F0 H0 st D (Γ.set i (.ow (l.set jj r))))
    (hd : (x == ("__debug__" : Str)) = false := by decide) (hcd : (x == ("__classdict__" : Str)) = false := by decide)
    (ha : ∀ v, assign (.Subscript (.Name x p) b tpos) X.env v = (do
      let ov ← holding [v] (eval (.Name x p) X.env)
      let iv ← holding [v, ov] (eval b X.env)
      standAt tpos
      holding [v, ov, iv] (setItem ov iv v)
      release [v, ov, iv] []) := by intro _; rfl)
    (hs : swapsWithSole [.Subscript (.Name x p) b tpos] e pos.line X.env = pure false := by rfl) (hw : swappedStores [.Subscript (.Name x p) b tpos] e X.env = pure none := by rfl)
    (h1 : (assignEach [.Subscript (.Name x p) b tpos] X.env).map (·.2) = [assign (.Subscript (.Name x p) b tpos) X.env] := by rfl) :
    GO X F0 H0 (.Assign [.Subscript (.Name x p) b tpos] e pos :: st) D Γ := fun F H σ en => by
  refine .of (pss_cons (ps_asg pe_ev (pg_sub (pe_var (i := i) (B.hN ▸ hN) (B.hsc ▸ hv) hd hcd) pe_ev set_list ha) hs hw h1) pss_ev) ?_
  refine he F0 H0 F H σ en _ fun v F1 H1 g1 hv1 => ?_
  have en1 := en.grow g1
  obtain ⟨q, vs, k1, k2, k3, k4, k5⟩ := en1.ow hΓ
  refine ⟨_, k1, hb F0 H0 F1 H1 σ en1 _ fun v2 F2 H2 g2 hv2 => ?_⟩
  cases hv2
  have en2 := en1.grow g2
  refine ⟨q, vs, n, jj, rfl, rfl, g2.h _ _ k3, by rw [← k4.len]; exact hj, ?_⟩
  exact h F2 _ σ (en2.put hΓ k1 ((k4.mono g2.f).set (r.mono g2.f hv1) jj))
/-! lengths -/
theorem cb_lenL : CB (fun xs H Q => ∃ p ys, xs = [V.ref p] ∧ (SqL X.K H p ys ∨ SqT X.K H p ys) ∧ Q (.int ys.length) H) [rLst X.K l] (rInt l.length) := fun F H vs s h Q q => by
  obtain ⟨v, rfl, p, ys, rfl, k1, k2⟩ := rl1 h
  exact ⟨p, ys, rfl, .inl (s.seq k1), q _ F H (.refl s) (by rw [k2.len]; rfl)⟩
theorem cb_lenT : CB (fun xs H Q => ∃ p ys, xs = [V.ref p] ∧ (SqL X.K H p ys ∨ SqT X.K H p ys) ∧ Q (.int ys.length) H) [rTup X.K l] (rInt l.length) := fun F H vs s h Q q => by
  obtain ⟨v, rfl, p, ys, rfl, k1, k2⟩ := rl1 h
  exact ⟨p, ys, rfl, .inr (sqt_mono s k1), q _ F H (.refl s) (by rw [k2.len]; rfl)⟩
theorem de_lenL (B : BX X N sc k) (hm : X.mg "len" = none) (h : DE X Γ e (rLst X.K l)) (hg : sc.names.lookup ("len" : Str) = some NameKind.globalImplicit) (he : starEach (e :: []) X.env = (false, eval e X.env) :: starEach [] X.env := by rfl) : DE X Γ (.Call (.Name "len" p) [e] [] pos) (rInt l.length) :=
  de_blt B call_len_seq cb_lenL hm PySem.boot_len (da_cons h da_nil he) hg (he := he)
theorem de_lenT (B : BX X N sc k) (hm : X.mg "len" = none) (h : DE X Γ e (rTup X.K l)) (hg : sc.names.lookup ("len" : Str) = some NameKind.globalImplicit) (he : starEach (e :: []) X.env = (false, eval e X.env) :: starEach [] X.env := by rfl) : DE X Γ (.Call (.Name "len" p) [e] [] pos) (rInt l.length) :=
  de_blt B call_len_seq cb_lenT hm PySem.boot_len (da_cons h da_nil he) hg (he := he)
/-! list(xs), xs[a:b]: new lists -/
theorem dl_list (B : BX X N sc k) (hm : X.mg "list" = none) (h : DE X Γ e (rLst X.K l)) (hg : sc.names.lookup ("list" : Str) = some NameKind.globalImplicit) (he : starEach (e :: []) X.env = (false, eval e X.env) :: starEach [] X.env := by rfl) : DL X Γ (.Call (.Name "list" p) [e] [] pos) l := fun F0 H0 F H σ en Q q => by
  have hgl : Gl X "list" := by
    show X.env.scope.names.lookup _ = _
    rw [B.hsc]
    exact hg
  refine .of (pe_callTy call_list_of hgl hm (by decide +kernel) (pa_cons pe_ev pa_nil he) (he := he)) (h F0 H0 F H σ en _ fun v F1 H1 g hv => ?_)
  obtain ⟨p, vs, rfl, k1, k2⟩ := hv
  exact ⟨p, vs, rfl, .inl (g.s.seq k1), fun q' hq => q q' vs F1 _ (g.trans (.newOwn g.s hq)) (g.h.free hq) (g.s.free hq) upd_same k2⟩
def DO (X : Cx) (Γ : List Sl) (e : Option Expr) (o : Option Int) : Prop := match e, o with
  | none, none => True
  | some e, some n => DE X Γ e (rInt n)
  | _, _ => False
theorem dl_slice {lo hi : Option Expr} {ol oh : Option Int} (h : DE X Γ e (rLst X.K l)) (h1 : DO X Γ lo ol) (h2 : DO X Γ hi oh) : DL X Γ (.Subscript e (.Slice lo hi none p2) pos) (cutR l ol oh) := fun F0 H0 F H σ en Q q => by
  have part : ∀ {o : Option Expr} {w : Option Int}, DO X Γ o w → ∃ t, PO X o t ∧ ∀ F H, En F0 H0 F H σ Γ → ∀ R : Option Int → Hp → Prop, (∀ F' H', Gr F H F' H' → R w H') → t σ H R := fun {o w} hd => by
    match o, w, hd with
    | none, none, _ => exact ⟨_, po_none, fun F H en R q => q F H (.refl en.gr.s)⟩
    | some e, some n, hd => exact ⟨_, po_some pe_ev, fun F H en R q => hd F0 H0 F H σ en _ fun v F' H' g hv => ⟨n, hv, q F' H' g⟩⟩
    | none, some _, hd => exact hd.elim
    | some _, none, hd => exact hd.elim
  obtain ⟨t1, q1, w1⟩ := part h1
  obtain ⟨t2, q2, w2⟩ := part h2
  refine .of (pe_slice sl_list pe_ev q1 q2) (h F0 H0 F H σ en _ fun v F1 H1 g hv => w1 F1 H1 (en.grow g) _ fun F2 H2 g2 => w2 F2 H2 ((en.grow g).grow g2) _ fun F3 H3 g3 => ?_)
  obtain ⟨p, vs, rfl, k1, k2⟩ := hv
  have gg := (g.trans g2).trans g3
  exact ⟨p, vs, rfl, g3.s.seq ((g2.f.trans g3.f).seq k1), fun q' hq => q q' _ F3 _ (gg.trans (.newOwn gg.s hq)) (gg.h.free hq) (gg.s.free hq) upd_same (k2.cut.mono (g2.f.trans g3.f))⟩
theorem dl_cat (ha : DL X Γ a l) (hb : DL X Γ b l2) (hl : l.length + l2.length ≤ sizeLine) : DL X Γ (.BinOp a .Add b pos) (l ++ l2) := fun F0 H0 F H σ en Q q =>
  .of (pe_op op_cat pe_ev pe_ev) (ha F0 H0 F H σ en _ fun p1 vs1 F1 H1 g1 a1 a2 a3 a4 => hb F0 H0 F1 H1 σ (en.grow g1) _ fun p2 vs2 F2 H2 g2 b1 b2 b3 b4 =>
    ⟨p1, p2, vs1, vs2, rfl, rfl, g2.h _ _ a3, b3, by rw [← a4.len, ← b4.len]; exact hl, fun q' hq => q q' _ F2 _ ((g1.trans g2).trans (.newOwn g2.s hq)) ((g1.trans g2).h.free hq) (g2.s.free hq) upd_same ((a4.mono g2.f).app b4)⟩)
/-! kinds -/
def RTy (K : PySem.W.Frag) (r : Rep) (t : Value) : Prop := ∀ F H v, Same F H → r.P F v → TyX K H v t
theorem rty_int {K : PySem.W.Frag} {n : Int} : RTy K (rInt n) (.type "int") := fun F H v s h => by cases h; exact .base (.int n)
theorem rty_tup {K : PySem.W.Frag} : RTy K (rTup K l) (.type "tuple") := fun F H v s h => by
  obtain ⟨p, vs, rfl, h1, h2⟩ := h
  rcases sqt_mono s h1 with (h | ⟨o, h⟩) | h
  · exact .base (.tup h)
  · exact .fTuple h
  · obtain ⟨_, _, _, hk, hc, _⟩ := h
    exact .kTuple hk hc
theorem rty_lst {K : PySem.W.Frag} : RTy K (rLst K l) (.type "list") := fun F H v s h => by
  obtain ⟨p, vs, rfl, h1, h2⟩ := h
  rcases s.seq h1 with (h | ⟨o, h⟩) | h
  · exact .base (.lst h)
  · exact .base (.frz h)
  · obtain ⟨_, _, _, hk, hc, _⟩ := h
    exact .kList hk hc
theorem cb_isi {t : Value} {T : String} {u : Bool} (h : RTy X.K r t) (hk : PySem.W.kitOne X.K t (.type T) = some u) : CB (rIsi X.K) [r, rC (.ty T)] (rBl u) := fun F H vs s hv Q q => by
  obtain ⟨v, w, rfl, h1, h2⟩ := rl2 hv
  cases h2
  exact ⟨v, .ty T, t, .type T, u, rfl, .ty T, h F H v s h1, hk, q _ F H (.refl s) rfl⟩
theorem de_ty {T : String} (B : BX X N sc k) (hm : X.mg x = none) (hv : bootBuiltins x = some (.type T)) (hg : sc.names.lookup x = some .globalImplicit) (hn : x ≠ "__name__" := by decide) (hdb : (x == ("__debug__" : Str)) = false := by decide) : DE X Γ (.Name x pos) (rC (.ty T)) := fun F0 H0 F H σ en Q q => by
  have hgl : Gl X x := by
    show X.env.scope.names.lookup x = _
    rw [B.hsc]
    exact hg
  exact .of (pe_bltn (v := .ty T) hgl hm hv rfl hn hdb) (q _ F H (.refl en.gr.s) rfl)
theorem de_isi {t : Value} {T : String} {u : Bool} (B : BX X N sc k) (hm : X.mg "isinstance" = none) (h : RTy X.K r t) (hk : PySem.W.kitOne X.K t (.type T) = some u) (ha : DE X Γ a r) (hb : DE X Γ b (rC (.ty T))) (hg : sc.names.lookup ("isinstance" : Str) = some NameKind.globalImplicit)
    (he : starEach (a :: [b]) X.env = (false, eval a X.env) :: starEach [b] X.env := by rfl) (he2 : starEach (b :: []) X.env = (false, eval b X.env) :: starEach [] X.env := by rfl) (hpl : (backTo pos (starEach [b] X.env)).any (·.1) = false := by rfl) : DE X Γ (.Call (.Name "isinstance" p) [a, b] [] pos) (rBl u) :=
  de_blt B call_isi (cb_isi h hk) hm (by decide +kernel) (da_cons ha (da_cons hb da_nil he2) he) hg (he := he) (hpl := hpl)
/-! equal data -/
mutual
theorem dp_mono {K : PySem.W.Frag} {F H : Hp} (s : Same F H) : ∀ (d : PyData) (v : V), Dp K F v d → Dp K H v d
  | _, _, .non => .non
  | _, _, .bl b => .bl b
  | _, _, .int i => .int i
  | _, _, .str x => .str x
  | _, _, .lst h a => .lst (s.seq h) (dpa_mono s _ _ a)
  | _, _, .tup h a => .tup (sqt_mono s h) (dpa_mono s _ _ a)
theorem dpa_mono {K : PySem.W.Frag} {F H : Hp} (s : Same F H) : ∀ (ds : List PyData) (vs : List V), DpAll K F vs ds → DpAll K H vs ds
  | _, _, .nil => .nil
  | _, _, .cons h t => .cons (dp_mono s _ _ h) (dpa_mono s _ _ t)
end
def DpL (K : PySem.W.Frag) (r : Rep) (d : PyData) : Prop := ∀ F v, r.P F v → Dp K F v d
theorem dpl_int {K : PySem.W.Frag} {n : Int} : DpL K (rInt n) (.int n) := fun F v h => by cases h; exact .int n
theorem dpa_of {K : PySem.W.Frag} {F : Hp} {α : Type} {R : α → Rep} {d : α → PyData} : ∀ {xs : List α} {vs : List V}, (∀ x ∈ xs, DpL K (R x) (d x)) → RL F (xs.map R) vs → DpAll K F vs (xs.map d)
  | [], _, _, h => by cases h; exact .nil
  | x :: xs, _, hd, h => by
    cases h with
    | cons a t => exact .cons (hd x List.mem_cons_self F _ a) (dpa_of (fun y hy => hd y (List.mem_cons_of_mem _ hy)) t)
theorem dpl_lst {K : PySem.W.Frag} {α : Type} {R : α → Rep} {d : α → PyData} {xs : List α} (h : ∀ x ∈ xs, DpL K (R x) (d x)) : DpL K (rLst K (xs.map R)) (.list (xs.map d)) := fun F v hv => by
  obtain ⟨p, vs, rfl, h1, h2⟩ := hv
  exact .lst h1 (dpa_of h h2)
theorem dpl_tup2 {K : PySem.W.Frag} {d1 d2 : PyData} (h1 : DpL K ra d1) (h2 : DpL K rb d2) : DpL K (rTup K [ra, rb]) (.tuple [d1, d2]) := fun F v hv => by
  obtain ⟨p, vs, rfl, k1, k2⟩ := hv
  obtain ⟨v, w, rfl, a, b⟩ := rl2 k2
  exact .tup k1 (.cons (h1 F v a) (.cons (h2 F w b) .nil))
theorem b2_eqD {d1 d2 : PyData} (h1 : DpL X.K ra d1) (h2 : DpL X.K rb d2) (s1 : SeqAt.shaped d1 = true) (s2 : SeqAt.shaped d2 = true) : B2 (rEqD X.K) ra rb (rBl (PyData.eqv d1 d2)) := fun F H x y s k1 k2 Q q =>
  ⟨d1, d2, dp_mono s _ _ (h1 F x k1), dp_mono s _ _ (h2 F y k2), s1, s2, q _ F H (.refl s) rfl⟩
theorem b2_neD {d1 d2 : PyData} (h1 : DpL X.K ra d1) (h2 : DpL X.K rb d2) (s1 : SeqAt.shaped d1 = true) (s2 : SeqAt.shaped d2 = true) : B2 (rNeD X.K) ra rb (rBl (!PyData.eqv d1 d2)) := fun F H x y s k1 k2 Q q =>
  ⟨d1, d2, dp_mono s _ _ (h1 F x k1), dp_mono s _ _ (h2 F y k2), s1, s2, q _ F H (.refl s) rfl⟩
theorem BX.hu (B : BX X N sc k) : X.A.units + 64 < cLine := B.room.units
/-! gcd, lcm, abs, int -/
theorem de_gcd {m n : Int} (B : BX X N sc k) (hm : X.mg x = some (.builtin "math.gcd")) (ha : DE X Γ a (rInt m)) (hb : DE X Γ b (rInt n)) (hg : sc.names.lookup x = some .globalImplicit) (hdb : (x == ("__debug__" : Str)) = false := by decide)
    (he : starEach (a :: [b]) X.env = (false, eval a X.env) :: starEach [b] X.env := by rfl) (he2 : starEach (b :: []) X.env = (false, eval b X.env) :: starEach [] X.env := by rfl) (hpl : (backTo pos (starEach [b] X.env)).any (·.1) = false := by rfl) : DE X Γ (.Call (.Name x p) [a, b] [] pos) (rInt (Int.gcd m n : Nat)) :=
  de_bfun B cr_gcd (fun F H vs s hv Q q => by
    obtain ⟨v, w, rfl, h1, h2⟩ := rl2 hv
    cases h1
    cases h2
    exact ⟨m, n, rfl, q _ F H (.refl s) rfl⟩) hm (da_cons ha (da_cons hb da_nil he2) he) hg hdb (he := he) (hpl := hpl)
def rLcm : List V → Hp → VK → Prop := fun vs H Q => ∃ a b : Int, vs = [.int a, .int b] ∧ a.natAbs.log2 < 10000 ∧ b.natAbs.log2 < 10000 ∧ Q (.int ((Nat.lcm a.natAbs b.natAbs : Nat) : Int)) H
theorem lcm_log {a b : Nat} (ha : a.log2 < 10000) (hb : b.log2 < 10000) : (Nat.lcm a b).log2 < 20002 := by
  by_cases h0 : Nat.lcm a b = 0
  · rw [h0, Nat.log2_zero]; decide
  · have hab : Nat.lcm a b ≤ a * b := Nat.div_le_self _ _
    have ha1 : a < 2 ^ 10001 := by
      by_cases z : a = 0
      · subst z; exact Nat.pow_pos (by decide)
      · exact (Nat.log2_lt z).mp (by omega)
    have hb1 : b < 2 ^ 10001 := by
      by_cases z : b = 0
      · subst z; exact Nat.pow_pos (by decide)
      · exact (Nat.log2_lt z).mp (by omega)
    have : Nat.lcm a b < 2 ^ 20002 := by
      have h1 : a * b < 2 ^ 10001 * 2 ^ 10001 := Nat.mul_lt_mul'' ha1 hb1
      rw [← Nat.pow_add] at h1
      exact Nat.lt_of_le_of_lt hab h1
    exact (Nat.log2_lt h0).mpr this
theorem cr_lcm : CallR X (.builtin "math.lcm") rLcm := by
  intro pins s σ H vs us Q I r h
  obtain ⟨a, b, rfl, ha, hb, q⟩ := h
  obtain ⟨t, u, rfl⟩ := Vals.int2 r
  have e1 : Nat.lcm 1 a.natAbs = a.natAbs := Nat.lcm_one_left _
  have m : ∀ x y : Nat, (max x y).log2 ≤ max x.log2 y.log2 := fun x y => by
    rcases Nat.le_total x y with z | z
    · rw [Nat.max_eq_right z]; exact Nat.le_max_right _ _
    · rw [Nat.max_eq_left z]; exact Nat.le_max_left _ _
  have m1 := m 1 a.natAbs
  have m2 := m a.natAbs b.natAbs
  have l1 : Nat.log2 1 = 0 := by decide
  have hl := lcm_log ha hb
  have hbl : bitsLine = 134217728 := by decide
  refine call_function_meets PySem.W.MGF.kind_lcm PySem.W.MGF.plain_lcm PySem.W.MGF.entry_lcm (PySem.W.MGF.args_lcm _ _) (PySem.W.mg_run_lcm a t b u (by omega) (by omega) ?_).meets ?_
  · rw [e1, Int.natAbs_natCast, hbl]
    omega
  · rw [e1]
    exact ⟨.int _, H, I.tok _, ⟨_, rfl⟩, q⟩
theorem de_lcm {m n : Int} (B : BX X N sc k) (hm : X.mg x = some (.builtin "math.lcm")) (h1 : m.natAbs.log2 < 10000) (h2 : n.natAbs.log2 < 10000) (ha : DE X Γ a (rInt m)) (hb : DE X Γ b (rInt n)) (hg : sc.names.lookup x = some .globalImplicit) (hdb : (x == ("__debug__" : Str)) = false := by decide)
    (he : starEach (a :: [b]) X.env = (false, eval a X.env) :: starEach [b] X.env := by rfl) (he2 : starEach (b :: []) X.env = (false, eval b X.env) :: starEach [] X.env := by rfl) (hpl : (backTo pos (starEach [b] X.env)).any (·.1) = false := by rfl) : DE X Γ (.Call (.Name x p) [a, b] [] pos) (rInt (Int.lcm m n : Nat)) :=
  de_bfun B cr_lcm (fun F H vs s hv Q q => by
    obtain ⟨v, w, rfl, k1, k2⟩ := rl2 hv
    cases k1
    cases k2
    exact ⟨m, n, rfl, h1, h2, q _ F H (.refl s) rfl⟩) hm (da_cons ha (da_cons hb da_nil he2) he) hg hdb (he := he) (hpl := hpl)
theorem de_abs {m : Int} (B : BX X N sc k) (hm : X.mg "abs" = none) (ha : DE X Γ a (rInt m)) (hg : sc.names.lookup ("abs" : Str) = some NameKind.globalImplicit)
    (he : starEach (a :: []) X.env = (false, eval a X.env) :: starEach [] X.env := by rfl) : DE X Γ (.Call (.Name "abs" p) [a] [] pos) (rInt (m.natAbs : Nat)) :=
  de_blt B call_abs (fun F H vs s hv Q q => by
    obtain ⟨v, rfl, k1⟩ := rl1 hv
    cases k1
    exact ⟨m, rfl, q _ F H (.refl s) (by show V.int _ = V.int _; congr 1; split <;> omega)⟩) hm (by decide +kernel) (da_cons ha da_nil he) hg (he := he)
theorem de_toInt {m : Int} (B : BX X N sc k) (hm : X.mg "int" = none) (ha : DE X Γ a (rInt m)) (hg : sc.names.lookup ("int" : Str) = some NameKind.globalImplicit)
    (he : starEach (a :: []) X.env = (false, eval a X.env) :: starEach [] X.env := by rfl) : DE X Γ (.Call (.Name "int" p) [a] [] pos) (rInt m) :=
  de_bty B call_int1 (fun F H vs s hv Q q => by
    obtain ⟨v, rfl, k1⟩ := rl1 hv
    cases k1
    exact .inl ⟨m, rfl, q _ F H (.refl s) rfl⟩) hm (by decide +kernel) (da_cons ha da_nil he) hg (he := he)
/-! is None -/
def NotNon (r : Rep) : Prop := ∀ F v, r.P F v → v ≠ .non
theorem notNon_int {n : Int} : NotNon (rInt n) := fun F v h => by cases h; exact fun z => nomatch z
theorem notNon_num {K : PySem.W.Frag} {q : Rat} : NotNon (rNum K q) := fun F v h => by
  unfold rNum at h
  split at h
  · cases h; exact fun z => nomatch z
  · obtain ⟨p, vs, rfl, _⟩ := h
    exact fun z => nomatch z
end
end DL

set_option Elab.async false
set_option linter.all false
set_option maxRecDepth 100000
set_option maxHeartbeats 4000000
namespace DL
open PySem PySem.Spec PyProof.Rows L2
/-- the slots after some stores -/
def sets (Γ : List Sl) : List (Nat × Sl) → List Sl
  | [] => Γ
  | (i, s) :: r => sets (Γ.set i s) r
section
variable {X : Cx} {N : List Str} {sc : Scope} {k j : Nat} {Γ Γ' Γ1 : List Sl} {tg it a b c e : Expr} {es rest : List Expr} {r ra rb rc r' : Rep} {rs l l2 : List Rep} {pos p p2 : Pos} {x : Str} {i : Nat} {ws ws' : List Nat} {F0 H0 F1 F H : Hp} {σ : L2.St} {st body : List Stmt} {D : Ends} {n : Nat} {rr : Nat → Rep}
/-- a loop whose slots are known at each turn: chg tells those that change -/
def IvS (Γ : List Sl) (chg : Nat → List (Nat × Sl)) (J : Nat → Prop) : Nat → List Sl → Prop := fun i Γ' => Γ' = sets Γ (chg i) ∧ J i
theorem go_forS {ws : List Nat} (B : BX X N sc k) (chg : Nat → List (Nat × Sl)) (J : Nat → Prop) (hi : SR X Γ tg it n rr) (G1 : Nat → List Sl) (hg : ∀ i, i < n → DG X (sets Γ (chg i)) tg (rr i) (G1 i) ws) (h0 : SlLe Γ (sets Γ (chg 0))) (j0 : J 0)
    (hb : ∀ F1, Up F0 F1 H0 → ∀ i, i < n → J i → GO X F1 H0 body { D with nx := LN F1 H0 (IvS Γ chg J) (i + 1), ct := LN F1 H0 (IvS Γ chg J) (i + 1), bk := XS X st D } (G1 i))
    (he : J n → GO X F0 H0 st D (sets Γ (chg n))) (hs : ∀ x, foldedSetIterable it X.env x = pure x := by intro _; rfl) : GO X F0 H0 (.For tg it body [] pos :: st) D Γ :=
  go_for B (IvS Γ chg J) hi h0 ⟨rfl, j0⟩ (fun i _ => G1 i) (fun i Γ' hlt hv => by rw [hv.1]; exact hg i hlt) (fun F1 u i Γ' hlt hv => hb F1 u i hlt hv.2) (fun Γ' hv => by rw [hv.1]; exact he hv.2) hs
theorem go_turnS {chg : Nat → List (Nat × Sl)} {J : Nat → Prop} {Γ0 : List Sl} (hj : J j) (h : SlLe Γ (sets Γ0 (chg j))) (e : D.nx = LN F1 H0 (IvS Γ0 chg J) j := by rfl) : GO X F1 H0 [] D Γ := go_nil fun F H σ en => by rw [e]; exact ⟨F, _, en.le h, rfl, hj⟩
/-! ### numbers -/
section
variable {q : Rat} {K : PySem.W.Frag}
theorem num_whole (h : q.den = 1) : rNum K q = rInt q.num := if_pos h
theorem num_pair (h : q.den ≠ 1) : rNum K q = rTup K [rInt q.num, rInt (q.den : Int)] := if_neg h
theorem num_int (n : Int) : rNum K (n : Rat) = rInt n := num_whole (Rat.den_intCast n)
theorem de_i2n {n : Int} (h : DE X Γ e (rInt n)) : DE X Γ e (rNum X.K (n : Rat)) := h.to (num_int n).symm
theorem de_n2i (hq : q.den = 1) (h : DE X Γ e (rNum X.K q)) : DE X Γ e (rInt q.num) := h.to (num_whole hq)
theorem de_n2t (hq : q.den ≠ 1) (h : DE X Γ e (rNum X.K q)) : DE X Γ e (rTup X.K [rInt q.num, rInt (q.den : Int)]) := h.to (num_pair hq)
theorem de_num0 (hq : q.den ≠ 1) (h : DE X Γ a (rNum X.K q)) {jj : Nat} : DE X Γ (.Subscript a (.Constant (.int 0) jj p) pos) (rInt q.num) := de_ixT rfl (de_n2t hq h) de_int
theorem de_num1 (hq : q.den ≠ 1) (h : DE X Γ a (rNum X.K q)) {jj : Nat} : DE X Γ (.Subscript a (.Constant (.int 1) jj p) pos) (rInt (q.den : Int)) := de_ixT rfl (de_n2t hq h) de_int
def numT (q : Rat) : Value := if q.den = 1 then .type "int" else .type "tuple"
theorem rty_num : RTy K (rNum K q) (numT q) := by
  unfold numT
  by_cases h : q.den = 1
  · rw [num_whole h, if_pos h]; exact rty_int
  · rw [num_pair h, if_neg h]; exact rty_tup
theorem kit_numT {K : PySem.W.Frag} : PySem.W.kitOne K (numT q) (.type "tuple") = some (decide (q.den ≠ 1)) := by
  unfold numT
  by_cases h : q.den = 1
  · rw [if_pos h, h]; exact kit_ty (by decide +kernel)
  · rw [if_neg h, decide_eq_true h]; exact kit_ty (by decide +kernel)
theorem kit_numI {K : PySem.W.Frag} : PySem.W.kitOne K (numT q) (.type "int") = some (decide (q.den = 1)) := by
  unfold numT
  by_cases h : q.den = 1
  · rw [if_pos h, h]; exact kit_ty (by decide +kernel)
  · rw [if_neg h, decide_eq_false h]; exact kit_ty (by decide +kernel)
theorem kit_numB {K : PySem.W.Frag} : PySem.W.kitOne K (numT q) (.type "bool") = some false := by
  unfold numT
  by_cases h : q.den = 1
  · rw [if_pos h]; exact kit_ty (by decide +kernel)
  · rw [if_neg h]; exact kit_ty (by decide +kernel)
/-- a pair of whole numbers is a number -/
theorem sub_pair {t b : Int} (h : (b : Int) ≠ 1) (h1 : q.num = t) (h2 : (q.den : Int) = b) : Sub (rTup K [rInt t, rInt b]) (rNum K q) := .of (by rw [num_pair (by omega), h1, h2])
theorem sub_whole {t : Int} (h : q.den = 1) (h1 : q.num = t) : Sub (rInt t) (rNum K q) := .of (by rw [num_whole h, h1])
def numD (q : Rat) : PyData := if q.den = 1 then .int q.num else .tuple [.int q.num, .int (q.den : Int)]
theorem dpl_num : DpL K (rNum K q) (numD q) := by
  unfold numD
  by_cases h : q.den = 1
  · rw [num_whole h, if_pos h]; exact dpl_int
  · rw [num_pair h, if_neg h]; exact dpl_tup2 dpl_int dpl_int
theorem numD_eq {q r : Rat} : PyData.eqv (numD q) (numD r) = decide (q = r) := by
  unfold numD
  by_cases h : q.den = 1 <;> by_cases k : r.den = 1
  · rw [if_pos h, if_pos k]
    show (q.num == r.num) = _
    by_cases e : q = r
    · subst e; simp
    · rw [decide_eq_false e]
      have : q.num ≠ r.num := fun z => e (Rat.ext z (by rw [h, k]))
      simpa using this
  · rw [if_pos h, if_neg k]
    have : q ≠ r := fun z => k (z ▸ h)
    rw [decide_eq_false this]; rfl
  · rw [if_neg h, if_pos k]
    have : q ≠ r := fun z => h (z ▸ k)
    rw [decide_eq_false this]; rfl
  · rw [if_neg h, if_neg k]
    show (q.num == r.num && ((q.den : Int) == (r.den : Int) && true)) = _
    by_cases e : q = r
    · subst e; simp
    · rw [decide_eq_false e]
      by_cases n : q.num = r.num
      · have : q.den ≠ r.den := fun z => e (Rat.ext n z)
        have : (q.den : Int) ≠ r.den := by omega
        simp [this]
      · simp [n]
theorem shaped_num : SeqAt.shaped (numD q) = true := by
  unfold numD
  by_cases h : q.den = 1
  · rw [if_pos h]; rfl
  · rw [if_neg h]; rfl
theorem dt_eqN {r : Rat} (B : BX X N sc k) (ha : DE X Γ a (rNum X.K q)) (hb : DE X Γ b (rNum X.K r)) : DT X Γ (.Compare a [.Eq] [b] pos) (decide (q = r)) := (dt_cmp (op_eqD B.hu) (b2_eqD dpl_num dpl_num shaped_num shaped_num) ha hb (nomark _)).to numD_eq
theorem dt_neN {r : Rat} (B : BX X N sc k) (ha : DE X Γ a (rNum X.K q)) (hb : DE X Γ b (rNum X.K r)) : DT X Γ (.Compare a [.NotEq] [b] pos) (!decide (q = r)) := (dt_cmp (op_neD B.hu) (b2_neD dpl_num dpl_num shaped_num shaped_num) ha hb (nomark _)).to (by rw [numD_eq])
end
/-! ### sizes of ints -/
def Lg (i : Int) : Nat := i.natAbs.log2
theorem lg_lt {i : Int} {n : Nat} : Lg i < n → i.natAbs < 2 ^ n := fun h => by
  by_cases h0 : i.natAbs = 0
  · rw [h0]; exact Nat.pow_pos (by decide)
  · exact (Nat.log2_lt h0).mp h
theorem lg_of {i : Int} {n : Nat} (hn : 0 < n) (h : i.natAbs < 2 ^ n) : Lg i < n := by
  unfold Lg
  by_cases h0 : i.natAbs = 0
  · rw [h0, Nat.log2_zero]; exact hn
  · exact (Nat.log2_lt h0).mpr h
theorem lg_mul (i j : Int) : Lg (i * j) ≤ Lg i + Lg j + 1 := by
  have h1 := lg_lt (i := i) (Nat.lt_succ_self _)
  have h2 := lg_lt (i := j) (Nat.lt_succ_self _)
  have h3 : (i * j).natAbs < 2 ^ ((Lg i + 1) + (Lg j + 1)) := by
    rw [Int.natAbs_mul, Nat.pow_add]
    exact Nat.mul_lt_mul'' h1 h2
  have := lg_of (by omega) h3
  omega
theorem lg_add (i j : Int) : Lg (i + j) ≤ max (Lg i) (Lg j) + 1 := by
  have h1 := lg_lt (i := i) (Nat.lt_succ_self _)
  have h2 := lg_lt (i := j) (Nat.lt_succ_self _)
  have m1 : 2 ^ (Lg i + 1) ≤ 2 ^ (max (Lg i) (Lg j) + 1) := Nat.pow_le_pow_right (by decide) (by omega)
  have m2 : 2 ^ (Lg j + 1) ≤ 2 ^ (max (Lg i) (Lg j) + 1) := Nat.pow_le_pow_right (by decide) (by omega)
  have e : 2 ^ (max (Lg i) (Lg j) + 2) = 2 * 2 ^ (max (Lg i) (Lg j) + 1) := by rw [Nat.pow_succ]; omega
  have h3 : (i + j).natAbs < 2 ^ (max (Lg i) (Lg j) + 2) := by omega
  have := lg_of (by omega) h3
  omega
theorem lg_neg (i : Int) : Lg (-i) = Lg i := by unfold Lg; rw [Int.natAbs_neg]
theorem lg_sub (i j : Int) : Lg (i - j) ≤ max (Lg i) (Lg j) + 1 := by
  have := lg_add i (-j)
  rw [lg_neg] at this
  rw [Int.sub_eq_add_neg]
  exact this
theorem lg_le {i j : Int} (h : i.natAbs ≤ j.natAbs) : Lg i ≤ Lg j := by
  have h2 := lg_lt (i := j) (Nat.lt_succ_self _)
  have := lg_of (i := i) (n := Lg j + 1) (by omega) (by omega)
  omega
theorem de_mulG {m n : Int} (hc : Lg m + Lg n < 1000000) (ha : DE X Γ a (rInt m)) (hb : DE X Γ b (rInt n)) : DE X Γ (.BinOp a .Mult b pos) (rInt (m * n)) := de_mul hc ha hb
theorem de_divG {m n : Int} (h0 : n ≠ 0) (hc : Lg n < 9000) (ha : DE X Γ a (rInt m)) (hb : DE X Γ b (rInt n)) : DE X Γ (.BinOp a .FloorDiv b pos) (rInt (m.fdiv n)) := de_fdiv ⟨h0, hc⟩ ha hb
/-- a number of at most n bits above and below -/
def Sz (n : Nat) (q : Rat) : Prop := Lg q.num ≤ n ∧ Lg (q.den : Int) ≤ n
end
end DL

set_option Elab.async false
set_option linter.all false
set_option maxRecDepth 100000
set_option maxHeartbeats 4000000
namespace DL
open PySem PySem.Spec PyProof.Rows L2
/-! ### errors -/
inductive Out where
  | ok (r : Ret)
  | err (C : Addr)
  | errF (C : Addr) (fs : List (Str × V))
def PrX (F H : Hp) : Out → VK → XK → Prop
  | .ok ret, Q, _ => Pr F H ret Q
  | .err C, _, E => ∀ H', Same H H' → E (.ref C) none H'
  | .errF C fs, _, E => ∀ H' d, Same H H' → H d = none → H' d = some (.xd fs) → E (.ref C) (some d) H'
def PmX {ι : Type} (pre : ι → Prop) (args : ι → List Rep) (out : ι → Out) : Sp := fun vs H Q E => ∃ (x : ι) (F : Hp), pre x ∧ Same F H ∧ RL F (args x) vs ∧ PrX F H (out x) Q E
/-- an error class of the program's own, without fields -/
structure XCls (K : PySem.W.Frag) (mg : Str → Option Value) (x : Str) (C : Addr) : Prop where
  g : mg x = some (.ref C)
  ex : PySem.W.excIn K C [.type "ValueError", .type "Exception", .type "BaseException", .type "object"] "ValueError.__new__" = true
  kp : PySem.W.keepIn K (.ref C) = true
  bs : PySem.W.subIn K (.ref C) (.type "BaseException") = some true
  ty : PySem.W.typeIn K (.ref C) = some (.type "type")
  hd : PySem.W.hasDictIn K C = true
section
variable {X : Cx} {N : List Str} {sc : Scope} {k j : Nat} {Γ : List Sl} {a b c e : Expr} {es rest : List Expr} {r ra rb rc r' : Rep} {rs l : List Rep} {pos p : Pos} {x : Str} {i : Nat}
variable {ι : Type} {pre : ι → Prop} {args : ι → List Rep} {out : ι → Out} {ret : Ret} {F0 H0 : Hp} {st body : List Stmt} {D : Ends} {C : Addr} {W : WX}
theorem ca_callX (B : BX X N sc k) (G : Cal X.prog X.w X.K X.mg X.base j x (PmX pre args out)) (hk : j ≤ k) (g : ι) (hp : pre g) (ho : out g = .ok ret) (ha : DA X Γ (e :: es) (args g)) (hg : sc.names.lookup x = some .globalImplicit)
    (hdb : (x == ("__debug__" : Str)) = false := by decide) (he : starEach (e :: es) X.env = (false, eval e X.env) :: starEach es X.env := by rfl) (hpl : (backTo pos (starEach es X.env)).any (·.1) = false := by rfl) :
    CA X Γ (.Call (.Name x p) (e :: es) [] pos) ret := fun F0 H0 F H σ en Q q => by
  obtain ⟨f, fd, ps, G, hm, kp, hb⟩ := G.ex
  have hgl : Gl X x := by
    show X.env.scope.names.lookup x = _
    rw [B.hsc]
    exact hg
  refine .of (pe_call (E := E0) G (B.room.mono hk) hgl hm kp hb .nil passL pa_ev hdb he hpl) ?_
  refine ha F0 H0 F H σ en _ fun vs F1 H1 g1 h1 => ?_
  show PmX pre args out (vs ++ []) H1 Q E0
  rw [List.append_nil]
  refine ⟨g, F1, hp, g1.s, h1, ?_⟩
  rw [ho]
  exact fun v F' H' g2 hv => q v F' H' F1 H1 g1 g2 hv
theorem ca_callO (okr : ι → Ret) (B : BX X N sc k) (G : Cal X.prog X.w X.K X.mg X.base j x (PmX pre args out)) (hk : j ≤ k) (g : ι) (hp : pre g) (ho : out g = .ok (okr g)) (ha : DA X Γ (e :: es) (args g)) (hg : sc.names.lookup x = some .globalImplicit)
    (hdb : (x == ("__debug__" : Str)) = false := by decide) (he : starEach (e :: es) X.env = (false, eval e X.env) :: starEach es X.env := by rfl) (hpl : (backTo pos (starEach es X.env)).any (·.1) = false := by rfl) :
    CA X Γ (.Call (.Name x p) (e :: es) [] pos) (okr g) := ca_callX B G hk g hp ho ha hg hdb he hpl
/-- a call that raises: what is wanted of the error is wanted anyway -/
def EX (X : Cx) (Γ : List Sl) (e : Expr) (C : Addr) (W : WX) : Prop := ∀ F0 H0 F H σ, En F0 H0 F H σ Γ → (∀ H', Same H H' → W (.ref C) none σ H') → ∀ Q : VK, EV X e σ H Q
theorem ex_call (B : BX X N sc k) (tk : Takes X W) (G : Cal X.prog X.w X.K X.mg X.base j x (PmX pre args out)) (hk : j ≤ k) (g : ι) (hp : pre g) (ho : out g = .err C) (ha : DA X Γ (e :: es) (args g)) (hg : sc.names.lookup x = some .globalImplicit)
    (hdb : (x == ("__debug__" : Str)) = false := by decide) (he : starEach (e :: es) X.env = (false, eval e X.env) :: starEach es X.env := by rfl) (hpl : (backTo pos (starEach es X.env)).any (·.1) = false := by rfl) :
    EX X Γ (.Call (.Name x p) (e :: es) [] pos) C W := fun F0 H0 F H σ en w Q => by
  obtain ⟨f, fd, ps, G, hm, kp, hb⟩ := G.ex
  have hgl : Gl X x := by
    show X.env.scope.names.lookup x = _
    rw [B.hsc]
    exact hg
  refine .of (pe_callS (E := WE W) G (B.room.mono hk) hgl hm kp hb (fun σ => passAt tk σ) pa_ev hdb he hpl) ?_
  refine ha F0 H0 F H σ en _ fun vs F1 H1 g1 h1 => ?_
  refine ⟨g, F1, hp, g1.s, h1, ?_⟩
  rw [ho]
  exact fun H' s => w H' (g1.h.trans s)
/-- raise X('..') -/
theorem go_raise {m : Str} {jj : Nat} {p2 pos2 : Pos} (B : BX X N sc k) (tk : Takes X W) (Z : XCls X.K X.mg x C) (hg : sc.names.lookup x = some .globalImplicit) (h : ∀ F H σ, En F0 H0 F H σ Γ → W (.ref C) none σ H) (hdb : (x == ("__debug__" : Str)) = false := by decide) :
    GO X F0 H0 (.Raise (some (.Call (.Name x p) [.Constant (.str m) jj p2] [] pos)) none pos2 :: st) D Γ := fun F H σ en => by
  have hgl : Gl X x := by
    show X.env.scope.names.lookup x = _
    rw [B.hsc]
    exact hg
  exact .of (pss_cons (ps_raise B.calm tk (pmk_own PySem.F.excBase_ValueError Z.ex Z.g Z.kp (raises_own Z.bs Z.ty) hgl hdb)) (pss_ev (st := st))) (h F H σ en)
theorem go_retE (he : EX X Γ e C W) (h : ∀ F H σ, En F0 H0 F H σ Γ → ∀ H', Same H H' → W (.ref C) none σ H') : GO X F0 H0 (.Return (some e) pos :: st) D Γ := fun F H σ en =>
  .of (pss_cons (ps_ret pe_ev) (pss_ev (st := st))) (he F0 H0 F H σ en (h F H σ en) _)
theorem go_exprE (he : EX X Γ e C W) (h : ∀ F H σ, En F0 H0 F H σ Γ → ∀ H', Same H H' → W (.ref C) none σ H') (hs : swapsWith e none pos.line X.env = pure false := by rfl) : GO X F0 H0 (.Expr e pos :: st) D Γ := fun F H σ en =>
  .of (pss_cons (ps_expr pe_ev hs) (pss_ev (st := st))) (he F0 H0 F H σ en (h F H σ en) _)
end
section
variable {P : Program} {w : World} {K : PySem.W.Frag} {mg : Str → Option Value} {base : Heap} {k : Nat} {x : Str} {st : Stmt} {N ps : List Str} {ι : Type} {pre : ι → Prop} {args : ι → List Rep} {out : ι → Out}
/-- a def that may raise -/
theorem cal_okX (T : TD K mg x st) (S : FnScope N ps (defScope st)) (hn : ∀ g, (args g).length = ps.length)
    (hb : ∀ (kV doc pm : Value) (an : Option Addr) (cdv ct : Value) (us : List Value), us.length = ps.length → bindArgs (PySem.W.fnOf x x (defArgs st) (defBody st) (defScope st) .none kV doc pm an cdv ct) ⟨us, []⟩ = pure (ps.zip us))
    (body : ∀ (X : Cx), X.prog = P → X.w = w → X.K = K → X.mg = mg → X.base = base → BX X N (defScope st) k → (∀ x : Str, X.fn x = true) → ∀ (g : ι) (F0 H0 : Hp) (D : Ends) (E : XK), Takes X (fun cls d _ H => E cls d H) → pre g → PrX F0 H0 (out g) D.rt E → (∀ σ H', D.nx σ H' = D.rt .non H') →
      GO X F0 H0 (defBody st) D ((args g).map Sl.im ++ List.replicate (N.length - ps.length) .any)) : Cal P w K mg base (k + 1) x (PmX pre args out) := by
  obtain ⟨f, fd, F, hm⟩ := T.ex
  refine ⟨f, fd, ps, ?_, hm, F.kp, F.binds hb⟩
  refine F.okX S (fun vs H Q E h => ?_) (fun cdv A outer s H vs Q E hr h => ?_)
  · obtain ⟨g, F1, _, _, h1, _⟩ := h
    rw [← h1.len, hn]
  · obtain ⟨g, F1, hp, hs, h1, q⟩ := h
    refine ⟨_, pss_ev, ?_⟩
    have hpl : ps.length ≤ N.length := by have := congrArg List.length S.pre; rw [List.length_take] at this; omega
    have en := en_start (N := N) hs h1 (by rw [hn]; exact hpl)
    rw [hn] at en
    exact body _ rfl rfl rfl rfl rfl ⟨rfl, rfl, S.nd, hr, rfl, passes_of rfl⟩ (fun _ => rfl) g F1 H { nx := fun _ H' => Q .non H', rt := Q } E (takes_of rfl rfl rfl rfl) hp q (fun _ _ => rfl) F1 H _ en
theorem PrX.rt {F H : Hp} {D : Ends} {E : XK} {o : Out} {ret : Ret} (h : PrX F H o D.rt E) (e : o = .ok ret) : RT F H ret D := by
  subst e
  exact h
theorem PrX.er {F0 H0 : Hp} {Q : VK} {E : XK} {o : Out} {C : Addr} (h : PrX F0 H0 o Q E) (e : o = .err C) : ∀ H', Same H0 H' → E (.ref C) none H' := by
  subst e
  exact h
end
end DL

set_option linter.all false
set_option maxHeartbeats 4000000
namespace DL
theorem den_ne (q : Rat) : ((q.den : Int) : Rat) ≠ 0 := by
  have := q.den_nz
  simp [this]
theorem q_eq (q : Rat) : q = (q.num : Rat) / ((q.den : Int) : Rat) := by
  have h2 := Rat.mkRat_self q
  rw [Rat.mkRat_eq_div] at h2
  exact h2.symm
theorem aux_plus (a b c d : Rat) (hb : b ≠ 0) (hd : d ≠ 0) : (a * d + c * b) / (b * d) = a / b + c / d := by grind
theorem aux_minus (a b c d : Rat) (hb : b ≠ 0) (hd : d ≠ 0) : (a * d - c * b) / (b * d) = a / b - c / d := by grind
theorem aux_times (a b c d : Rat) (hb : b ≠ 0) (hd : d ≠ 0) : (a * c) / (b * d) = a / b * (c / d) := by grind
theorem aux_over (a b c d : Rat) (hb : b ≠ 0) (hd : d ≠ 0) (hc : c ≠ 0) : (a * d) / (b * c) = a / b / (c / d) := by grind
theorem r_plus (q r : Rat) : (((q.num * (r.den : Int) + r.num * (q.den : Int) : Int)) : Rat) / ((((q.den : Int) * (r.den : Int) : Int)) : Rat) = q + r := by
  conv => rhs; rw [q_eq q, q_eq r]
  rw [← aux_plus _ _ _ _ (den_ne q) (den_ne r), Rat.intCast_add, Rat.intCast_mul, Rat.intCast_mul, Rat.intCast_mul]
theorem r_minus (q r : Rat) : (((q.num * (r.den : Int) - r.num * (q.den : Int) : Int)) : Rat) / ((((q.den : Int) * (r.den : Int) : Int)) : Rat) = q - r := by
  conv => rhs; rw [q_eq q, q_eq r]
  rw [← aux_minus _ _ _ _ (den_ne q) (den_ne r), Rat.intCast_sub, Rat.intCast_mul, Rat.intCast_mul, Rat.intCast_mul]
theorem r_times (q r : Rat) : (((q.num * r.num : Int)) : Rat) / ((((q.den : Int) * (r.den : Int) : Int)) : Rat) = q * r := by
  conv => rhs; rw [q_eq q, q_eq r]
  rw [← aux_times _ _ _ _ (den_ne q) (den_ne r), Rat.intCast_mul, Rat.intCast_mul]
theorem num_ne {q : Rat} (h : q ≠ 0) : q.num ≠ 0 := fun z => h (Rat.num_eq_zero.mp z)
theorem r_over (q r : Rat) (h : r ≠ 0) : (((q.num * (r.den : Int) : Int)) : Rat) / ((((q.den : Int) * r.num : Int)) : Rat) = q / r := by
  have hn : (r.num : Rat) ≠ 0 := by simpa using num_ne h
  conv => rhs; rw [q_eq q, q_eq r]
  rw [← aux_over _ _ _ _ (den_ne q) (den_ne r) hn, Rat.intCast_mul, Rat.intCast_mul]
/-- lowest terms -/
def lowC (t b : Int) : Int := if b < 0 then -(Int.gcd t b : Int) else (Int.gcd t b : Int)
theorem gcd_pos {t b : Int} (hb : b ≠ 0) : 0 < (Int.gcd t b : Int) := by
  have : 0 < Int.gcd t b := Nat.pos_of_ne_zero fun z => hb (Int.gcd_eq_zero_iff.mp z).2
  omega
theorem lowC_ne {t b : Int} (hb : b ≠ 0) : lowC t b ≠ 0 := by
  have := gcd_pos (t := t) hb
  unfold lowC
  split <;> omega
theorem lowC_dvd (t b : Int) : lowC t b ∣ t ∧ lowC t b ∣ b := by
  have h1 := Int.gcd_dvd_left t b
  have h2 := Int.gcd_dvd_right t b
  unfold lowC
  split
  · exact ⟨Int.neg_dvd.mpr h1, Int.neg_dvd.mpr h2⟩
  · exact ⟨h1, h2⟩
theorem rat_num {t b : Int} (hb : b ≠ 0) : ((t : Rat) / (b : Rat)).num = t.fdiv (lowC t b) := by
  rw [← Rat.divInt_eq_div, Rat.num_divInt, Int.fdiv_eq_ediv_of_dvd (lowC_dvd t b).1, Int.gcd_comm]
  unfold lowC
  split
  · rename_i h
    rw [Int.sign_eq_neg_one_of_neg h, Int.ediv_neg, Int.neg_mul, Int.one_mul, Int.neg_ediv_of_dvd (Int.gcd_dvd_left t b)]
  · rename_i h
    rw [Int.sign_eq_one_of_pos (by omega), Int.one_mul]
theorem rat_den {t b : Int} (hb : b ≠ 0) : (((t : Rat) / (b : Rat)).den : Int) = b.fdiv (lowC t b) := by
  rw [← Rat.divInt_eq_div, Rat.den_divInt, if_neg hb, Int.fdiv_eq_ediv_of_dvd (lowC_dvd t b).2, Int.gcd_comm]
  unfold lowC
  have hd := Int.gcd_dvd_right t b
  split
  · rename_i h
    rw [Int.ediv_neg, ← Int.neg_ediv_of_dvd hd, Int.natCast_ediv]
    congr 1
    omega
  · rename_i h
    rw [Int.natCast_ediv]
    congr 1
    omega
theorem rat_den1 {t b : Int} (hb : b ≠ 0) (h : lowC t b = b) : ((t : Rat) / (b : Rat)).den = 1 := by
  have := rat_den (t := t) hb
  rw [h, Int.fdiv_self hb] at this
  omega
theorem rat_denN {t b : Int} (hb : b ≠ 0) (h : lowC t b ≠ b) : b.fdiv (lowC t b) ≠ 1 := by
  intro z
  rw [Int.fdiv_eq_ediv_of_dvd (lowC_dvd t b).2] at z
  have := Int.eq_mul_of_ediv_eq_right (lowC_dvd t b).2 z
  omega
end DL

set_option linter.all false
set_option maxHeartbeats 4000000
namespace DL
open PySem L2
theorem lg_lowC {t b : Int} (hb : b ≠ 0) : Lg (lowC t b) ≤ Lg b := lg_le (by
  have h : (Int.gcd t b) ≤ b.natAbs := Nat.le_of_dvd (by omega) (by have := Int.natAbs_dvd_natAbs.mpr (Int.gcd_dvd_right t b); simpa using this)
  unfold lowC
  split <;> omega)
theorem den_neI (q : Rat) : (q.den : Int) ≠ 0 := by
  have := q.den_nz
  omega
theorem dd_ne (q r : Rat) : (q.den : Int) * (r.den : Int) ≠ 0 := Int.mul_ne_zero (den_neI q) (den_neI r)
theorem dn_ne {q r : Rat} (h : r ≠ 0) : (q.den : Int) * r.num ≠ 0 := Int.mul_ne_zero (den_neI q) (num_ne h)
theorem r_less (q r : Rat) : decide (q.num * (r.den : Int) < r.num * (q.den : Int)) = decide (q < r) := by
  simp [Rat.lt_iff]
theorem r_floor (q : Rat) : q.num.fdiv (q.den : Int) = q.floor := by
  rw [Int.fdiv_eq_ediv_of_nonneg _ (by omega), Rat.floor_def]
theorem r_ceil (q : Rat) : -((-q.num).fdiv (q.den : Int)) = q.ceil := by
  rw [Int.fdiv_eq_ediv_of_nonneg _ (by omega), Rat.ceil_eq_neg_floor_neg, Rat.floor_def]
  rfl
end DL

set_option Elab.async false
set_option linter.all false
set_option maxRecDepth 100000
set_option maxHeartbeats 4000000
namespace DL
open PySem PySem.Spec PyProof.Rows L2
section
variable {X : Cx} {N : List Str} {sc : Scope} {k j : Nat} {Γ Γ' Γ1 : List Sl} {tg it a b c e : Expr} {es rest : List Expr} {r ra rb rc r' : Rep} {rs l l2 : List Rep} {pos p p2 : Pos} {x : Str} {i : Nat} {ws ws' : List Nat} {F0 H0 F1 F H : Hp} {σ : L2.St} {st body : List Stmt} {D : Ends} {n : Nat} {rr : Nat → Rep}
variable {α : Type} {R : α → Rep} {xs : List α}
theorem SR.to {rr' : Nat → Rep} (h : SR X Γ tg it n rr) (e : ∀ i, i < n → rr i = rr' i) : SR X Γ tg it n rr' := fun F0 H0 F H σ en Q q => h F0 H0 F H σ en Q fun J F1 H1 g wk => q J F1 H1 g ⟨wk.stop, wk.go, fun i F H x H' s s2 hi hy => by
  obtain ⟨F', g', hx⟩ := wk.yld i F H x H' s s2 hi hy
  exact ⟨F', g', e i hi ▸ hx⟩⟩
theorem getD_map (d : α) {i : Nat} (hi : i < xs.length) : (xs.map R).getD i rNon = R (xs.getD i d) := by
  rw [List.getD_eq_getElem?_getD, List.getD_eq_getElem?_getD, List.getElem?_map, List.getElem?_eq_getElem hi]
  rfl
theorem sr_listM (d : α) (h : DE X Γ it (rLst X.K (xs.map R))) : SR X Γ tg it xs.length (fun i => R (xs.getD i d)) := by
  have h2 := sr_list (tg := tg) h
  rw [List.length_map] at h2
  exact h2.to fun i hi => getD_map d hi
theorem atI_map (d : α) {n : Int} (h0 : 0 ≤ n) (h1 : n < xs.length) : atI (xs.map R) n = some (R (xs.getD n.toNat d)) := by
  obtain ⟨m, rfl⟩ : ∃ m : Nat, n = m := ⟨n.toNat, by omega⟩
  refine atI_nat ?_
  have hm : m < xs.length := by omega
  rw [List.getElem?_map, List.getElem?_eq_getElem hm, Int.toNat_natCast, List.getD_eq_getElem?_getD, List.getElem?_eq_getElem hm]
  rfl
theorem de_ixM {n : Int} (d : α) (h0 : 0 ≤ n) (h1 : n < xs.length) (ha : DE X Γ a (rLst X.K (xs.map R))) (hb : DE X Γ b (rInt n)) (hs : PlainIx b := by exact fun _ _ => rfl) : DE X Γ (.Subscript a b pos) (R (xs.getD n.toNat d)) :=
  de_ixL (atI_map d h0 h1) ha hb hs
theorem de_ixOM {n : Int} (d : α) (B : BX X N sc k) (hΓ : Γ[i]? = some (.ow (xs.map R))) (hN : N[i]? = some x) (hv : Vis sc x) (h0 : 0 ≤ n) (h1 : n < xs.length) (hb : DE X Γ b (rInt n)) (hs : PlainIx b := by exact fun _ _ => rfl) (hd : (x == ("__debug__" : Str)) = false := by decide) (hcd : (x == ("__classdict__" : Str)) = false := by decide) :
    DE X Γ (.Subscript (.Name x p) b pos) (R (xs.getD n.toNat d)) := de_ixO B (atI_map d h0 h1) hΓ hN hv hb hs hd hcd
theorem de_lenM (B : BX X N sc k) (hm : X.mg "len" = none) (h : DE X Γ e (rLst X.K (xs.map R))) (hg : sc.names.lookup ("len" : Str) = some NameKind.globalImplicit) (he : starEach (e :: []) X.env = (false, eval e X.env) :: starEach [] X.env := by rfl) : DE X Γ (.Call (.Name "len" p) [e] [] pos) (rInt xs.length) := by
  have := de_lenL B hm h hg he (p := p) (pos := pos)
  rwa [List.length_map] at this
/-! a number or None -/
def rOpt (K : PySem.W.Frag) : Option Rat → Rep
  | none => rNon
  | some q => rNum K q
theorem de_n2o {q : Rat} (h : DE X Γ e (rNum X.K q)) : DE X Γ e (rOpt X.K (some q)) := h
theorem de_e2o (h : DE X Γ e rNon) : DE X Γ e (rOpt X.K none) := h
theorem de_o2n {o : Option Rat} (hn : o.isNone = false) (h : DE X Γ e (rOpt X.K o)) : DE X Γ e (rNum X.K (o.getD 0)) := by
  cases o with
  | none => cases hn
  | some q => exact h
/-! is True, is False -/
theorem dt_isN (ha : DE X Γ a rNon) {jj : Nat} : DT X Γ (.Compare a [.Is] [.Constant .none jj p] pos) true := dt_cmp op_isN (fun F H x y s h1 h2 Q q => by cases h1; cases h2; exact ⟨rfl, q _ F H (.refl s) rfl⟩) ha de_non (nomark _)
theorem dt_isN0 (hn : NotNon r) (ha : DE X Γ a r) {jj : Nat} : DT X Γ (.Compare a [.Is] [.Constant .none jj p] pos) false := dt_cmp op_isN (fun F H x y s h1 h2 Q q => by
  cases h2
  exact ⟨rfl, q _ F H (.refl s) (by show V.bl _ = V.bl _; rw [decide_eq_false (hn F x h1)])⟩) ha de_non (nomark _)
theorem dt_isNo {o : Option Rat} (h : DE X Γ a (rOpt X.K o)) {jj : Nat} : DT X Γ (.Compare a [.Is] [.Constant .none jj p] pos) o.isNone := by
  cases o with
  | none => exact dt_isN h
  | some q => exact dt_isN0 notNon_num h
/-! x in a list of numbers -/
end
end DL

set_option Elab.async false
set_option linter.all false
set_option maxRecDepth 100000
set_option maxHeartbeats 4000000
namespace DL
open PySem PySem.Spec PyProof.Rows L2
/-! ### comprehensions -/
def IsBlk (X : Cx) (scope : Scope) (X' : Cx) : Prop := ∃ (s : Shared) (H : Hp) (C : Addr) (cl : List (Str × Addr)) (fp : List Addr), X' = X.blk s H scope (compEnvC scope cl C X.env) fp
def TVs (X : Cx) (ifs : List Expr) (σ : L2.St) (H : Hp) (Q : Bool → Hp → Prop) : Prop := ∀ (pins : List (Addr × Obj)) (s : Shared), Inv X pins σ H s →
    wpAny (model X.prog X.w) X.A (forIn ifs true fun c r => if r = true then do let ok ← isTrue c X.env (eval c X.env); pure (ForInStep.yield ok) else pure (ForInStep.yield r)) (TP X pins σ Q) X.xe s
theorem TVs.of {X : Cx} {ifs : List Expr} {te : TT} {σ : L2.St} {H : Hp} {Q : Bool → Hp → Prop} (h : PTs X ifs te) (q : te σ H Q) : TVs X ifs σ H Q := fun pins s I => h.run pins s σ H Q I q
def DTs (X : Cx) (Γ : List Sl) (ifs : List Expr) (b : Bool) : Prop := ∀ F0 H0 F H σ, En F0 H0 F H σ Γ → ∀ Q : Bool → Hp → Prop, (∀ F' H', Gr F H F' H' → Q b H') → TVs X ifs σ H Q
theorem dts_nil {X : Cx} {Γ : List Sl} : DTs X Γ [] true := fun F0 H0 F H σ en Q q => .of pts_nil (q F H (.refl en.gr.s))
theorem dts_one {X : Cx} {Γ : List Sl} {c : Expr} {b : Bool} (h : DT X Γ c b) : DTs X Γ [c] b := fun F0 H0 F H σ en Q q => .of (pts_one pt_ev) (h F0 H0 F H σ en Q q)
def wipeG (Γ : List Sl) : List Nat → List Sl
  | [] => Γ
  | v :: vs => (wipeG Γ vs).set v .any
theorem En.wipe {F0 H0 F H : Hp} {σ : L2.St} {Γ : List Sl} (e : En F0 H0 F H σ Γ) : ∀ vs : List Nat, En F0 H0 F H (L2.wipe σ vs) (wipeG Γ vs)
  | [] => e
  | v :: vs => (En.wipe e vs).setAny none
section
variable {X : Cx} {N : List Str} {sc : Scope} {k j : Nat} {Γ Γ' Γ1 : List Sl} {tg it a b c e : Expr} {ifs es rest : List Expr} {r ra rb rc r' : Rep} {rs l l2 : List Rep} {pos p p2 : Pos} {x : Str} {i : Nat} {ws ws' : List Nat} {F0 H0 F1 F H : Hp} {σ : L2.St} {st body : List Stmt} {D : Ends} {n : Nat} {rr : Nat → Rep}
variable {scope : Scope} {own : List (Str × Nat)}
theorem BX.blk (B : BX X N sc k) {X' : Cx} (h : IsBlk X scope X') : BX X' N (relS scope sc) k := by
  obtain ⟨s, H, C, cl, fp, rfl⟩ := h
  exact ⟨B.hN, by show relS scope X.env.scope = _; rw [B.hsc], B.nd, B.room, B.calm, PassesOwn.never⟩
theorem wipe_wipe (σ : L2.St) (us : List Nat) : L2.wipe (L2.wipe σ us) us = L2.wipe σ us := by
  apply List.ext_getElem?
  intro j
  rw [wipe_get us (L2.wipe σ us) j, wipe_length]
  by_cases hj : j ∈ us ∧ j < σ.length
  · rw [if_pos hj, wipe_get us σ j, if_pos hj]
  · rw [if_neg hj]
theorem filter_snoc (tb : Nat → Bool) (f : Nat → Rep) (i : Nat) : ((List.range (i + 1)).filter tb).map f = ((List.range i).filter tb).map f ++ (if tb i = true then [f i] else []) := by
  rw [List.range_succ, List.filter_append, List.map_append]
  congr 1
  by_cases h : tb i = true
  · rw [if_pos h]; simp [h]
  · rw [if_neg h]; simp [h]
theorem dl_lc (B : BX X N sc k) (own : List (Str × Nat)) (hi : SR X Γ tg it n rr) (ok : BlkOk N sc scope own) (G1 : Nat → List Sl) (tb : Nat → Bool) (f : Nat → Rep) (hn : n < sizeLine) (hw : ∀ i ∈ ws, i ∈ own.map (·.2))
    (hg : ∀ (s : Shared) (H : Hp) (C : Addr) (cl : List (Str × Addr)) (fp : List Addr), BX (X.blk s H scope (compEnvC scope cl C X.env) fp) N (relS scope sc) k → ∀ i, i < n → DG (X.blk s H scope (compEnvC scope cl C X.env) fp) (wipeG Γ (own.map (·.2))) tg (rr i) (G1 i) ws)
    (ht : ∀ (s : Shared) (H : Hp) (C : Addr) (cl : List (Str × Addr)) (fp : List Addr), BX (X.blk s H scope (compEnvC scope cl C X.env) fp) N (relS scope sc) k → ∀ i, i < n → DTs (X.blk s H scope (compEnvC scope cl C X.env) fp) (G1 i) ifs (tb i))
    (he : ∀ (s : Shared) (H : Hp) (C : Addr) (cl : List (Str × Addr)) (fp : List Addr), BX (X.blk s H scope (compEnvC scope cl C X.env) fp) N (relS scope sc) k → ∀ i, i < n → tb i = true → DE (X.blk s H scope (compEnvC scope cl C X.env) fp) (G1 i) e (f i)) (hs : ∀ x, foldedSetIterable it X.env x = pure x := by intro _; rfl) :
    DL X Γ (.ListComp e [⟨tg, it, ifs, 0⟩] scope pos) (((List.range n).filter tb).map f) := fun F0 H0 F H σ en Q q => by
  replace hg : ∀ X', IsBlk X scope X' → BX X' N (relS scope sc) k → ∀ i, i < n → DG X' (wipeG Γ (own.map (·.2))) tg (rr i) (G1 i) ws := fun X' h B => by obtain ⟨s, H, C, cl, fp, rfl⟩ := h; exact hg s H C cl fp B
  replace ht : ∀ X', IsBlk X scope X' → BX X' N (relS scope sc) k → ∀ i, i < n → DTs X' (G1 i) ifs (tb i) := fun X' h B => by obtain ⟨s, H, C, cl, fp, rfl⟩ := h; exact ht s H C cl fp B
  replace he : ∀ X', IsBlk X scope X' → BX X' N (relS scope sc) k → ∀ i, i < n → tb i = true → DE X' (G1 i) e (f i) := fun X' h B => by obtain ⟨s, H, C, cl, fp, rfl⟩ := h; exact he s H C cl fp B
  let g : TG := fun v σ H Q => ∀ X', IsBlk X scope X' → GV X' tg v σ H Q
  let tt : TT := fun σ H Q => ∀ X', IsBlk X scope X' → TVs X' ifs σ H Q
  let te : TE := fun σ H Q => ∀ X', IsBlk X scope X' → EV X' e σ H Q
  have pg : ∀ (s : Shared) (H : Hp) (C : Addr) (cl : List (Str × Addr)) (fp : List Addr), PG (X.blk s H scope (compEnvC scope cl C X.env) fp) tg g := fun s H C cl fp => ⟨fun pins s' σ H v u Q I r h => h _ ⟨s, _, C, cl, fp, rfl⟩ pins s' u I r⟩
  have pt : ∀ (s : Shared) (H : Hp) (C : Addr) (cl : List (Str × Addr)) (fp : List Addr), PTs (X.blk s H scope (compEnvC scope cl C X.env) fp) ifs tt := fun s H C cl fp => ⟨fun pins s' σ H Q I h => h _ ⟨s, _, C, cl, fp, rfl⟩ pins s' I⟩
  have pe : ∀ (s : Shared) (H : Hp) (C : Addr) (cl : List (Str × Addr)) (fp : List Addr), PE (X.blk s H scope (compEnvC scope cl C X.env) fp) e te := fun s H C cl fp => ⟨fun pins s' σ H Q I h => h _ ⟨s, _, C, cl, fp, rfl⟩ pins s' I⟩
  refine .of (pe_lc B.calm (by rw [B.hN]; exact B.nd) pi_ev (by rw [B.hN, B.hsc]; exact ok) pg pt pe hs) ?_
  refine hi F0 H0 F H σ en _ fun J F1 H1 g1 wk => fun D hD => ?_
  have en1 := en.grow g1
  refine ⟨fun i m H => m = n - i ∧ i ≤ n ∧ ∃ F vs, Gr F1 H1 F H ∧ F D = none ∧ H D = some (.lst vs) ∧ RL F (((List.range i).filter tb).map f) vs, ⟨n, by simp, Nat.zero_le _, F1, [], .newOwn g1.s hD, g1.s.free hD, upd_same, .nil⟩, fun i m H2 hw2 => ?_⟩
  obtain ⟨rfl, hle, F2, vs, g2, d2, e2, l2⟩ := hw2
  have s2 : Same F1 H2 := g2.f.trans g2.s
  by_cases hlt : i < n
  · refine .inr ⟨wk.go i H2 s2 hlt, fun H => i + 1 ≤ n ∧ ∃ F vs, Gr F1 H1 F H ∧ F D = none ∧ H D = some (.lst vs) ∧ RL F (((List.range (i + 1)).filter tb).map f) vs, fun H' h => ⟨n - (i + 1), by omega, rfl, h.1, h.2⟩, fun x H3 hy => ?_⟩
    obtain ⟨F3, g3, hx⟩ := wk.yld i F2 H2 x H3 g2.f g2.s hlt hy
    have en3 := ((en1.grow (g2.trans g3)).wipe (own.map (·.2)))
    -- the target is stored
    have key : ∀ X', IsBlk X scope X' → ∀ Q : L2.St → Hp → Prop, (∀ F' H' σ', Gr F3 H3 F' H' → En F0 H0 F' H' σ' (G1 i) → Off ws (L2.wipe σ (own.map (·.2))) σ' → Q σ' H') → GV X' tg x (L2.wipe σ (own.map (·.2))) H3 Q := fun X' hX' Q hQ => hg X' hX' (B.blk hX') i hlt F0 H0 F3 H3 _ x en3 hx Q hQ
    intro X' hX'
    refine key X' hX' _ fun F4 H4 σ4 g4 en4 off => ⟨?_, fun X2 hX2 => ?_⟩
    · have := off (own.map (·.2)) hw
      rw [this]
      exact wipe_wipe _ _
    refine ht X2 hX2 (B.blk hX2) i hlt F0 H0 F4 H4 σ4 en4 _ fun F5 H5 g5 => ?_
    have gg5 := ((g2.trans g3).trans g4).trans g5
    have d5 : F5 D = none := (((g3.trans g4).trans g5).n D (by rw [e2]; exact fun z => nomatch z) d2)
    have h5 : H5 D = some (.lst vs) := ((g3.trans g4).trans g5).h _ _ e2
    have l5 := l2.mono ((g3.trans g4).trans g5).f
    cases hb : tb i with
    | false =>
      rw [if_neg Bool.false_ne_true]
      refine ⟨hlt, F5, vs, gg5, d5, h5, ?_⟩
      rw [filter_snoc, hb, if_neg Bool.false_ne_true, List.append_nil]
      exact l5
    | true =>
      rw [if_pos rfl]
      intro X3 hX3
      refine he X3 hX3 (B.blk hX3) i hlt hb F0 H0 F5 H5 σ4 (en4.grow g5) _ fun y F6 H6 g6 hy6 => ?_
      have h6 := g6.h _ _ h5
      have d6 := g6.n D (by rw [h5]; exact fun z => nomatch z) d5
      have hlen : vs.length < sizeLine := by
        rw [← l5.len, List.length_map]
        have := List.length_filter_le tb (List.range i)
        rw [List.length_range] at this
        omega
      refine ⟨vs, h6, hlen, hlt, F6, vs ++ [y], ?_, d6, upd_same, ?_⟩
      · have gg6 := gg5.trans g6
        exact ⟨gg6.f, fun b o z => by rw [upd_ne (ne_of_none z hD)]; exact gg6.h b o z, same_out gg6.s d6, gg6.n⟩
      · rw [filter_snoc, hb, if_pos rfl]
        exact (l5.mono g6.f).snoc hy6
  · have e : i = n := by omega
    subst e
    refine .inl ⟨wk.stop i H2 s2 (Nat.le_refl _), ?_⟩
    exact q D vs F2 H2 (g1.trans g2) (g1.h.free hD) d2 e2 l2
/-- over a list, without a test -/
theorem lc_all {α : Type} {R : α → Rep} {xs : List α} {d : α} {f : α → Rep} : ((List.range xs.length).filter fun _ => true).map (fun i => f (xs.getD i d)) = xs.map f := by
  rw [List.filter_eq_self.mpr (fun _ _ => rfl)]
  apply List.ext_getElem
  · simp
  · intro i h1 h2
    simp at h1 h2
    simp [List.getD_eq_getElem?_getD, List.getElem?_eq_getElem h2]
end
end DL

set_option linter.all false
set_option maxHeartbeats 4000000
namespace DL
open PySem L2
/-! sizes of numbers -/
theorem lg_dvd {a b : Int} (hb : b ≠ 0) (h : a ∣ b) : Lg a ≤ Lg b := lg_le (Nat.le_of_dvd (by omega) (Int.natAbs_dvd_natAbs.mpr h))
theorem fdiv_lg {a b : Int} (hb : b ≠ 0) (h : b ∣ a) : Lg (a.fdiv b) ≤ Lg a := by
  rw [Int.fdiv_eq_ediv_of_dvd h]
  by_cases h0 : a = 0
  · subst h0; simp
  · exact lg_dvd h0 (Int.ediv_dvd_of_dvd h)
theorem sz_ratio {t b : Int} {n : Nat} (hb : b ≠ 0) (h1 : Lg t ≤ n) (h2 : Lg b ≤ n) : Sz n ((t : Rat) / (b : Rat)) := by
  have hd := lowC_dvd t b
  refine ⟨?_, ?_⟩
  · rw [rat_num hb]
    exact Nat.le_trans (fdiv_lg (lowC_ne hb) hd.1) h1
  · rw [rat_den hb]
    exact Nat.le_trans (fdiv_lg (lowC_ne hb) hd.2) h2
theorem Sz.mono {m n : Nat} {q : Rat} (h : Sz m q) (k : m ≤ n) : Sz n q := ⟨Nat.le_trans h.1 k, Nat.le_trans h.2 k⟩
theorem sz_add {m n : Nat} {q r : Rat} (h : Sz m q) (k : Sz n r) : Sz (m + n + 2) (q + r) := by
  rw [← r_plus]
  refine sz_ratio (dd_ne q r) ?_ ?_ <;> grind [lg_mul, lg_add, Sz]
theorem sz_sub {m n : Nat} {q r : Rat} (h : Sz m q) (k : Sz n r) : Sz (m + n + 2) (q - r) := by
  rw [← r_minus]
  refine sz_ratio (dd_ne q r) ?_ ?_ <;> grind [lg_mul, lg_sub, Sz]
theorem sz_mul {m n : Nat} {q r : Rat} (h : Sz m q) (k : Sz n r) : Sz (m + n + 1) (q * r) := by
  rw [← r_times]
  refine sz_ratio (dd_ne q r) ?_ ?_ <;> grind [lg_mul, Sz]
theorem sz_div {m n : Nat} {q r : Rat} (hr : r ≠ 0) (h : Sz m q) (k : Sz n r) : Sz (m + n + 1) (q / r) := by
  rw [← r_over q r hr]
  refine sz_ratio (dn_ne hr) ?_ ?_ <;> grind [lg_mul, Sz]
theorem sz_int {n : Nat} {i : Int} (h : Lg i ≤ n) : Sz n (i : Rat) := by
  refine ⟨?_, ?_⟩
  · rw [Rat.num_intCast]; exact h
  · rw [Rat.den_intCast]
    have : Lg ((1 : Nat) : Int) = 0 := by decide
    omega
/-! the least common multiple of the bottoms -/
def lcmD (qs : List Rat) : Nat := qs.foldl (fun c q => Nat.lcm c q.den) 1
theorem take_snoc {α : Type} {xs : List α} {d : α} {i : Nat} (hi : i < xs.length) : xs.take (i + 1) = xs.take i ++ [xs.getD i d] := by
  rw [List.take_add_one, List.getElem?_eq_getElem hi, List.getD_eq_getElem?_getD, List.getElem?_eq_getElem hi]
  rfl
theorem lcmD_step {qs : List Rat} {i : Nat} (hi : i < qs.length) : lcmD (qs.take (i + 1)) = Nat.lcm (lcmD (qs.take i)) (qs.getD i 0).den := by
  unfold lcmD
  rw [take_snoc (d := 0) hi, List.foldl_append]
  rfl
theorem getD_mem {α : Type} {xs : List α} {d : α} {i : Nat} (hi : i < xs.length) : xs.getD i d ∈ xs := by
  rw [List.getD_eq_getElem?_getD, List.getElem?_eq_getElem hi]
  exact List.getElem_mem hi
theorem lg_lcm (a b : Nat) : Lg ((Nat.lcm a b : Nat) : Int) ≤ Lg (a : Int) + Lg (b : Int) + 1 := by
  have h : Nat.lcm a b ≤ a * b := Nat.div_le_self _ _
  have h2 := lg_mul (a : Int) (b : Int)
  have h3 : Lg ((Nat.lcm a b : Nat) : Int) ≤ Lg ((a : Int) * (b : Int)) := lg_le (by show Nat.lcm a b ≤ ((a : Int) * (b : Int)).natAbs; rw [Int.natAbs_mul]; exact h)
  omega
theorem lg_lcmD {n : Nat} : ∀ (qs : List Rat), (∀ q ∈ qs, Sz n q) → Lg (lcmD qs : Int) ≤ qs.length * (n + 1) := by
  have key : ∀ (qs : List Rat) (c : Nat), (∀ q ∈ qs, Sz n q) → Lg ((qs.foldl (fun c q => Nat.lcm c q.den) c : Nat) : Int) ≤ Lg (c : Int) + qs.length * (n + 1) := by
    intro qs
    induction qs with
    | nil => intro c _; simp
    | cons q qs ih =>
      intro c h
      rw [List.foldl_cons]
      have h1 := ih (Nat.lcm c q.den) fun x hx => h x (List.mem_cons_of_mem _ hx)
      have h2 := lg_lcm c q.den
      have h3 := (h q List.mem_cons_self).2
      rw [List.length_cons, Nat.add_mul]
      omega
  intro qs h
  have := key qs 1 h
  have h1 : Lg ((1 : Nat) : Int) = 0 := by decide
  unfold lcmD
  omega
/-! the least and the greatest -/
def stepMin (o : Option Rat) (q : Rat) : Option Rat := if (o.isNone || decide (q < o.getD 0)) = true then some q else o
def minO (qs : List Rat) : Option Rat := qs.foldl stepMin none
theorem minO_step {qs : List Rat} {i : Nat} (hi : i < qs.length) : minO (qs.take (i + 1)) = stepMin (minO (qs.take i)) (qs.getD i 0) := by
  unfold minO
  rw [take_snoc (d := 0) hi, List.foldl_append]
  rfl
theorem minO_mem : ∀ (qs : List Rat) (m : Rat), minO qs = some m → m ∈ qs ∧ ∀ q ∈ qs, ¬ q < m := by
  have key : ∀ (qs : List Rat) (o : Option Rat) (m : Rat), qs.foldl stepMin o = some m → (m ∈ qs ∨ o = some m) ∧ (∀ q ∈ qs, ¬ q < m) ∧ (∀ x, o = some x → ¬ x < m) := by
    intro qs
    induction qs with
    | nil => intro o m h; exact ⟨.inr h, fun _ z => by simp at z, fun x hx => by rw [show o = some m from h] at hx; cases hx; grind⟩
    | cons q qs ih =>
      intro o m h
      rw [List.foldl_cons] at h
      obtain ⟨h1, h2, h3⟩ := ih _ _ h
      unfold stepMin at h1 h3
      by_cases hc : (o.isNone || decide (q < o.getD 0)) = true
      · rw [if_pos hc] at h1 h3
        have hq := h3 q rfl
        refine ⟨.inl ?_, ?_, ?_⟩
        · rcases h1 with z | z
          · exact List.mem_cons_of_mem _ z
          · cases z; exact List.mem_cons_self
        · intro y hy
          rcases List.mem_cons.mp hy with rfl | z
          · exact hq
          · exact h2 y z
        · intro x hx
          subst hx
          simp at hc
          grind
      · rw [if_neg hc] at h1 h3
        refine ⟨?_, ?_, h3⟩
        · rcases h1 with z | z
          · exact .inl (List.mem_cons_of_mem _ z)
          · exact .inr z
        · intro y hy
          rcases List.mem_cons.mp hy with rfl | z
          · cases o with
            | none => simp at hc
            | some x =>
              have := h3 x rfl
              simp at hc
              grind
          · exact h2 y z
  intro qs m h
  obtain ⟨h1, h2, _⟩ := key qs none m h
  rcases h1 with z | z
  · exact ⟨z, h2⟩
  · cases z
theorem lcmD_small {qs : List Rat} {n i : Nat} (h : ∀ q ∈ qs, Sz n q) (h2 : qs.length * (n + 1) < 9000) (hi : i ≤ qs.length) : (((lcmD (qs.take i) : Nat) : Int)).natAbs.log2 < 10000 := by
  have h3 := lg_lcmD (n := n) (qs.take i) fun q hq => h q (List.mem_of_mem_take hq)
  have h4 : (qs.take i).length * (n + 1) ≤ qs.length * (n + 1) := Nat.mul_le_mul_right _ (by rw [List.length_take]; omega)
  have h5 : (((lcmD (qs.take i) : Nat) : Int)).natAbs.log2 = Lg ((lcmD (qs.take i) : Nat) : Int) := rfl
  omega
theorem den_small {qs : List Rat} {n i : Nat} (h : ∀ q ∈ qs, Sz n q) (h2 : n < 9000) (hi : i < qs.length) : (((qs.getD i 0).den : Int)).natAbs.log2 < 10000 := by
  have h3 := (h _ (getD_mem (d := 0) hi)).2
  have h5 : (((qs.getD i 0).den : Int)).natAbs.log2 = Lg ((qs.getD i 0).den : Int) := rfl
  omega
theorem sz_zero (n : Nat) : Sz n 0 := ⟨Nat.le_trans (show Lg 0 ≤ 0 by decide) (Nat.zero_le _), Nat.le_trans (show Lg ((1 : Nat) : Int) ≤ 0 by decide) (Nat.zero_le _)⟩
theorem minO_sz {qs : List Rat} {n i : Nat} (h : ∀ q ∈ qs, Sz n q) (hi : i < qs.length) : Sz n (qs.getD i 0) ∧ Sz n ((minO (qs.take i)).getD 0) := by
  refine ⟨h _ (getD_mem hi), ?_⟩
  cases e : minO (qs.take i) with
  | none => exact sz_zero n
  | some m => exact h m (List.mem_of_mem_take (minO_mem _ _ e).1)
/-! the law's Euclid -/
def eu (i : Nat) (p : Int × Int) : Int × Int := match i with
  | 0 => p
  | i + 1 => let q := eu i p; (q.2, q.1.fmod q.2)
structure EuJ (a b : Int) (i : Nat) : Prop where
  g : Int.gcd (eu i (a, b)).1 (eu i (a, b)).2 = Int.gcd a b
  p1 : 0 ≤ (eu i (a, b)).1
  p2 : 0 ≤ (eu i (a, b)).2
  lt : 1 ≤ i → (eu i (a, b)).2 < (eu i (a, b)).1
  bd : 1 ≤ i → (eu i (a, b)).1 * (eu i (a, b)).2 * 2 ^ (i - 1) ≤ a * b
theorem euJ0 {a b : Int} (ha : 0 ≤ a) (hb : 0 ≤ b) : EuJ a b 0 := ⟨rfl, ha, hb, fun z => by omega, fun z => by omega⟩
theorem euJ_step {a b : Int} {i : Nat} (h : EuJ a b i) (hy : (eu i (a, b)).2 ≠ 0) : EuJ a b (i + 1) := by
  obtain ⟨g, p1, p2, lt, bd⟩ := h
  have e1 : (eu (i + 1) (a, b)).1 = (eu i (a, b)).2 := rfl
  have e2 : (eu (i + 1) (a, b)).2 = (eu i (a, b)).1.fmod (eu i (a, b)).2 := rfl
  generalize hx : (eu i (a, b)).1 = x at *
  generalize hyy : (eu i (a, b)).2 = y at *
  have hm : x.fmod y = x % y := Int.fmod_eq_emod_of_nonneg _ p2
  have m0 : 0 ≤ x % y := Int.emod_nonneg _ hy
  have m1 : x % y < y := Int.emod_lt_of_pos _ (by omega)
  refine ⟨?_, ?_, ?_, ?_, ?_⟩
  · rw [e1, e2, hm, ← g, Int.emod_def, Int.gcd_sub_mul_left_right, Int.gcd_comm]
  · rw [e1]; exact p2
  · rw [e2, hm]; exact m0
  · intro _; rw [e1, e2, hm]; exact m1
  · intro _
    rw [e1, e2, hm]
    by_cases h0 : i = 0
    · subst h0
      have hxa : x = a := hx.symm
      have hyb : y = b := hyy.symm
      subst hxa hyb
      have : x % y ≤ x := by
        have := Int.mul_ediv_add_emod x y
        have : 0 ≤ y * (x / y) := Int.mul_nonneg p2 (Int.ediv_nonneg p1 p2)
        omega
      simp only [Nat.zero_add, Nat.sub_self, Int.pow_zero, Int.mul_one]
      rw [Int.mul_comm x y]
      exact Int.mul_le_mul_of_nonneg_left this p2
    · have hlt := lt (by omega)
      have hbd := bd (by omega)
      have h2 : 2 * (x % y) ≤ x := by
        have e := Int.mul_ediv_add_emod x y
        have hq : 1 ≤ x / y := (Int.le_ediv_iff_mul_le (by omega)).mpr (by omega)
        have : y * 1 ≤ y * (x / y) := Int.mul_le_mul_of_nonneg_left hq p2
        omega
      obtain ⟨j, rfl⟩ : ∃ j, i = j + 1 := ⟨i - 1, by omega⟩
      simp only [Nat.add_sub_cancel] at hbd ⊢
      rw [Int.pow_succ]
      have hp : (0 : Int) ≤ 2 ^ j := Int.pow_nonneg (by decide)
      have : y * (x % y) * 2 ≤ x * y := by
        rw [Int.mul_assoc, Int.mul_comm x y]
        exact Int.mul_le_mul_of_nonneg_left (by omega) p2
      calc y * (x % y) * (2 ^ j * 2) = y * (x % y) * 2 * 2 ^ j := by grind
        _ ≤ x * y * 2 ^ j := Int.mul_le_mul_of_nonneg_right this hp
        _ ≤ a * b := hbd
theorem eu_end {a b : Int} (h : EuJ a b 2000) (ha : 0 ≤ a) (hb : 0 ≤ b) (la : a < 2 ^ 990) (lb : b < 2 ^ 990) : (eu 2000 (a, b)).2 = 0 := by
  have hlt := h.lt (by decide)
  have hbd := h.bd (by decide)
  have p2 := h.p2
  rcases Int.lt_or_le 0 (eu 2000 (a, b)).2 with hy | hy
  · exfalso
    have h1 : (1 : Int) * 1 ≤ (eu 2000 (a, b)).1 * (eu 2000 (a, b)).2 := Int.mul_le_mul (by omega) (by omega) (by decide) (by omega)
    have hp : (0 : Int) ≤ 2 ^ (2000 - 1) := Int.pow_nonneg (by decide)
    have h2 := Int.mul_le_mul_of_nonneg_right h1 hp
    have h3 : a * b ≤ 2 ^ 990 * 2 ^ 990 := Int.mul_le_mul (by omega) (by omega) hb (Int.pow_nonneg (by decide))
    have h4 : (2 : Int) ^ 990 * 2 ^ 990 < 1 * 1 * 2 ^ (2000 - 1) := by decide +kernel
    omega
  · omega
theorem eu_gcd {a b : Int} {i : Nat} (h : EuJ a b i) (hz : (eu i (a, b)).2 = 0) : (eu i (a, b)).1 = (Int.gcd a b : Nat) := by
  have g := h.g
  have p1 := h.p1
  rw [hz, Int.gcd_zero_right] at g
  omega
theorem getD_out {ns : List Int} {k : Nat} (h : ¬ k < ns.length) : ns.getD k 0 = 0 := by
  rw [List.getD_eq_getElem?_getD, List.getElem?_eq_none (by omega)]
  rfl
theorem gcd_abs {s t : Int} : Int.gcd (s.natAbs : Int) (t.natAbs : Int) = Int.gcd s t := by simp [Int.gcd]
theorem lg_abs {s : Int} (h : Lg s < 990) : (s.natAbs : Int) < 2 ^ 990 := by
  have h1 := lg_lt h
  have : ((s.natAbs : Nat) : Int) < ((2 ^ 990 : Nat) : Int) := by omega
  simpa using this
theorem rat_den1b {t b : Int} (hb : b ≠ 0) (h : b.fdiv (lowC t b) = 1) : ((t : Rat) / (b : Rat)).den = 1 := by
  have := rat_den (t := t) hb
  omega
theorem low_terms {q : Rat} (hd : q.den ≠ 1) : (decide ((2 : Int) ≤ (q.den : Int)) && decide (((Int.gcd q.num (q.den : Int) : Nat) : Int) = 1)) = true := by
  have h1 := q.den_nz
  have h2 : Int.gcd q.num (q.den : Int) = 1 := q.reduced
  rw [h2]
  simp
  omega
/-! the law's numbers -/
def divs (c : Int) : Nat → Int
  | 0 => c
  | i + 1 => (divs c i).fdiv 10007
def bigN (c : Int) (j : Nat) : Int := (divs c j).fmod 10007
def smallN (c : Int) (j : Nat) : Int := (((c * 48271 + 69621 * (j : Int) + 11).fmod 2147483647).fdiv 16 * 7919 + (j : Int)).fmod 10007
def lawNums (ns : List Int) (k many : Nat) : List Int := if (10 : Int) ^ 18 ≤ ((ns.getD k 0).natAbs : Int) then (List.range many).map (bigN (ns.getD k 0).natAbs) else (List.range many).map (smallN (ns.getD k 0).natAbs)
theorem lawNums_len (ns : List Int) (k many : Nat) : (lawNums ns k many).length = many := by
  unfold lawNums
  split <;> simp
theorem lawNums_mem {ns : List Int} {k many : Nat} {x : Int} (h : x ∈ lawNums ns k many) : 0 ≤ x ∧ x < 10007 := by
  have key : ∀ y : Int, 0 ≤ y.fmod 10007 ∧ y.fmod 10007 < 10007 := fun y => ⟨Int.fmod_nonneg_of_pos _ (by decide), Int.fmod_lt_of_pos _ (by decide)⟩
  unfold lawNums at h
  split at h
  · obtain ⟨j, _, rfl⟩ := List.mem_map.mp h
    exact key _
  · obtain ⟨j, _, rfl⟩ := List.mem_map.mp h
    exact key _
theorem mul_s {i j : Int} (h1 : i.natAbs < 18446744073709551616) (h2 : j.natAbs < 18446744073709551616) : Lg i + Lg j < 1000000 := by
  have a := lg_of (n := 64) (by decide) (show i.natAbs < 2 ^ 64 from h1)
  have b := lg_of (n := 64) (by decide) (show j.natAbs < 2 ^ 64 from h2)
  omega
theorem sm16 (x : Int) : ((x.fmod 2147483647).fdiv 16).natAbs < 18446744073709551616 := by
  have h1 := Int.fmod_nonneg_of_pos x (show (0 : Int) < 2147483647 by decide)
  have h2 := Int.fmod_lt_of_pos x (show (0 : Int) < 2147483647 by decide)
  rw [Int.fdiv_eq_ediv_of_nonneg _ (by decide)]
  omega
/-! the law's values -/
theorem fl_lg0 {q : Rat} {n : Nat} (h : Sz n q) : Lg q.floor ≤ n := by
  rw [Rat.floor_def]
  refine Nat.le_trans (lg_le ?_) h.1
  exact Int.natAbs_ediv_le_natAbs q.num (q.den : Int)
/-! the law's lists -/
theorem lcm_fdiv {a b : Nat} : (((a : Int) * (b : Int))).fdiv ((Int.gcd (a : Int) (b : Int) : Nat) : Int) = ((Nat.lcm a b : Nat) : Int) := by
  rw [Int.fdiv_eq_ediv_of_nonneg _ (by omega)]
  show ((a : Int) * (b : Int)) / ((Nat.gcd a b : Nat) : Int) = ((a * b / Nat.gcd a b : Nat) : Int)
  rw [Int.natCast_ediv, Int.natCast_mul]
theorem gcd_nz {a : Int} {q : Rat} : ((Int.gcd a (q.den : Int) : Nat) : Int) ≠ 0 := by
  have := gcd_pos (t := a) (b := (q.den : Int)) (den_neI q)
  omega
theorem stepMin_some (o : Option Rat) (q : Rat) : (stepMin o q).isNone = false := by
  unfold stepMin
  split
  · rfl
  · rename_i h
    cases o with
    | none => simp at h
    | some x => rfl
theorem minO_none {qs : List Rat} (h : qs ≠ []) : (minO qs).isNone = false := by
  unfold minO
  rw [← List.dropLast_concat_getLast h, List.foldl_append]
  exact stepMin_some _ _
end DL

set_option Elab.async false
set_option linter.all false
set_option maxRecDepth 100000
set_option maxHeartbeats 4000000
namespace DL
open PySem PySem.Spec PyProof.Rows L2
section
variable {X : Cx} {N : List Str} {sc : Scope} {k j : Nat} {Γ Γ' Γ1 : List Sl} {tg it a b c e o : Expr} {ifs es rest : List Expr} {r ra rb rc r' : Rep} {rs l l2 : List Rep} {pos p p2 apos : Pos} {x : Str} {i : Nat} {F0 H0 F1 F H : Hp} {σ : L2.St} {st body : List Stmt} {D : Ends}
/-! ### texts -/
variable {s t : Str}
/-- a constant of the module -/
theorem de_glob {v : V} (B : BX X N sc k) (hm : ∃ u, X.mg x = some u ∧ RelV v u) (hg : sc.names.lookup x = some .globalImplicit) (hd : (x == ("__debug__" : Str)) = false := by decide) : DE X Γ (.Name x pos) (rC v) := fun F0 H0 F H σ en Q q => by
  have hgl : Gl X x := by
    show X.env.scope.names.lookup x = _
    rw [B.hsc]
    exact hg
  obtain ⟨u, h1, h2⟩ := hm
  exact .of (pe_glob hgl h1 h2 hd) (q v F H (.refl en.gr.s) rfl)
theorem de_catS (hl : s.length + t.length ≤ sizeLine) (ha : DE X Γ a (rStr s)) (hb : DE X Γ b (rStr t)) : DE X Γ (.BinOp a .Add b pos) (rStr (s ++ t)) := de_op op_add_str (fun F H x y sm h1 h2 Q q => by
  cases h1
  cases h2
  exact ⟨s, t, rfl, rfl, hl, q _ F H (.refl sm) rfl⟩) ha hb
theorem de_strI {n : Int} (B : BX X N sc k) (hm : X.mg "str" = none) (hn : Lg n < 1920) (ha : DE X Γ a (rInt n)) (hg : sc.names.lookup ("str" : Str) = some NameKind.globalImplicit)
    (he : starEach (a :: []) X.env = (false, eval a X.env) :: starEach [] X.env := by rfl) : DE X Γ (.Call (.Name "str" p) [a] [] pos) (rStr (toString n)) :=
  de_bty B call_str_int (fun F H vs sm hv Q q => by
    obtain ⟨v, rfl, k1⟩ := rl1 hv
    cases k1
    exact ⟨n, rfl, hn, q _ F H (.refl sm) rfl⟩) hm (by decide +kernel) (da_cons ha da_nil he) hg (he := he)
theorem de_lenS (B : BX X N sc k) (hm : X.mg "len" = none) (hl : s.length ≤ sizeLine) (ha : DE X Γ a (rStr s)) (hg : sc.names.lookup ("len" : Str) = some NameKind.globalImplicit)
    (he : starEach (a :: []) X.env = (false, eval a X.env) :: starEach [] X.env := by rfl) : DE X Γ (.Call (.Name "len" p) [a] [] pos) (rInt s.length) :=
  de_blt B call_len_str (fun F H vs sm hv Q q => by
    obtain ⟨v, rfl, k1⟩ := rl1 hv
    cases k1
    exact ⟨s, rfl, hl, q _ F H (.refl sm) rfl⟩) hm PySem.boot_len (da_cons ha da_nil he) hg (he := he)
theorem vstr_dec : decide (V.str s = V.str t) = decide (s = t) := by
  by_cases h : s = t
  · rw [decide_eq_true h, h, decide_eq_true rfl]
  · rw [decide_eq_false h, decide_eq_false fun z => h (V.str.inj z)]
theorem b2_eqS : B2 rEq (rStr s) (rStr t) (rBl (decide (s = t))) := by
  have h := b2_eq (x := .str s) (y := .str t) rfl
  rw [vstr_dec] at h
  exact h
theorem b2_neS : B2 rNe (rStr s) (rStr t) (rBl (!decide (s = t))) := by
  have h := b2_ne (x := .str s) (y := .str t) rfl
  rw [vstr_dec] at h
  exact h
theorem dt_eqS (ha : DE X Γ a (rStr s)) (hb : DE X Γ b (rStr t)) : DT X Γ (.Compare a [.Eq] [b] pos) (decide (s = t)) := dt_cmp op_eq b2_eqS ha hb (nomark _)
theorem dt_neS (ha : DE X Γ a (rStr s)) (hb : DE X Γ b (rStr t)) : DT X Γ (.Compare a [.NotEq] [b] pos) (!decide (s = t)) := dt_cmp op_ne b2_neS ha hb (nomark _)
end
end DL

set_option linter.all false
set_option maxRecDepth 100000
set_option maxHeartbeats 4000000
namespace DL
open PySem L2 TL
/-! ### numbers as texts -/
/-! ### the reading of a number -/
def isBdn (x : Str) : Bool := (!Txt.isdigit x) || decide ((400 : Int) < (x.length : Int))
def isNumr (x : Str) : Bool := (!isBdn x) && (decide (x = ("0" : Str)) || !Txt.startswith x ("0" : Str))
def pNeg (x : Str) : Bool := Txt.startswith x ("-" : Str)
def pUns (x : Str) : Str := if pNeg x = true then cutS x (some 1) none else x
def pTop (x : Str) : Str := (Txt.partition (pUns x) ("/" : Str)).1
def pSls (x : Str) : Str := (Txt.partition (pUns x) ("/" : Str)).2.1
def pBot (x : Str) : Str := if ((pSls x).length : Int) = 0 then ("1" : Str) else (Txt.partition (pUns x) ("/" : Str)).2.2
def pBad (x : Str) : Bool := (!isNumr (pTop x)) || ((!isNumr (pBot x)) || decide (pBot x = ("0" : Str)))
def pInt (x : Str) : Int := (intText? x).getD 0
def pAbs (x : Str) : Rat := ((pInt (pTop x) : Int) : Rat) / ((pInt (pBot x) : Int) : Rat)
def pNum (x : Str) : Rat := if pNeg x = true then ((0 : Int) : Rat) - pAbs x else pAbs x
/-- what is asked of a text that is read -/
structure RdOk (x : Str) : Prop where
  len : x.length ≤ 100000
  num : pBad x = false → intText? (pTop x) = some (pInt (pTop x)) ∧ intText? (pBot x) = some (pInt (pBot x)) ∧ pInt (pBot x) ≠ 0 ∧ Lg (pInt (pTop x)) ≤ 1400 ∧ Lg (pInt (pBot x)) ≤ 1400
/-! ### a number's own text is read back -/
end DL

set_option Elab.async false
set_option linter.all false
set_option maxRecDepth 100000
set_option maxHeartbeats 4000000
namespace DL
open PySem PySem.Spec PyProof.Rows L2 TL
section
variable {X : Cx} {N : List Str} {sc : Scope} {k j : Nat} {Γ Γ' Γ1 : List Sl} {a b c e o : Expr} {r ra rb rc r' : Rep} {pos p p2 apos : Pos} {x : Str} {i : Nat} {s t : Str}
end
section
variable {x : Str}
structure PF (x b : Str) : Prop where
  it : intText? (Txt.partition (pUns x) ("/" : Str)).1 = some (pInt (pTop x))
  ib : intText? b = some (pInt (pBot x))
  nz : pInt (pBot x) ≠ 0
  lt : Lg (pInt (pTop x)) ≤ 1400
  lb : Lg (pInt (pBot x)) ≤ 1400
  wt : (Txt.partition (pUns x) ("/" : Str)).1.length ≤ 640
  wb : b.length ≤ 640
  sz : Sz 1402 (pAbs x)
  sn : Sz 1404 (pNum x)
end
theorem nd_t {p : Prop} [Decidable p] (h : (!decide p) = true) : ¬ p := by simpa using h
theorem nd_f {p : Prop} [Decidable p] (h : (!decide p) = false) : p := by simpa using h
end DL

set_option Elab.async false
set_option linter.all false
set_option maxRecDepth 100000
set_option maxHeartbeats 4000000
namespace DL
open PySem PySem.Spec PyProof.Rows L2
/-! ### try: f(..) except C as e: return .. -/
structure FX (X : Cx) (W : WX) : Prop where
  st : X.stack = X.env :: X.outer
  fr : X.env.frame = some X.env.locals
  tk : Takes X W
section
variable {P : Program} {w : World} {K : PySem.W.Frag} {mg : Str → Option Value} {base : Heap} {k : Nat} {x : Str} {st : Stmt} {N ps : List Str} {ι : Type} {pre : ι → Prop} {args : ι → List Rep} {res : ι → Ret}
theorem cal_okT (T : TD K mg x st) (S : FnScope N ps (defScope st)) (hn : ∀ g, (args g).length = ps.length)
    (hb : ∀ (kV doc pm : Value) (an : Option Addr) (cdv ct : Value) (us : List Value), us.length = ps.length → bindArgs (PySem.W.fnOf x x (defArgs st) (defBody st) (defScope st) .none kV doc pm an cdv ct) ⟨us, []⟩ = pure (ps.zip us))
    (body : ∀ (X : Cx), X.prog = P → X.w = w → X.K = K → X.mg = mg → X.base = base → FX X (fun _ _ _ _ => False) → BX X N (defScope st) k → (∀ x : Str, X.fn x = true) → ∀ (g : ι) (F0 H0 : Hp) (D : Ends), pre g → RT F0 H0 (res g) D → (∀ σ H', D.nx σ H' = D.rt .non H') →
      GO X F0 H0 (defBody st) D ((args g).map Sl.im ++ List.replicate (N.length - ps.length) .any)) : Cal P w K mg base (k + 1) x (Pm pre args res) := by
  obtain ⟨f, fd, F, hm⟩ := T.ex
  refine ⟨f, fd, ps, ?_, hm, F.kp, F.binds hb⟩
  refine FnOk.wide (F.ok S (fun vs H Q E h => ?_) (fun cdv A outer s H vs Q E hr h => ?_))
  · obtain ⟨g, F1, _, _, h1, _⟩ := h
    rw [← h1.len, hn]
  · obtain ⟨g, F1, hp, hs, h1, q⟩ := h
    refine ⟨_, pss_ev, ?_⟩
    have hpl : ps.length ≤ N.length := by have := congrArg List.length S.pre; rw [List.length_take] at this; omega
    have en := en_start (N := N) hs h1 (by rw [hn]; exact hpl)
    rw [hn] at en
    exact body _ rfl rfl rfl rfl rfl ⟨rfl, rfl, fun u s' ⟨_, _, _, _, _, _, _, _, _, _, _, _, _, _, _, _, z⟩ => z.elim⟩ ⟨rfl, rfl, S.nd, hr, rfl, PassesOwn.never⟩ (fun _ => rfl) g F1 H { nx := fun _ H' => Q .non H', rt := Q } hp q (fun _ _ => rfl) F1 H _ en
end
section
variable {X Y : Cx} {N : List Str} {sc : Scope} {k i : Nat} {Γ : List Sl} {a b c e : Expr} {rest : List Expr} {body suite st : List Stmt} {b₀ : Stmt} {x n : Str} {cv : Value} {np p p2 pos pos' : Pos} {W : WX} {D : Ends} {F0 H0 : Hp} {u v : Bool} {σ : L2.St} {H : Hp}
def tsu (X : Cx) (suite : List Stmt) (a : Addr) (cls : Value) (d : Option Addr) : TS := fun D σ H => ∀ (oe : Obj) (pn : List (Addr × Obj)), Zc cls d oe → (∃ vs, oe.data = .fields vs) → XS (X.suite a ((a, oe) :: pn)) suite D σ H
def tbo (X : Cx) (body : List Stmt) (W : WX) : TS := fun D σ H => ∀ (pn : List (Addr × Obj)) (xe : Value → Shared → Prop), Takes (X.tr pn xe) W → PassesOwn (model X.prog X.w) X.A X.env xe → XS (X.tr pn xe) body D σ H
theorem go_tryR (B : BX X N sc k) (Z : FX X W) (hN : N[i]? = some n) (hln : sc.names.lookup n = some .local) (hx : sc.names.lookup x = some .globalImplicit) (hm : X.mg x = some cv) (hd : (x == ("__debug__" : Str)) = false)
    (hb : ∀ pn xe, BX (X.tr pn xe) N sc k → Takes (X.tr pn xe) (wAs X.K cv i (tsu X (b₀ :: suite)) W { D with nx := XS X st D }) → GO (X.tr pn xe) F0 H0 body { D with nx := XS X st D } Γ) :
    GO X F0 H0 (.Try body [.ExceptHandler (some (.Name x np)) (some n) (b₀ :: suite) pos'] [] [] pos :: st) D Γ := fun F H σ en => by
  have hgl : Gl X x := by
    show X.env.scope.names.lookup x = _
    rw [B.hsc]
    exact hx
  have hk : X.env.kindOf n = some .local := by
    show X.env.scope.names.lookup n = _
    rw [B.hsc]
    exact hln
  refine .of (pss_cons (ps_try_as Z.st Z.fr (by rw [B.hN]; exact B.nd) (by rw [B.hN]; exact hN) hk ⟨hgl, hd, .inl hm⟩ Z.tk (tb := tbo X body) (ts := tsu X (b₀ :: suite)) (fun W pn xe tk po => ⟨fun pins s σ H D I h => h pn xe tk po pins s I⟩) (fun a oe cls d pn hz hv => ⟨fun pins s σ H D I h => h oe pn hz hv pins s I⟩)) pss_ev) ?_
  exact fun pn xe tk po => hb pn xe ⟨B.hN, B.hsc, B.nd, B.room, B.calm, po⟩ tk F H σ en
/-! an expression that tells and makes nothing -/
/-- e is a class of the program or a built-in one -/
def ClsE (Y : Cx) (e : Expr) (cv : Value) : Prop := ∃ c : V, (∀ u, RelV c u → u = cv) ∧ PE Y e (tC c)
theorem clsE_own {C : Addr} (hg : Gl Y x) (hm : Y.mg x = some (.ref C)) (hd : (x == ("__debug__" : Str)) = false := by decide) : ClsE Y (.Name x pos) (.ref C) := ⟨.ref C, fun u h => h, pe_glob hg hm rfl hd⟩
theorem clsE_blt {T : String} (hg : Gl Y x) (hm : Y.mg x = none) (hv : bootBuiltins x = some (.type T)) (hn : x ≠ "__name__" := by decide) (hd : (x == ("__debug__" : Str)) = false := by decide) : ClsE Y (.Name x pos) (.type T) := ⟨.ty T, fun u h => h, pe_bltn (v := .ty T) hg hm hv rfl hn hd⟩
end
end DL

set_option Elab.async false
set_option linter.all false
set_option maxRecDepth 100000
set_option maxHeartbeats 4000000
namespace DL
open PySem PySem.Spec PyProof.Rows L2
/-- a list of the heap that stands still -/
def rLh (l : List Rep) : Rep := ⟨fun F x => ∃ a vs, x = .ref a ∧ F a = some (.lst vs) ∧ RL F l vs, fun s ⟨a, vs, e, h, q⟩ => ⟨a, vs, e, s _ _ h, q.mono s⟩⟩
theorem sub_h2l {K : PySem.W.Frag} {l : List Rep} : Sub (rLh l) (rLst K l) := fun F v ⟨a, vs, e, h, q⟩ => ⟨a, vs, e, SqL.of h, q⟩
section
variable {X : Cx} {N : List Str} {sc : Scope} {k i : Nat} {Γ Γ' : List Sl} {a b c e : Expr} {l l2 : List Rep} {pos : Pos} {F0 H0 F H : Hp} {σ : L2.St} {st body orelse : List Stmt} {D : Ends}
theorem de_h2l (h : DE X Γ e (rLh l)) : DE X Γ e (rLst X.K l) := h.sub sub_h2l
theorem DL.hfz (h : DL X Γ e l) : DE X Γ e (rLh l) := fun F0 H0 F H σ en Q q => h F0 H0 F H σ en Q fun p vs F' H' g h1 h2 h3 h4 =>
  q (.ref p) (upd F' p (.lst vs)) H' ⟨g.f.trans (same_new h2), g.h, fun b o z => by
    by_cases hb : b = p
    · subst hb
      rw [upd_same] at z
      rw [h3, ← z]
    · rw [upd_ne hb] at z
      exact g.s b o z, fun a ha z => by
    have hp : a ≠ p := fun y => ha (y ▸ h1)
    rw [upd_ne hp]
    exact g.n a ha z⟩ ⟨p, vs, rfl, upd_same, h4.mono (same_new h2)⟩
theorem dl_catH (hz : l.length + l2.length ≤ sizeLine) (ha : DE X Γ a (rLh l)) (hb : DE X Γ b (rLh l2)) : DL X Γ (.BinOp a .Add b pos) (l ++ l2) := fun F0 H0 F H σ en Q q =>
  .of (pe_op op_cat pe_ev pe_ev) (ha F0 H0 F H σ en _ fun v F1 H1 g1 h1 => hb F0 H0 F1 H1 σ (en.grow g1) _ fun u F2 H2 g2 h2 => by
    obtain ⟨p1, v1, rfl, k1, r1⟩ := h1
    obtain ⟨p2, v2, rfl, k2, r2⟩ := h2
    refine ⟨p1, p2, v1, v2, rfl, rfl, g2.s _ _ (g2.f _ _ k1), g2.s _ _ k2, by rw [← (r1.mono g2.f).len, ← r2.len]; exact hz, fun p hp => ?_⟩
    exact q p _ F2 _ ((g1.trans g2).trans (.newOwn g2.s hp)) ((g1.trans g2).h.free hp) (g2.s.free hp) upd_same ((r1.mono g2.f).app r2))
theorem En.freezeH (e : En F0 H0 F H σ Γ) (h : Γ[i]? = some (.ow l)) : ∃ F', Same F F' ∧ Same F' H ∧ En F0 H0 F' H σ (Γ.set i (.im (rLh l))) := by
  obtain ⟨p, vs, h1, h2, h3, h4, h5⟩ := e.ow h
  have s1 : Same F (upd F p (.lst vs)) := same_new h2
  have s2 : Same (upd F p (.lst vs)) H := fun b o z => by
    by_cases hb : b = p
    · subst hb
      rw [upd_same] at z
      rw [h3, ← z]
    · rw [upd_ne hb] at z
      exact e.gr.s b o z
  have nn : ∀ {j : Nat} {q : Addr} {m : List Rep}, j ≠ i → Γ[j]? = some (.ow m) → σ[j]? = some (some (.ref q)) → q ≠ p := fun {j q m} hj k1 k2 z => hj (e.sep j i p m l k1 h (z ▸ k2) h1)
  refine ⟨upd F p (.lst vs), s1, s2, ?_⟩
  exact {
    gr := ⟨e.gr.f.trans s1, e.gr.h, s2, fun a ha z => by
      have hp : a ≠ p := fun y => ha (y ▸ h5)
      rw [upd_ne hp]
      exact e.gr.n a ha z⟩
    len := by simpa using e.len
    ok := fun j s x k1 k2 => by
      rcases get_set k1 with ⟨rfl, rfl⟩ | ⟨n, k1⟩
      · rw [h1] at k2
        cases k2
        exact ⟨.ref p, rfl, p, vs, rfl, upd_same, h4.mono s1⟩
      · have q := e.ok j s x k1 k2
        cases s with
        | any => trivial
        | im r =>
          obtain ⟨v, a, b⟩ := q
          exact ⟨v, a, r.mono s1 b⟩
        | ow m =>
          obtain ⟨p2, ws2, a, b, c, d⟩ := q
          subst a
          refine ⟨p2, ws2, rfl, ?_, c, d.mono s1⟩
          rw [upd_ne (nn (Ne.symm n) k1 k2)]
          exact b
    own := fun j q m k1 k2 => by
      rcases get_set k1 with ⟨_, z⟩ | ⟨n, k1⟩
      · cases z
      · exact e.own j q m k1 k2
    sep := fun j k q m m' k1 k1' k2 k2' => by
      rcases get_set k1 with ⟨_, z⟩ | ⟨n, k1⟩
      · cases z
      rcases get_set k1' with ⟨_, z⟩ | ⟨n', k1'⟩
      · cases z
      exact e.sep j k q m m' k1 k1' k2 k2' }
theorem go_frozH (i : Nat) (hΓ : Γ[i]? = some (.ow l)) (h : GO X F0 H0 st D (Γ.set i (.im (rLh l)))) : GO X F0 H0 st D Γ := fun F H σ en => by
  obtain ⟨F', s1, s2, en'⟩ := en.freezeH hΓ
  exact h F' H σ en'
/-- the frame, told anew -/
theorem go_nf {X : Cx} {F0 H0 : Hp} {st : List Stmt} {D : Ends} {Γ : List Sl} (Γ' : List Sl) (e : Γ = Γ') (h : GO X F0 H0 st D Γ') : GO X F0 H0 st D Γ := e ▸ h
/-- an if, both ways to the same place -/
theorem go_ifK {t : Bool} (up : List (Nat × Sl)) (hc : DT X Γ c t) (hk : GO X F0 H0 st D (sets Γ up)) (h1 : GO X F0 H0 st D (sets Γ up) → t = true → GO X F0 H0 body { D with nx := XS X st D } Γ) (h2 : GO X F0 H0 st D (sets Γ up) → t = false → GO X F0 H0 orelse { D with nx := XS X st D } Γ) : GO X F0 H0 (.If c body orelse pos :: st) D Γ :=
  go_if hc (h1 hk) (h2 hk)
theorem go_join (hk : GO X F0 H0 st D Γ') (h : SlLe Γ Γ') : GO X F0 H0 [] { D with nx := XS X st D } Γ := go_nil fun F H σ en => hk F H σ (en.le h)
end
end DL

set_option Elab.async false
set_option linter.all false
set_option maxRecDepth 100000
set_option maxHeartbeats 4000000
namespace DL
open PySem PySem.Spec PyProof.Rows L2
section
variable {X : Cx} {N : List Str} {sc : Scope} {k j : Nat} {Γ Γ' Γ1 : List Sl} {tg it a b c e o : Expr} {ifs es rest : List Expr} {r ra rb rc r' : Rep} {rs l l2 : List Rep} {pos p p2 apos : Pos} {x : Str} {i n : Nat} {rr : Nat → Rep} {ws : List Nat} {scope : Scope}
theorem go_setLc {F0 H0 : Hp} {st : List Stmt} {D : Ends} {iy : Nat} {y : Str} {py spos : Pos} {l' : List Rep} (B : BX X N sc k) (own : List (Str × Nat)) (hi : SR X Γ tg it n rr) (ok : BlkOk N sc scope own) (G1 : Nat → List Sl) (tb : Nat → Bool) (f : Nat → Rep) (hn : n < sizeLine) (hw : ∀ i ∈ ws, i ∈ own.map (·.2))
    (hg : ∀ (s : Shared) (H : Hp) (C : Addr) (cl : List (Str × Addr)) (fp : List Addr), BX (X.blk s H scope (compEnvC scope cl C X.env) fp) N (relS scope sc) k → ∀ i, i < n → DG (X.blk s H scope (compEnvC scope cl C X.env) fp) (wipeG Γ (own.map (·.2))) tg (rr i) (G1 i) ws)
    (ht : ∀ (s : Shared) (H : Hp) (C : Addr) (cl : List (Str × Addr)) (fp : List Addr), BX (X.blk s H scope (compEnvC scope cl C X.env) fp) N (relS scope sc) k → ∀ i, i < n → DTs (X.blk s H scope (compEnvC scope cl C X.env) fp) (G1 i) ifs (tb i))
    (he : ∀ (s : Shared) (H : Hp) (C : Addr) (cl : List (Str × Addr)) (fp : List Addr), BX (X.blk s H scope (compEnvC scope cl C X.env) fp) N (relS scope sc) k → ∀ i, i < n → tb i = true → DE (X.blk s H scope (compEnvC scope cl C X.env) fp) (G1 i) e (f i)) (hs : ∀ x, foldedSetIterable it X.env x = pure x := by intro _; rfl) (hl : ((List.range n).filter tb).map f = l')
    (hNy : N[iy]? = some y) (hyl : sc.names.lookup y = some .local) (h : GO X F0 H0 st D (Γ.set iy (.ow l'))) (hsw : ∀ env : Env, env.scope = sc → swapsWith (.ListComp e [⟨tg, it, ifs, 0⟩] scope pos) (some (.Name y py)) spos.line env = pure true) :
    GO X F0 H0 (.Assign [.Name y py] (.ListComp e [⟨tg, it, ifs, 0⟩] scope pos) spos :: st) D Γ := fun F H σ en => by
  subst hl
  have q : ∀ p vs F' H', Gr F H F' H' → H p = none → F' p = none → H' p = some (.lst vs) → RL F' (((List.range n).filter tb).map f) vs → XS X st D (σ.set iy (some (.ref p))) H' := fun p vs F' H' g h1 h2 h3 h4 => h F' H' _ ((en.grow g).setOw h2 h3 h4 (en.gr.h.free h1) fun j l' k1 k2 => by
    obtain ⟨p', vs', a1, a2, a3, a4, a5⟩ := en.ow k1
    rw [a1] at k2
    have e2 : p' = p := V.ref.inj (Option.some.inj (Option.some.inj k2))
    rw [e2, h1] at a3
    cases a3)
  clear h
  replace hg : ∀ X', IsBlk X scope X' → BX X' N (relS scope sc) k → ∀ i, i < n → DG X' (wipeG Γ (own.map (·.2))) tg (rr i) (G1 i) ws := fun X' h B => by obtain ⟨s, H, C, cl, fp, rfl⟩ := h; exact hg s H C cl fp B
  replace ht : ∀ X', IsBlk X scope X' → BX X' N (relS scope sc) k → ∀ i, i < n → DTs X' (G1 i) ifs (tb i) := fun X' h B => by obtain ⟨s, H, C, cl, fp, rfl⟩ := h; exact ht s H C cl fp B
  replace he : ∀ X', IsBlk X scope X' → BX X' N (relS scope sc) k → ∀ i, i < n → tb i = true → DE X' (G1 i) e (f i) := fun X' h B => by obtain ⟨s, H, C, cl, fp, rfl⟩ := h; exact he s H C cl fp B
  let g : TG := fun v σ H Q => ∀ X', IsBlk X scope X' → GV X' tg v σ H Q
  let tt : TT := fun σ H Q => ∀ X', IsBlk X scope X' → TVs X' ifs σ H Q
  let te : TE := fun σ H Q => ∀ X', IsBlk X scope X' → EV X' e σ H Q
  have pg : ∀ (s : Shared) (H : Hp) (C : Addr) (cl : List (Str × Addr)) (fp : List Addr), PG (X.blk s H scope (compEnvC scope cl C X.env) fp) tg g := fun s H C cl fp => ⟨fun pins s' σ H v u Q I r h => h _ ⟨s, _, C, cl, fp, rfl⟩ pins s' u I r⟩
  have pt : ∀ (s : Shared) (H : Hp) (C : Addr) (cl : List (Str × Addr)) (fp : List Addr), PTs (X.blk s H scope (compEnvC scope cl C X.env) fp) ifs tt := fun s H C cl fp => ⟨fun pins s' σ H Q I h => h _ ⟨s, _, C, cl, fp, rfl⟩ pins s' I⟩
  have pe : ∀ (s : Shared) (H : Hp) (C : Addr) (cl : List (Str × Addr)) (fp : List Addr), PE (X.blk s H scope (compEnvC scope cl C X.env) fp) e te := fun s H C cl fp => ⟨fun pins s' σ H Q I h => h _ ⟨s, _, C, cl, fp, rfl⟩ pins s' I⟩
  refine .of (pss_cons (ps_setLc (i := iy) B.calm (by rw [B.hN]; exact B.nd) (by rw [B.hN]; exact hNy) (by rw [B.hsc]; exact hyl) (hsw _ B.hsc) pi_ev (by rw [B.hN, B.hsc]; exact ok) pg pt pe hs) pss_ev) ?_
  refine hi F0 H0 F H σ en _ fun J F1 H1 g1 wk => fun D hD => ?_
  have en1 := en.grow g1
  refine ⟨fun i m H => m = n - i ∧ i ≤ n ∧ ∃ F vs, Gr F1 H1 F H ∧ F D = none ∧ H D = some (.lst vs) ∧ RL F (((List.range i).filter tb).map f) vs, ⟨n, by simp, Nat.zero_le _, F1, [], .newOwn g1.s hD, g1.s.free hD, upd_same, .nil⟩, fun i m H2 hw2 => ?_⟩
  obtain ⟨rfl, hle, F2, vs, g2, d2, e2, l2⟩ := hw2
  have s2 : Same F1 H2 := g2.f.trans g2.s
  by_cases hlt : i < n
  · refine .inr ⟨wk.go i H2 s2 hlt, fun H => i + 1 ≤ n ∧ ∃ F vs, Gr F1 H1 F H ∧ F D = none ∧ H D = some (.lst vs) ∧ RL F (((List.range (i + 1)).filter tb).map f) vs, fun H' h => ⟨n - (i + 1), by omega, rfl, h.1, h.2⟩, fun x H3 hy => ?_⟩
    obtain ⟨F3, g3, hx⟩ := wk.yld i F2 H2 x H3 g2.f g2.s hlt hy
    have en3 := ((en1.grow (g2.trans g3)).wipe (own.map (·.2)))
    -- the target is stored
    have key : ∀ X', IsBlk X scope X' → ∀ Q : L2.St → Hp → Prop, (∀ F' H' σ', Gr F3 H3 F' H' → En F0 H0 F' H' σ' (G1 i) → Off ws (L2.wipe σ (own.map (·.2))) σ' → Q σ' H') → GV X' tg x (L2.wipe σ (own.map (·.2))) H3 Q := fun X' hX' Q hQ => hg X' hX' (B.blk hX') i hlt F0 H0 F3 H3 _ x en3 hx Q hQ
    intro X' hX'
    refine key X' hX' _ fun F4 H4 σ4 g4 en4 off => ⟨?_, fun X2 hX2 => ?_⟩
    · have := off (own.map (·.2)) hw
      rw [this]
      exact wipe_wipe _ _
    refine ht X2 hX2 (B.blk hX2) i hlt F0 H0 F4 H4 σ4 en4 _ fun F5 H5 g5 => ?_
    have gg5 := ((g2.trans g3).trans g4).trans g5
    have d5 : F5 D = none := (((g3.trans g4).trans g5).n D (by rw [e2]; exact fun z => nomatch z) d2)
    have h5 : H5 D = some (.lst vs) := ((g3.trans g4).trans g5).h _ _ e2
    have l5 := l2.mono ((g3.trans g4).trans g5).f
    cases hb : tb i with
    | false =>
      rw [if_neg Bool.false_ne_true]
      refine ⟨hlt, F5, vs, gg5, d5, h5, ?_⟩
      rw [filter_snoc, hb, if_neg Bool.false_ne_true, List.append_nil]
      exact l5
    | true =>
      rw [if_pos rfl]
      intro X3 hX3
      refine he X3 hX3 (B.blk hX3) i hlt hb F0 H0 F5 H5 σ4 (en4.grow g5) _ fun y F6 H6 g6 hy6 => ?_
      have h6 := g6.h _ _ h5
      have d6 := g6.n D (by rw [h5]; exact fun z => nomatch z) d5
      have hlen : vs.length < sizeLine := by
        rw [← l5.len, List.length_map]
        have := List.length_filter_le tb (List.range i)
        rw [List.length_range] at this
        omega
      refine ⟨vs, h6, hlen, hlt, F6, vs ++ [y], ?_, d6, upd_same, ?_⟩
      · have gg6 := gg5.trans g6
        exact ⟨gg6.f, fun b o z => by rw [upd_ne (ne_of_none z hD)]; exact gg6.h b o z, same_out gg6.s d6, gg6.n⟩
      · rw [filter_snoc, hb, if_pos rfl]
        exact (l5.mono g6.f).snoc hy6
  · have e : i = n := by omega
    subst e
    refine .inl ⟨wk.stop i H2 s2 (Nat.le_refl _), ?_⟩
    exact q D vs F2 H2 (g1.trans g2) (g1.h.free hD) d2 e2 l2
end
section
variable {X : Cx} {Γ : List Sl} {es : List Expr} {rs : List Rep}
end
end DL

set_option Elab.async false
set_option linter.all false
set_option maxRecDepth 100000
set_option maxHeartbeats 4000000
namespace DL
open PySem PySem.Spec PyProof.Rows L2
/-! ### the law itself -/
section
variable {P : Program} {w : World} {K : PySem.W.Frag} {mg : Str → Option Value} {base : Heap} {k : Nat} {x : Str} {st : Stmt} {N ps : List Str} {ι : Type} {pre : ι → Prop} {args : ι → List Rep} {res : ι → Ret} {f : Addr} {fd : FuncData}
theorem cal_okF (F : Fun K x x st f fd) (S : FnScope N ps (defScope st)) (hn : ∀ g, (args g).length = ps.length)
    (body : ∀ (X : Cx), X.prog = P → X.w = w → X.K = K → X.mg = mg → X.base = base → BX X N (defScope st) k → (∀ x : Str, X.fn x = true) → ∀ (g : ι) (F0 H0 : Hp) (D : Ends), pre g → RT F0 H0 (res g) D → (∀ σ H', D.nx σ H' = D.rt .non H') →
      GO X F0 H0 (defBody st) D ((args g).map Sl.im ++ List.replicate (N.length - ps.length) .any)) : FnOk P w K mg base (L2.CX P w) (k + 1) f fd ps (Pm pre args res) := by
  refine FnOk.wide (F.ok S (fun vs H Q E h => ?_) (fun cdv A outer s H vs Q E hr h => ?_))
  · obtain ⟨g, F1, _, _, h1, _⟩ := h
    rw [← h1.len, hn]
  · obtain ⟨g, F1, hp, hs, h1, q⟩ := h
    refine ⟨_, pss_ev, ?_⟩
    have hpl : ps.length ≤ N.length := by have := congrArg List.length S.pre; rw [List.length_take] at this; omega
    have en := en_start (N := N) hs h1 (by rw [hn]; exact hpl)
    rw [hn] at en
    exact body _ rfl rfl rfl rfl rfl ⟨rfl, rfl, S.nd, hr, rfl, PassesOwn.never⟩ (fun _ => rfl) g F1 H { nx := fun _ H' => Q .non H', rt := Q } hp q (fun _ _ => rfl) F1 H _ en
end
theorem rl_ints (H : Hp) : ∀ ns : List Int, RL H (ns.map rInt) (ns.map V.int)
  | [] => .nil
  | _ :: r => .cons rfl (rl_ints H r)
end DL

set_option Elab.async false
set_option linter.all false
set_option maxRecDepth 100000
set_option maxHeartbeats 4000000
namespace DL
open PySem PySem.Spec PyProof.Rows L2
/-! ### data by kinds: what == tells -/
structure Dat {α : Type} [DecidableEq α] (K : PySem.W.Frag) (R : α → Rep) (d : α → PyData) (n : Nat) : Prop where
  dp : ∀ a, DpL K (R a) (d a)
  lay : ∀ a, PyData.canLay0 (d a) = true
  dep : ∀ a, PyData.depth (d a) ≤ n
  eq : ∀ a b, PyData.eqv (d a) (d b) = decide (a = b)
section
variable {K : PySem.W.Frag} {α : Type} [DecidableEq α] {R : α → Rep} {d : α → PyData} {n : Nat}
theorem dat_num : Dat K (rNum K) numD 1 := ⟨fun _ => dpl_num, fun _ => SeqAt.canLay_of_shaped shaped_num, fun q => by
    unfold numD
    split
    · exact Nat.zero_le _
    · show max 0 (max 0 0) + 1 ≤ 1
      decide, fun a b => numD_eq⟩
theorem eqvAll_map (h : ∀ a b, PyData.eqv (d a) (d b) = decide (a = b)) : ∀ l m : List α, PyData.eqvAll (l.map d) (m.map d) = decide (l = m)
  | [], [] => rfl
  | [], y :: m => by rw [decide_eq_false (by simp)]; rfl
  | x :: l, [] => by rw [decide_eq_false (by simp)]; rfl
  | x :: l, y :: m => by
    show (PyData.eqv (d x) (d y) && PyData.eqvAll (l.map d) (m.map d)) = _
    rw [h, eqvAll_map h l m]
    by_cases e : x = y
    · by_cases f : l = m <;> simp [e, f]
    · simp [e]
theorem canLayAll_map (h : ∀ a, PyData.canLay0 (d a) = true) : ∀ l : List α, PyData.canLayAll0 (l.map d) = true
  | [] => rfl
  | x :: l => by
    show (PyData.canLay0 (d x) && PyData.canLayAll0 (l.map d)) = true
    rw [h, canLayAll_map h l]; rfl
theorem depthAll_map (h : ∀ a, PyData.depth (d a) ≤ n) : ∀ l : List α, PyData.depthAll (l.map d) ≤ n
  | [] => Nat.zero_le _
  | x :: l => by
    show max (PyData.depth (d x)) (PyData.depthAll (l.map d)) ≤ n
    have := h x; have := depthAll_map h l; omega
theorem dat_lst (D : Dat K R d n) : Dat K (fun l : List α => rLst K (l.map R)) (fun l => .list (l.map d)) (n + 1) :=
  ⟨fun l => dpl_lst fun a _ => D.dp a, fun l => canLayAll_map D.lay l, fun l => Nat.succ_le_succ (depthAll_map D.dep l), fun l m => eqvAll_map D.eq l m⟩
theorem Dat.shaped (D : Dat K R d n) (h : n ≤ 64) (a : α) : SeqAt.shaped (d a) = true := by
  unfold SeqAt.shaped
  rw [Bool.and_eq_true]
  exact ⟨D.lay a, decide_eq_true (Nat.le_trans (D.dep a) h)⟩
end
section
variable {X : Cx} {N : List Str} {sc : Scope} {k j i : Nat} {Γ : List Sl} {a b e : Expr} {es : List Expr} {r ra rb : Rep} {l : List Rep} {pos p : Pos} {x : Str} {α : Type} [DecidableEq α] {R : α → Rep} {d : α → PyData} {n : Nat} {u v : α}
theorem dt_neT (D : Dat X.K R d n) (hn : n ≤ 64) (B : BX X N sc k) (ha : DE X Γ a (R u)) (hb : DE X Γ b (R v)) : DT X Γ (.Compare a [.NotEq] [b] pos) (!decide (u = v)) := (dt_cmp (op_neD B.hu) (b2_neD (D.dp u) (D.dp v) (D.shaped hn u) (D.shaped hn v)) ha hb (nomark _)).to (by rw [D.eq])
theorem de_eqT (D : Dat X.K R d n) (hn : n ≤ 64) (B : BX X N sc k) (ha : DE X Γ a (R u)) (hb : DE X Γ b (R v)) : DE X Γ (.Compare a [.Eq] [b] pos) (rBl (decide (u = v))) := (de_cmp (op_eqD B.hu) (b2_eqD (D.dp u) (D.dp v) (D.shaped hn u) (D.shaped hn v)) ha hb (nomark _)).to (by rw [D.eq])
/-! ### a list of one's own, lent for a question -/
/-! ### a def that is handed a list of one's own first, and may change it -/
variable {ι : Type} {pre : ι → Prop} {lo : ι → List Rep} {args : ι → List Rep} {res : ι → Ret}
end
section
variable {P : Program} {w : World} {K : PySem.W.Frag} {mg : Str → Option Value} {base : Heap} {k : Nat} {x : Str} {st : Stmt} {N ps : List Str} {ι : Type} {pre : ι → Prop} {lo args : ι → List Rep} {res : ι → Ret}
end
end DL

set_option Elab.async false
set_option linter.all false
set_option maxRecDepth 100000
set_option maxHeartbeats 4000000
namespace DL
open PySem PySem.Spec PyProof.Rows L2
section
variable {X : Cx} {N : List Str} {sc : Scope} {k j i : Nat} {Γ : List Sl} {tg it a b e : Expr} {es : List Expr} {r ra rb : Rep} {l : List Rep} {pos p p2 : Pos} {x : Str} {α : Type} {R : α → Rep} {xs : List α} {n : Int}
theorem de_allB {bs : List Bool} (B : BX X N sc k) (hm : X.mg "all" = none) (ha : DE X Γ a (rLst X.K (bs.map rBl))) (hg : sc.names.lookup ("all" : Str) = some NameKind.globalImplicit)
    (he : starEach (a :: []) X.env = (false, eval a X.env) :: starEach [] X.env := by rfl) : DE X Γ (.Call (.Name "all" p) [a] [] pos) (rBl (bs.all id)) :=
  de_blt B (cr_all B.calm) (fun F H vs s hv Q q => by
    obtain ⟨v, rfl, k1⟩ := rl1 hv
    obtain ⟨pp, us, rfl, k2, k3⟩ := k1
    have e : ∀ (bs : List Bool) (us : List V), RL F (bs.map rBl) us → us = bs.map V.bl := fun bs => by
      induction bs with
      | nil => intro us h; cases h; rfl
      | cons b bs ih => intro us h; cases h with | cons h1 h2 => rw [ih _ h2]; cases h1; rfl
    exact ⟨pp, bs, rfl, by rw [← e bs us k3]; exact s.seq k2, q _ F H (.refl s) rfl⟩) hm (by decide +kernel) (da_cons ha da_nil he) hg (he := he)
theorem sr_tup (h : DE X Γ it (rTup X.K l)) : SR X Γ tg it l.length (fun i => l.getD i rNon) := fun F0 H0 F H σ en R q =>
  .of (pi_tup pe_ev) (h F0 H0 F H σ en _ fun v F1 H1 g hv => by
    obtain ⟨p, vs, rfl, hs, hl⟩ := hv
    refine ⟨p, rfl, ⟨vs, sqt_mono g.s hs⟩, q _ F1 H1 g ⟨fun i H2 s hi => ⟨vs, sqt_mono s hs, by rw [← hl.len]; exact hi⟩, fun i H2 s hi => ?_, fun i F2 H2 x H' s s2 hi hy => ?_⟩⟩
    · have hi' : i < vs.length := hl.len ▸ hi
      exact ⟨vs, vs[i], sqt_mono s hs, List.getElem?_eq_getElem hi'⟩
    · obtain ⟨rfl, hx⟩ := hy
      have hx' := hx vs (sqt_mono s2 (sqt_mono s hs))
      obtain ⟨r, e, hr⟩ := hl.got hx'
      refine ⟨F2, .refl s2, ?_⟩
      show (l.getD i rNon).P F2 x
      rw [List.getD_eq_getElem?_getD, e]
      exact r.mono s hr)
theorem sr_tupM (d : α) (h : DE X Γ it (rTup X.K (xs.map R))) : SR X Γ tg it xs.length (fun i => R (xs.getD i d)) := by
  have h2 := sr_tup (tg := tg) h
  rw [List.length_map] at h2
  exact h2.to fun i hi => getD_map d hi
theorem cut_to {n : Int} (h : 0 ≤ n) : cutR (xs.map R) none (some n) = (xs.take n.toNat).map R := by
  obtain ⟨m, rfl⟩ : ∃ m : Nat, n = m := ⟨n.toNat, by omega⟩
  rw [cutR_map, cutR_to, Int.toNat_natCast]
theorem cut_from {n : Int} (h : 0 ≤ n) : cutR (xs.map R) (some n) none = (xs.drop n.toNat).map R := by
  obtain ⟨m, rfl⟩ : ∃ m : Nat, n = m := ⟨n.toNat, by omega⟩
  rw [cutR_map, cutR_from, Int.toNat_natCast]
theorem dl_to (h : DE X Γ e (rLst X.K (xs.map R))) (hn : 0 ≤ n) (h2 : DE X Γ b (rInt n)) : DL X Γ (.Subscript e (.Slice none (some b) none p2) pos) ((xs.take n.toNat).map R) :=
  (dl_slice (lo := none) (hi := some b) (ol := none) (oh := some n) h trivial h2).to (cut_to hn)
theorem dl_from (h : DE X Γ e (rLst X.K (xs.map R))) (hn : 0 ≤ n) (h2 : DE X Γ b (rInt n)) : DL X Γ (.Subscript e (.Slice (some b) none none p2) pos) ((xs.drop n.toNat).map R) :=
  (dl_slice (lo := some b) (hi := none) (ol := some n) (oh := none) h h2 trivial).to (cut_from hn)
theorem dl_catM {ys : List α} (ha : DL X Γ a (xs.map R)) (hb : DL X Γ b (ys.map R)) (hl : xs.length + ys.length ≤ sizeLine) : DL X Γ (.BinOp a .Add b pos) ((xs ++ ys).map R) :=
  (dl_cat ha hb (by rw [List.length_map, List.length_map]; exact hl)).to (by rw [List.map_append])
end
end DL

set_option Elab.async false
set_option linter.all false
set_option maxRecDepth 100000
set_option maxHeartbeats 4000000
namespace DL
open PySem PySem.Spec PyProof.Rows L2
/-! ### x is True, x no bool -/
section
variable {X : Cx} {N : List Str} {sc : Scope} {k j i : Nat} {Γ : List Sl} {tg it a b e : Expr} {es : List Expr} {r ra rb : Rep} {l l' : List Rep} {pos p p2 : Pos} {x : Str} {α : Type} {R : α → Rep} {xs : List α} {n : Int} {K : PySem.W.Frag} {q : Rat}
theorem notNon_lst : NotNon (rLst K l) := fun F v h => by obtain ⟨p, vs, rfl, _⟩ := h; exact fun z => nomatch z
/-- ints are numbers -/
theorem ints_nums {ns : List Int} : ns.map rInt = (ns.map (fun n : Int => (n : Rat))).map (rNum K) := by
  rw [List.map_map]
  exact List.map_congr_left fun n _ => (num_int n).symm
theorem de_li2n {ns : List Int} (h : DE X Γ e (rLst X.K (ns.map rInt))) : DE X Γ e (rLst X.K ((ns.map (fun n : Int => (n : Rat))).map (rNum X.K))) := h.to (by rw [ints_nums])
variable {it2 : Expr} {β : Type} {R2 : β → Rep} {ys : List β}
theorem sr_zipM {jj : Nat} {tpos : Pos} (d : α) (d2 : β) (B : BX X N sc k) (hm : X.mg "zip" = none) (h : DE X Γ it (rLst X.K (xs.map R))) (h2 : DE X Γ it2 (rLst X.K (ys.map R2))) (hg : sc.names.lookup ("zip" : Str) = some NameKind.globalImplicit)
    (hs : starEach [it, it2] X.env = (false, eval it X.env) :: starEach [it2] X.env := by rfl) (hs2 : starEach [it2] X.env = (false, eval it2 X.env) :: starEach [] X.env := by rfl) (hpl : (backTo pos (starEach [it2] X.env)).any (·.1) = false := by rfl) :
    SR X Γ (.Tuple es jj tpos) (.Call (.Name "zip" p) [it, it2] [] pos) (min xs.length ys.length) (fun i => rTup X.K [R (xs.getD i d), R2 (ys.getD i d2)]) := by
  have z := sr_zip (es := es) (jj := jj) (tpos := tpos) (p := p) (pos := pos) B hm h h2 hg hs hs2 hpl
  rw [List.length_map, List.length_map] at z
  exact z.to fun i hi => by rw [getD_map d (by omega), getD_map d2 (by omega)]
theorem sr_enumM {jj : Nat} {tpos : Pos} (d : α) (B : BX X N sc k) (hm : X.mg "enumerate" = none) (h : DE X Γ it (rLst X.K (xs.map R))) (hg : sc.names.lookup ("enumerate" : Str) = some NameKind.globalImplicit) (hs : starEach [it] X.env = [(false, eval it X.env)] := by rfl) :
    SR X Γ (.Tuple es jj tpos) (.Call (.Name "enumerate" p) [it] [] pos) xs.length (fun i => rTup X.K [rInt (i : Nat), R (xs.getD i d)]) := by
  have z := sr_enum (es := es) (jj := jj) (tpos := tpos) (p := p) (pos := pos) B hm h hg hs
  rw [List.length_map] at z
  exact z.to fun i hi => by rw [getD_map d hi]
end
end DL

set_option Elab.async false
set_option linter.all false
set_option maxRecDepth 100000
set_option maxHeartbeats 4000000
namespace DL
open PySem L2
/-! ### rows -/
def suppN (qs : List Rat) : List Nat := (List.range qs.length).filter fun i => !decide (qs.getD i 0 = 0)
def suppI (qs : List Rat) : List Int := (suppN qs).map fun i : Nat => (i : Int)
def zipM (f : Rat → Rat → Rat) (xs ys : List Rat) : List Rat := (List.range (min xs.length ys.length)).map fun i => f (xs.getD i 0) (ys.getD i 0)
/-! ### the greatest common divisor of a list -/
def gl (ns : List Int) : Nat := ns.foldl (fun (g : Nat) x => Int.gcd (g : Int) x) 0
theorem gl_step {ns : List Int} {i : Nat} (hi : i < ns.length) : gl (ns.take (i + 1)) = Int.gcd ((gl (ns.take i) : Nat) : Int) (ns.getD i 0) := by
  unfold gl
  rw [take_snoc (d := 0) hi, List.foldl_append]
  rfl
theorem fold_dvd {d : Nat} : ∀ (ns : List Int) (g : Nat), d ∣ ns.foldl (fun (g : Nat) x => Int.gcd (g : Int) x) g ↔ d ∣ g ∧ ∀ x ∈ ns, (d : Int) ∣ x
  | [], g => by simp
  | x :: ns, g => by
    rw [List.foldl_cons, fold_dvd ns]
    have : d ∣ Int.gcd (g : Int) x ↔ d ∣ g ∧ (d : Int) ∣ x := by
      rw [Int.gcd, Nat.dvd_gcd_iff, Int.natAbs_natCast, Int.ofNat_dvd_left]
    rw [this]
    simp [and_assoc]
theorem gl_dvd {d : Nat} {ns : List Int} : d ∣ gl ns ↔ ∀ x ∈ ns, (d : Int) ∣ x := by
  unfold gl
  rw [fold_dvd]
  simp
theorem fold_mul {k : Nat} : ∀ (ns : List Int) (g : Nat), (ns.map fun x => (k : Int) * x).foldl (fun (g : Nat) x => Int.gcd (g : Int) x) (k * g) = k * ns.foldl (fun (g : Nat) x => Int.gcd (g : Int) x) g
  | [], g => rfl
  | x :: ns, g => by
    rw [List.map_cons, List.foldl_cons, List.foldl_cons, ← fold_mul ns]
    congr 1
    have := Int.gcd_mul_left (m := (k : Int)) (n := (g : Int)) (k := x)
    rw [Int.natAbs_natCast] at this
    rw [← this]
    congr 1
theorem gl_mul {k : Nat} {ns : List Int} : gl (ns.map fun x => (k : Int) * x) = k * gl ns := by
  have := fold_mul (k := k) ns 0
  exact this
theorem gl_neg {ns : List Int} : gl (ns.map fun x => -x) = gl ns := by
  apply Nat.dvd_antisymm
  · rw [gl_dvd]
    intro x hx
    have := (gl_dvd (d := gl (ns.map fun x => -x)) (ns := ns.map fun x => -x)).mp (Nat.dvd_refl _) (-x) (List.mem_map.mpr ⟨x, hx, rfl⟩)
    exact Int.dvd_neg.mp this
  · rw [gl_dvd]
    intro x hx
    obtain ⟨y, hy, rfl⟩ := List.mem_map.mp hx
    exact Int.dvd_neg.mpr ((gl_dvd (d := gl ns) (ns := ns)).mp (Nat.dvd_refl _) y hy)
theorem gl_mulI {k : Int} {ns : List Int} : gl (ns.map fun x => k * x) = k.natAbs * gl ns := by
  by_cases h : 0 ≤ k
  · have e : k = (k.natAbs : Int) := by omega
    rw [e, gl_mul]; simp
  · have e : (fun x => k * x) = (fun x => -x) ∘ fun x => (k.natAbs : Int) * x := funext fun x => by
      have : k = -(k.natAbs : Int) := by omega
      show k * x = -((k.natAbs : Int) * x)
      rw [← Int.neg_mul, ← this]
    rw [e, ← List.map_map, gl_neg, gl_mul]
theorem gl_pos {ns : List Int} {x : Int} (h : x ∈ ns) (hx : x ≠ 0) : 0 < gl ns := by
  rcases Nat.eq_zero_or_pos (gl ns) with e | e
  · have := (gl_dvd (d := gl ns) (ns := ns)).mp (Nat.dvd_refl _) x h
    rw [e] at this
    exact absurd (Int.zero_dvd.mp this) hx
  · exact e
/-! ### lowest terms -/
def fnz (ns : List Int) : Option Int := ns.find? fun x => decide (x ≠ 0)
def sdv (g : Nat) (z : Int) : Int := if 0 < z then (g : Int) else -(g : Int)
def lowest (ns : List Int) : List Int := match fnz ns with
  | none => ns
  | some z => ns.map fun x => x.fdiv (sdv (gl ns) z)
theorem fnz_none {ns : List Int} (h : fnz ns = none) : ∀ x ∈ ns, x = 0 := fun x hx => by
  have := List.find?_eq_none.mp h x hx
  simpa using this
theorem fnz_some {ns : List Int} {z : Int} (h : fnz ns = some z) : z ∈ ns ∧ z ≠ 0 := ⟨List.mem_of_find?_eq_some h, by simpa using List.find?_some h⟩
theorem fnz_at : ∀ {ns : List Int} {i : Nat}, i < ns.length → (∀ j, j < i → ns.getD j 0 = 0) → ns.getD i 0 ≠ 0 → fnz ns = some (ns.getD i 0)
  | [], _, h, _, _ => by simp at h
  | x :: ns, 0, _, _, hn => by
    have hn : x ≠ 0 := hn
    unfold fnz
    rw [List.find?_cons_of_pos (by simpa using hn)]
    rfl
  | x :: ns, i + 1, hi, h0, hn => by
    have h1 : x = 0 := h0 0 (by omega)
    have := fnz_at (ns := ns) (i := i) (by simpa using hi) (fun j hj => h0 (j + 1) (by omega)) hn
    unfold fnz at this ⊢
    rw [List.find?_cons_of_neg (by simpa using h1), this]
    rfl
theorem fnz_all {ns : List Int} (h : ∀ j, j < ns.length → ns.getD j 0 = 0) : fnz ns = none := by
  unfold fnz
  rw [List.find?_eq_none]
  intro x hx
  obtain ⟨j, hj, rfl⟩ := List.mem_iff_getElem.mp hx
  have := h j hj
  rw [List.getD_eq_getElem?_getD, List.getElem?_eq_getElem hj] at this
  simpa using this
theorem fnz_mul {k : Int} (hk : k ≠ 0) : ∀ {ns : List Int}, fnz (ns.map fun x => k * x) = (fnz ns).map fun x => k * x
  | [] => rfl
  | x :: ns => by
    have ih := fnz_mul (k := k) hk (ns := ns)
    unfold fnz at ih ⊢
    rw [List.map_cons]
    by_cases h : x = 0
    · rw [List.find?_cons_of_neg (by simp [h]), List.find?_cons_of_neg (by simp [h]), ih]
    · rw [List.find?_cons_of_pos (by simp [h, hk]), List.find?_cons_of_pos (by simp [h])]
      rfl
theorem pos_of_mul {k y : Int} (hk : 0 < k) (h : 0 < k * y) : 0 < y := by
  rcases Int.lt_or_le 0 y with c | c
  · exact c
  · have := Int.mul_le_mul_of_nonneg_left c (Int.le_of_lt hk)
    rw [Int.mul_zero] at this
    omega
structure Low (ns r : List Int) : Prop where
  ex : ∃ d : Int, d ≠ 0 ∧ ns = r.map fun x => d * x
  one : gl r = 1
  pos : ∃ z, fnz r = some z ∧ 0 < z
theorem low_lowest {ns : List Int} {z : Int} (h : fnz ns = some z) : Low ns (lowest ns) ∧ lowest ns = ns.map (fun x => x.fdiv (sdv (gl ns) z)) ∧ sdv (gl ns) z ≠ 0 ∧ ∀ x ∈ ns, x = sdv (gl ns) z * x.fdiv (sdv (gl ns) z) := by
  obtain ⟨hz, hz0⟩ := fnz_some h
  have hg := gl_pos hz hz0
  have hd : sdv (gl ns) z ≠ 0 := by unfold sdv; split <;> omega
  have e : lowest ns = ns.map fun x => x.fdiv (sdv (gl ns) z) := by unfold lowest; rw [h]
  have hx : ∀ x ∈ ns, x = sdv (gl ns) z * x.fdiv (sdv (gl ns) z) := fun x hx => by
    have h1 := (gl_dvd (d := gl ns) (ns := ns)).mp (Nat.dvd_refl _) x hx
    have h2 : sdv (gl ns) z ∣ x := by
      unfold sdv; split
      · exact h1
      · exact Int.neg_dvd.mpr h1
    obtain ⟨t, ht⟩ := h2
    rw [ht, Int.mul_fdiv_cancel_left _ hd]
  refine ⟨?_, e, hd, hx⟩
  have e2 : ns = (lowest ns).map fun x => sdv (gl ns) z * x := by
    rw [e, List.map_map]
    refine (List.map_id ns).symm.trans (List.map_congr_left fun x h => ?_)
    exact hx x h
  have one : gl (lowest ns) = 1 := by
    have h1 := gl_mulI (k := sdv (gl ns) z) (ns := lowest ns)
    rw [← e2] at h1
    have h2 : (sdv (gl ns) z).natAbs = gl ns := by unfold sdv; split <;> omega
    rw [h2] at h1
    exact (Nat.eq_of_mul_eq_mul_left hg (by rw [Nat.mul_one]; exact h1)).symm
  refine ⟨⟨_, hd, e2⟩, one, ?_⟩
  have h3 := fnz_mul hd (ns := lowest ns)
  rw [← e2, h] at h3
  cases hf : fnz (lowest ns) with
  | none => rw [hf] at h3; cases h3
  | some y =>
    rw [hf] at h3
    have h4 : z = sdv (gl ns) z * y := Option.some.inj h3
    refine ⟨y, rfl, ?_⟩
    unfold sdv at h4
    split at h4
    · rename_i hp
      rw [h4] at hp
      have : (0 : Int) < gl ns := by omega
      exact pos_of_mul this hp
    · rename_i hp
      have : (0 : Int) < gl ns := by omega
      have h5 : z < 0 := by omega
      rw [Int.neg_mul] at h4
      have h6 : 0 < (gl ns : Int) * y := by omega
      exact pos_of_mul this h6
end DL

set_option Elab.async false
set_option linter.all false
set_option maxRecDepth 100000
set_option maxHeartbeats 4000000
namespace DL
open PySem L2
/-! ### the primitive row -/
theorem lcmF_dvd : ∀ (qs : List Rat) (c : Nat), c ∣ qs.foldl (fun c q => Nat.lcm c q.den) c ∧ ∀ q ∈ qs, q.den ∣ qs.foldl (fun c q => Nat.lcm c q.den) c
  | [], c => ⟨Nat.dvd_refl _, by simp⟩
  | q :: qs, c => by
    obtain ⟨h1, h2⟩ := lcmF_dvd qs (Nat.lcm c q.den)
    rw [List.foldl_cons]
    refine ⟨Nat.dvd_trans (Nat.dvd_lcm_left _ _) h1, fun x hx => ?_⟩
    rcases List.mem_cons.mp hx with rfl | hx
    · exact Nat.dvd_trans (Nat.dvd_lcm_right _ _) h1
    · exact h2 x hx
theorem lcmF_ne : ∀ (qs : List Rat) (c : Nat), c ≠ 0 → qs.foldl (fun c q => Nat.lcm c q.den) c ≠ 0
  | [], c, h => h
  | q :: qs, c, h => lcmF_ne qs _ (Nat.lcm_ne_zero h q.den_nz)
theorem lcmD_dvd {qs : List Rat} {q : Rat} (h : q ∈ qs) : q.den ∣ lcmD qs := (lcmF_dvd qs 1).2 q h
theorem lcmD_ne (qs : List Rat) : lcmD qs ≠ 0 := lcmF_ne qs 1 (by decide)
def topq (L : Nat) (q : Rat) : Int := q.num * ((L : Int)).fdiv (q.den : Int)
def tops (qs : List Rat) : List Int := qs.map (topq (lcmD qs))
def prim (qs : List Rat) : List Int := lowest (tops qs)
theorem topq_is {L : Nat} {q : Rat} (h : q.den ∣ L) : ((topq L q : Int) : Rat) = q * ((L : Int) : Rat) := by
  obtain ⟨t, rfl⟩ := h
  unfold topq
  have e : (((q.den * t : Nat) : Int)).fdiv (q.den : Int) = (t : Int) := by
    have h0 : (q.den : Int) ≠ 0 := by have := q.den_nz; omega
    rw [Int.natCast_mul, Int.mul_fdiv_cancel_left _ h0]
  rw [e, Rat.intCast_mul, Int.natCast_mul, Rat.intCast_mul]
  have e1 := q_eq q
  have d := den_ne q
  generalize ((q.den : Int) : Rat) = dd at *
  generalize ((t : Int) : Rat) = tt at *
  generalize (q.num : Rat) = nn at *
  grind
theorem tops_len (qs : List Rat) : (tops qs).length = qs.length := List.length_map _
theorem tops_at {qs : List Rat} {k : Nat} (hk : k < qs.length) : (tops qs).getD k 0 = topq (lcmD qs) (qs.getD k 0) := by
  unfold tops
  rw [List.getD_eq_getElem?_getD, List.getD_eq_getElem?_getD, List.getElem?_map, List.getElem?_eq_getElem hk]
  rfl
theorem lowest_len (ns : List Int) : (lowest ns).length = ns.length := by
  unfold lowest
  split
  · rfl
  · exact List.length_map _
theorem prim_len (qs : List Rat) : (prim qs).length = qs.length := (lowest_len _).trans (tops_len _)
theorem lcmQ_ne (qs : List Rat) : (((lcmD qs : Nat) : Int) : Rat) ≠ 0 := by
  have := lcmD_ne qs
  have h : ((lcmD qs : Nat) : Int) ≠ 0 := by omega
  exact fun z => h (by exact_mod_cast z)
end DL

set_option Elab.async false
set_option linter.all false
set_option maxRecDepth 100000
set_option maxHeartbeats 4000000
namespace DL
open PySem L2
theorem lc_num {K : PySem.W.Frag} {qs : List Rat} {g : Rat → Rat} : ((List.range qs.length).filter fun _ => true).map (fun i => rNum K (g (qs.getD i 0))) = List.map (rNum K) (qs.map g) := by
  rw [List.map_map]
  exact lc_all (R := fun _ => rInt 0) (f := fun q => rNum K (g q))
theorem lc_int {qs : List Rat} {g : Rat → Int} : ((List.range qs.length).filter fun _ => true).map (fun i => rInt (g (qs.getD i 0))) = List.map rInt (qs.map g) := by
  rw [List.map_map]
  exact lc_all (R := fun _ => rInt 0) (f := fun q => rInt (g q))
theorem lc_ii {ns : List Int} {g : Int → Int} : ((List.range ns.length).filter fun _ => true).map (fun i => rInt (g (ns.getD i 0))) = List.map rInt (ns.map g) := by
  rw [List.map_map]
  exact lc_all (R := fun _ => rInt 0) (f := fun q => rInt (g q))
theorem lc_true {α : Type} {n : Nat} {f : Nat → α} : ((List.range n).filter fun _ => true).map f = (List.range n).map f := by rw [List.filter_eq_self.mpr fun _ _ => rfl]
theorem zer_more {ns : List Int} {i : Nat} (h : ∀ j, j < i → ns.getD j 0 = 0) (e : ns.getD i 0 = 0) : ∀ j, j < i + 1 → ns.getD j 0 = 0 := fun j hj => by
  by_cases hj2 : j = i
  · rw [hj2, e]
  · exact h j (by omega)
theorem lcm_fd {qs : List Rat} {n k : Nat} (h : ∀ q ∈ qs, Sz n q) (hk : k < qs.length) : Lg (((lcmD qs : Nat) : Int).fdiv ((qs.getD k 0).den : Int)) ≤ qs.length * (n + 1) := by
  have hm := getD_mem (d := (0 : Rat)) hk
  have h1 : ((qs.getD k 0).den : Int) ∣ ((lcmD qs : Nat) : Int) := Int.natCast_dvd_natCast.mpr (lcmD_dvd hm)
  exact Nat.le_trans (fdiv_lg (den_neI _) h1) (lg_lcmD qs h)
theorem top_m {qs : List Rat} {n k : Nat} (h : ∀ q ∈ qs, Sz n q) (h2 : qs.length * (n + 1) + n < 8900) (hk : k < qs.length) : Lg (qs.getD k 0).num + Lg (((lcmD qs : Nat) : Int).fdiv ((qs.getD k 0).den : Int)) < 1000000 := by
  have a := lcm_fd h hk
  have b := (h _ (getD_mem (d := (0 : Rat)) hk)).1
  omega
theorem tops_lg {qs : List Rat} {n : Nat} (h : ∀ q ∈ qs, Sz n q) (h2 : qs.length * (n + 1) + n < 8900) {x : Int} (hx : x ∈ tops qs) : Lg x < 8990 := by
  obtain ⟨k, hk, rfl⟩ := List.mem_iff_getElem.mp hx
  have hk' : k < qs.length := by rw [← tops_len qs]; exact hk
  have e := tops_at hk'
  rw [List.getD_eq_getElem?_getD, List.getElem?_eq_getElem hk] at e
  have e : (tops qs)[k] = topq (lcmD qs) (qs.getD k 0) := e
  rw [e]
  unfold topq
  have a := lcm_fd h hk'
  have b := (h _ (getD_mem (d := (0 : Rat)) hk')).1
  have c := lg_mul (qs.getD k 0).num (((lcmD qs : Nat) : Int).fdiv ((qs.getD k 0).den : Int))
  omega
theorem sdv_ne {ns : List Int} {z : Int} (h : fnz ns = some z) : sdv (gl ns) z ≠ 0 := (low_lowest h).2.2.1
theorem sdv_t {ns : List Int} {z : Int} (h : 0 < z) : ((gl (ns.take ns.length) : Nat) : Int) = sdv (gl ns) z := by rw [List.take_length, sdv, if_pos h]
theorem sdv_f {ns : List Int} {z : Int} (h : ¬ 0 < z) : -((gl (ns.take ns.length) : Nat) : Int) = sdv (gl ns) z := by rw [List.take_length, sdv, if_neg h]
theorem gl_lg {ns : List Int} {x : Int} (hx : x ∈ ns) (h0 : x ≠ 0) : Lg ((gl ns : Nat) : Int) ≤ Lg x := lg_dvd h0 ((gl_dvd (d := gl ns) (ns := ns)).mp (Nat.dvd_refl _) x hx)
theorem sdv_lg {ns : List Int} {n i : Nat} (h : ∀ x ∈ ns, Lg x < n) (hi : i < ns.length) (hc : ns.getD i 0 ≠ 0) (hn : n ≤ 9000 := by decide) : Lg (sdv (gl ns) (ns.getD i 0)) < 9000 := by
  have hm := getD_mem (d := (0 : Int)) hi
  have a := h _ hm
  have b := gl_lg hm hc
  have c : Lg (sdv (gl ns) (ns.getD i 0)) ≤ Lg ((gl ns : Nat) : Int) := by
    apply lg_le
    unfold sdv
    split <;> omega
  omega
theorem low_lc {ns : List Int} {z : Int} (h : fnz ns = some z) : ((List.range ns.length).filter fun _ => true).map (fun i => rInt ((ns.getD i 0).fdiv (sdv (gl ns) z))) = List.map rInt (lowest ns) := by
  rw [lc_ii (g := fun x => x.fdiv (sdv (gl ns) z)), (low_lowest h).2.1]
theorem lp_ok {q r : Rat} (h : Sz 400 q) (k : Sz 400 r) : (q.den : Int) * (r.den : Int) ≠ 0 ∧ Lg (q.num * (r.den : Int) + r.num * (q.den : Int)) < 990 ∧ Lg ((q.den : Int) * (r.den : Int)) < 990 := by
  refine ⟨Int.mul_ne_zero (den_neI q) (den_neI r), ?_, ?_⟩
  · grind [lg_mul, lg_add, Sz]
  · grind [lg_mul, Sz]
theorem lt_ok {q r : Rat} (h : Lg q.num + Lg r.num < 980) (k : Lg (q.den : Int) + Lg (r.den : Int) < 980) : (q.den : Int) * (r.den : Int) ≠ 0 ∧ Lg (q.num * r.num) < 990 ∧ Lg ((q.den : Int) * (r.den : Int)) < 990 := by
  refine ⟨Int.mul_ne_zero (den_neI q) (den_neI r), ?_, ?_⟩
  · have := lg_mul q.num r.num; omega
  · have := lg_mul (q.den : Int) (r.den : Int); omega
/-! ### the numbers of a script -/
def cellv (ns : List Int) (k : Nat) : Int := if k < ns.length then ns.getD k 0 else if 0 < ns.length then (ns.getD 0 0 * 7919 + 48271 * (k : Int)).fmod 2147483647 else (k : Int)
def lawN (ns : List Int) (k many : Nat) : List Int := lawNums [cellv ns k] 0 many
section
open PySem.Spec PyProof.Rows
variable {X : Cx} {Γ : List Sl} {a b : Expr} {pos : Pos} {m n : Int}
end
end DL

set_option Elab.async false
set_option linter.all false
set_option maxRecDepth 100000
set_option maxHeartbeats 4000000
set_option exponentiation.threshold 2000
namespace DL
open PySem L2
/-! ### numbers with a common bottom -/
def Gd (M B : Nat) (q : Rat) : Prop := ∃ z : Int, q * ((M : Int) : Rat) = (z : Rat) ∧ z.natAbs ≤ B
theorem gd_mono {M B B' : Nat} {q : Rat} (h : Gd M B q) (k : B ≤ B') : Gd M B' q := by
  obtain ⟨z, a, b⟩ := h
  exact ⟨z, a, Nat.le_trans b k⟩
theorem gd_add {M B1 B2 : Nat} {q r : Rat} (h : Gd M B1 q) (k : Gd M B2 r) : Gd M (B1 + B2) (q + r) := by
  obtain ⟨z, a, b⟩ := h
  obtain ⟨y, c, d⟩ := k
  refine ⟨z + y, ?_, by omega⟩
  rw [Rat.intCast_add, ← a, ← c, Rat.add_mul]
theorem gd_mul {M1 M2 B1 B2 : Nat} {q r : Rat} (h : Gd M1 B1 q) (k : Gd M2 B2 r) : Gd (M1 * M2) (B1 * B2) (q * r) := by
  obtain ⟨z, a, b⟩ := h
  obtain ⟨y, c, d⟩ := k
  refine ⟨z * y, ?_, ?_⟩
  · rw [Rat.intCast_mul, ← a, ← c, Int.natCast_mul, Rat.intCast_mul]
    generalize ((M1 : Int) : Rat) = m1
    generalize ((M2 : Int) : Rat) = m2
    grind
  · rw [Int.natAbs_mul]
    exact Nat.mul_le_mul b d
theorem gd_zero {M B : Nat} : Gd M B 0 := ⟨0, by rw [Rat.zero_mul]; rfl, Nat.zero_le _⟩
theorem gd_div {M B : Nat} {t b : Int} (hb : b ≠ 0) (hd : b ∣ (M : Int)) (ht : t.natAbs * M ≤ B) : Gd M B ((t : Rat) / (b : Rat)) := by
  obtain ⟨k, hk⟩ := hd
  have hb' : (b : Rat) ≠ 0 := fun z => hb (by exact_mod_cast z)
  refine ⟨t * k, ?_, ?_⟩
  · rw [hk, Rat.intCast_mul, Rat.intCast_mul]
    generalize (t : Rat) = t'
    generalize (k : Rat) = k'
    generalize (b : Rat) = b' at *
    grind
  · rw [Int.natAbs_mul]
    refine Nat.le_trans (Nat.mul_le_mul_left _ ?_) ht
    have e : M = b.natAbs * k.natAbs := by rw [← Int.natAbs_mul, ← hk, Int.natAbs_natCast]
    rw [e]
    exact Nat.le_mul_of_pos_left _ (by omega)
theorem gd_sz {M B n : Nat} {q : Rat} (h : Gd M B q) (hM : M ≠ 0) (h1 : M < 2 ^ (n + 1)) (h2 : B < 2 ^ (n + 1)) : Sz n q := by
  obtain ⟨z, a, b⟩ := h
  have e := q_eq q
  have d := den_ne q
  have key : q.num * (M : Int) = z * (q.den : Int) := by
    have g : ((q.num * (M : Int) : Int) : Rat) = ((z * (q.den : Int) : Int) : Rat) := by
      rw [Rat.intCast_mul, Rat.intCast_mul, ← a]
      generalize ((M : Int) : Rat) = m
      generalize ((q.den : Int) : Rat) = dd at *
      generalize (q.num : Rat) = nn at *
      grind
    exact_mod_cast g
  have hdvd : q.den ∣ M := by
    have h1 : (q.den : Int) ∣ q.num * (M : Int) := ⟨z, by rw [key, Int.mul_comm]⟩
    have h2 : q.den ∣ q.num.natAbs * M := by
      have := Int.natAbs_dvd_natAbs.mpr h1
      rw [Int.natAbs_mul, Int.natAbs_natCast, Int.natAbs_natCast] at this
      exact this
    exact Nat.Coprime.dvd_of_dvd_mul_left q.reduced.symm h2
  obtain ⟨k, hk⟩ := hdvd
  have hk0 : k ≠ 0 := fun z => hM (by rw [hk, z, Nat.mul_zero])
  have hz : q.num * (k : Int) = z := by
    rw [hk, Int.natCast_mul, ← Int.mul_assoc, Int.mul_right_comm] at key
    exact Int.eq_of_mul_eq_mul_right (den_neI q) key
  have hn : q.num.natAbs ≤ B := by
    have : z.natAbs = q.num.natAbs * k := by rw [← hz, Int.natAbs_mul, Int.natAbs_natCast]
    have := Nat.le_mul_of_pos_right q.num.natAbs (Nat.pos_of_ne_zero hk0)
    omega
  have hdm : q.den ≤ M := Nat.le_of_dvd (Nat.pos_of_ne_zero hM) ⟨k, hk⟩
  exact ⟨Nat.le_of_lt_succ (lg_of (Nat.succ_pos n) (Nat.lt_of_le_of_lt hn h2)), Nat.le_of_lt_succ (lg_of (Nat.succ_pos n) (Nat.lt_of_le_of_lt hdm h1))⟩
/-! ### the drawn rows of k03 -/
theorem lg_b {x : Int} {B n : Nat} (h : x.natAbs ≤ B) (hB : B < 2 ^ n) (hn : 0 < n) : Lg x < n := lg_of hn (Nat.lt_of_le_of_lt h hB)
theorem mem_getD_gd {M B : Nat} {qs : List Rat} (h : ∀ q ∈ qs, Gd M B q) (k : Nat) : Gd M B (qs.getD k 0) := by
  by_cases hk : k < qs.length
  · exact h _ (getD_mem hk)
  · rw [List.getD_eq_getElem?_getD, List.getElem?_eq_none (by omega)]
    exact gd_zero
section
open PySem.Spec PyProof.Rows
variable {X : Cx} {N : List Str} {sc : Scope} {k i : Nat} {Γ : List Sl} {b e : Expr} {pos p : Pos} {x : Str} {α : Type} {R : α → Rep} {xs : List α} {v : α} {F0 H0 : Hp} {st : List Stmt} {D : Ends}
theorem go_putM {n : Int} {tpos : Pos} (B : BX X N sc k) (he : DE X Γ e (R v)) (hb : DE X Γ b (rInt n)) (h0 : 0 ≤ n) (hn : n < xs.length) (hΓ : Γ[i]? = some (.ow (xs.map R))) (hN : N[i]? = some x) (hv : Vis sc x) (h : GO X F0 H0 st D (Γ.set i (.ow ((xs.set n.toNat v).map R))))
    (hd : (x == ("__debug__" : Str)) = false := by decide) (hcd : (x == ("__classdict__" : Str)) = false := by decide)
    (ha : ∀ v, assign (.Subscript (.Name x p) b tpos) X.env v = (do
      let ov ← holding [v] (eval (.Name x p) X.env)
      let iv ← holding [v, ov] (eval b X.env)
      standAt tpos
      holding [v, ov, iv] (setItem ov iv v)
      release [v, ov, iv] []) := by intro _; rfl)
    (hs : swapsWithSole [.Subscript (.Name x p) b tpos] e pos.line X.env = pure false := by rfl) (hw : swappedStores [.Subscript (.Name x p) b tpos] e X.env = pure none := by rfl)
    (h1 : (assignEach [.Subscript (.Name x p) b tpos] X.env).map (·.2) = [assign (.Subscript (.Name x p) b tpos) X.env] := by rfl) :
    GO X F0 H0 (.Assign [.Subscript (.Name x p) b tpos] e pos :: st) D Γ := by
  refine go_put B he hb (jj := n.toNat) ?_ hΓ hN hv ?_ hd hcd ha hs hw h1
  · obtain ⟨m, rfl⟩ : ∃ m : Nat, n = m := ⟨n.toNat, by omega⟩
    have hm : m < (xs.map R).length := by rw [List.length_map]; omega
    rw [Int.toNat_natCast]
    unfold ixN
    simp
    simp at hm
    omega
  · rw [List.map_set] at h
    exact h
end
theorem lt_s2 {q r : Rat} {m n : Nat} (h : Sz m q) (k : Sz n r) (e : m + n < 980 := by decide) : Lg q.num + Lg r.num < 980 ∧ Lg (q.den : Int) + Lg (r.den : Int) < 980 := ⟨by have := h.1; have := k.1; omega, by have := h.2; have := k.2; omega⟩
/-! lists of cells -/
/-! ### the primitive row, told -/
theorem gd_den {M B : Nat} {q : Rat} (h : Gd M B q) : q.den ∣ M := by
  obtain ⟨z, a, b⟩ := h
  have e := q_eq q
  have d := den_ne q
  have key : q.num * (M : Int) = z * (q.den : Int) := by
    have g : ((q.num * (M : Int) : Int) : Rat) = ((z * (q.den : Int) : Int) : Rat) := by
      rw [Rat.intCast_mul, Rat.intCast_mul, ← a]
      generalize ((M : Int) : Rat) = m
      generalize ((q.den : Int) : Rat) = dd at *
      generalize (q.num : Rat) = nn at *
      grind
    exact_mod_cast g
  have h1 : (q.den : Int) ∣ q.num * (M : Int) := ⟨z, by rw [key, Int.mul_comm]⟩
  have h2 : q.den ∣ q.num.natAbs * M := by
    have := Int.natAbs_dvd_natAbs.mpr h1
    rw [Int.natAbs_mul, Int.natAbs_natCast, Int.natAbs_natCast] at this
    exact this
  exact Nat.Coprime.dvd_of_dvd_mul_left q.reduced.symm h2
theorem lcmF_min {M : Nat} : ∀ (qs : List Rat) (c : Nat), c ∣ M → (∀ q ∈ qs, q.den ∣ M) → qs.foldl (fun c q => Nat.lcm c q.den) c ∣ M
  | [], c, h, _ => h
  | q :: qs, c, h, k => lcmF_min qs _ (Nat.lcm_dvd h (k q List.mem_cons_self)) fun x hx => k x (List.mem_cons_of_mem _ hx)
end DL

set_option Elab.async false
set_option linter.all false
set_option maxRecDepth 100000
set_option maxHeartbeats 4000000
namespace DL
open PySem L2
/-! ### the numbers of k03's law -/
def kSh (ns : List Int) : List Int := lawN ns 0 16
def kT (ns : List Int) : Int := ((kSh ns).getD 3 0).fmod 19 - 9
def kU (ns : List Int) : Int := 1 + ((kSh ns).getD 4 0).fmod 4
def kV (ns : List Int) : Rat := (kT ns : Rat) / (kU ns : Rat)
end DL

set_option Elab.async false
set_option linter.all false
set_option maxRecDepth 100000
set_option maxHeartbeats 4000000
/-! errors with a field: asked for their class -/
namespace DL
open PySem PySem.W PySem.Spec PySem.Calls PyProof.Rows
section
variable {pg : Program} {w : World} {Ar : Around} {Er : Value → Shared → Prop} {z : Shared} {K : Frag} {a D : Addr} {o : Obj} {dct : Option Obj}
theorem cls_found (c : L2.ExcC K D) : findObj K D dct "__class__" = some (.bind (.builtin "getset_descriptor.__get__") (.builtin "object.__class__")) := by
  obtain ⟨cd, e, _⟩ := any_some c.hd
  unfold findObj
  rw [e, Option.bind_some, c.ha, Option.bind_some]
  simp [c.hn, c.ht]
theorem cls_asked {Q : Option Value → Shared → Prop} (c : L2.ExcC K D) (hK : K.In z.heap) (hI : InstAt z.heap a o D dct) (q : Q (some (.ref D)) { z with toks := z.toks + 1 }) : wpAny (model pg w) Ar (getAttr? (.ref a) "__class__") Q Er z := by
  obtain ⟨hh, gg, dd, tt, ss⟩ := z
  have ty := hI.type (M := model pg w)
  have la := looks_findIn (M := model pg w) hK c.hg
  have lb := looks_findIn (M := model pg w) hK c.hk
  have lf := looks_find (M := model pg w) hK hI (cls_found c)
  have sb : Looks (model pg w) hh (isInstance (.ref a) (.type "BaseException")) true := ty.andThen (looks_subIn hK c.hs)
  have no1 : (Value.builtin "BaseException.__getattribute__" == Value.builtin "object.__getattribute__") = false := by decide +kernel
  have no2 : (onTheHeap (.ref D) && Value.builtin "BaseException.__getattribute__" == .builtin "object.__getattribute__") = false := by rw [no1]; rfl
  unfold getAttr? getAttrBy?; unfold getAttrBy
  refine wpAny_bind (wpAny_mkText ?_); refine wpAny_bind (wpAny_attempt ?_)
  refine wpAny_holding (wpAny_bind (ty.at (wpAny_bind (la.at ?_))))
  show wpAny _ _ (if (onTheHeap (.ref D) && Value.builtin "BaseException.__getattribute__" == .builtin "object.__getattribute__") = true then _ else _) _ _ _
  rw [no2]; rw [if_neg Bool.false_ne_true]
  unfold getAttrByItsOwn; unfold hookBefore
  apply wpAny_bind
  rw [if_pos (by rfl : onTheHeap (.ref D) = true)]
  apply lb.at; apply wpAny_bind
  refine wpAny_attempt ?_; refine wpAny_holding ?_
  unfold callGetattribute
  rw [show (false && onTheHeap (Value.builtin "BaseException.__getattribute__")) = false from rfl]; rw [if_neg Bool.false_ne_true]
  unfold boundAndCalled; rw [PySem.F.excAttr_ValueError.ga.bind (.ref a)]
  apply wpAny_bind; apply wpAny_pure
  show wpAny _ _ (call (.builtin "BaseException.__getattribute__") [.ref a, .str "__class__" tt]) _ _ _
  apply wpAny_call; refine codeAny_call_builtin PySem.F.excAttr_ValueError.ga.plain PySem.F.entry_bexc_ga ?_
  refine @check_slot (model pg w) _ _ (⟨hh, gg, dd, tt + 1, ss⟩ : Shared) "BaseException.__getattribute__" "BaseException" "__getattribute__" (.ref a) [.str "__class__" tt]
    [] _ (by decide +kernel) (by decide +kernel) sb (PySem.F.args_bexc_ga (.ref a) (.str "__class__" tt)) ?_
  unfold Builtin.«object.__getattribute__»; apply wpAny_bind
  refine wpAny_of_eq (a := ((.ref a : Value), [Value.str "__class__" tt])) (by first | rfl | (simp only [slotArgs]; rfl)) ?_
  apply wpAny_bind; apply wpAny_pure; apply wpAny_bind
  refine ty.at (wpAny_bind (lf.at ?_))
  show wpAny _ _ (holding [Value.builtin "object.__class__"] (call (.builtin "getset_descriptor.__get__") [.builtin "object.__class__", .ref a, .ref D]) >>= ret) _ _ _
  apply wpAny_bind; apply wpAny_holding; apply wpAny_call
  refine class_get (s := ⟨hh, gg, dd, tt + 1, ss⟩) (ox := o) (od := dct) hK hI c.hm ?_
  apply wpAny_pure
  show wpAny _ _ (handedOut (Value.ref D)) _ _ _
  rw [handedOut_of (v := .ref D) (by rfl)]
  first | exact wpAny_pure (wpAny_pure q) | exact wpAny_pure q | exact wpAny_pure (wpAny_bind (wpAny_pure (wpAny_pure q)))
theorem kitx_err (c : L2.ExcC K D) : KitX K (.ref a) (.ref D) fun h => InstAt h a o D dct := by
  obtain ⟨cd, hc, _⟩ := any_some c.hd
  unfold clsIn at hc
  split at hc
  · rename_i c1 c2 c3 c4 at0
    refine ⟨fun _ _ _ I => I.type, fun _ _ kin _ Ar Q Er z keep q => ?_, fun h tp dd its n sl kin there => ?_, fun kin I q => cls_asked c kin I q⟩
    · unfold isType; unfold loadHead
      exact wpAny_bind (wpAny_loadPart (keep _ _ (kin _ _ at0)) (wpAny_pure q))
    · cases same : ((Value.ref D) == Value.ref tp) with
      | false => rfl
      | true =>
        have two : tp = D := (Value.ref.inj (beq_iff_eq.mp same)).symm
        rw [two] at there
        cases there.symm.trans (kin _ _ at0)
  · cases hc
end
end DL
namespace DL
open PySem PySem.Spec PyProof.Rows L2
/-- isinstance(e, c): e is the error that the suite holds; fs its fields, if it has a dict -/
def DctAt (H : Hp) (d : Option Addr) (fs : List (Str × V)) : Prop := match d with
  | none => fs = []
  | some dd => H dd = some (.xd fs)
def rIsF (K : PySem.W.Frag) (D a : Addr) (d : Option Addr) : List V → Hp → VK → Prop := fun xs H Q => ∃ (c : V) (cv : Value) (b : Bool) (fs : List (Str × V)), DctAt H d fs ∧ xs = [.ref a, c] ∧ (∀ u, RelV c u → u = cv) ∧ PySem.W.kitOne K (.ref D) cv = some b ∧ Q (.bl b) H
theorem call_isF {X : Cx} {a D : Addr} {d : Option Addr} {oe : Obj} {pn : List (Addr × Obj)} (c : ExcC X.K D) (hz : Zc (.ref D) d oe) (hf : ∃ vs, oe.data = .fields vs) : CallR (X.suite a ((a, oe) :: pn)) (.builtin "isinstance") (rIsF X.K D a d) := by
  intro pins s σ H xs us Q I r h
  obtain ⟨cv0, cv, b, fs, hd, rfl, hcv, e, q⟩ := h
  obtain ⟨u1, u2, rfl, r1, r2⟩ := vals2 r
  obtain rfl : u1 = Value.ref a := r1
  obtain rfl := hcv _ r2
  obtain ⟨there, _⟩ := I.pin (a, oe) (List.mem_append_left _ List.mem_cons_self)
  obtain ⟨vs, hv⟩ := hf
  obtain ⟨hz1, hz2⟩ := hz
  have J : ∃ od, PySem.W.InstAt s.heap a oe D od := by
    cases d with
    | none => exact ⟨none, there, hz1, by unfold PySem.W.notCls; rw [hv] <;> rfl, by rw [hz2]; trivial⟩
    | some dd =>
      have ok : ObjOk X.prog X.w H s.heap dd (.xd fs) := I.hok dd _ hd
      obtain ⟨mA, hns, _⟩ := ok
      obtain ⟨od, ho, _⟩ := lookIn_ns hns
      exact ⟨some od, there, hz1, by unfold PySem.W.notCls; rw [hv] <;> rfl, by rw [hz2]; exact ho⟩
  obtain ⟨od, J⟩ := J
  exact PySem.W.kia_one (kitx_err (dct := od) c) I.kIn J e (fun z => nomatch z) fun tk => ⟨.bl b, H, I.kept (t' := tk) fun _ _ z => z, rfl, q⟩
end DL

set_option Elab.async false
set_option linter.all false
set_option maxRecDepth 100000
set_option maxHeartbeats 4000000
/-! errors with a field: made, raised, let through -/
namespace DL
open PySem PySem.Spec PyProof.Rows L2
/-- def __init__(self, f): self.f = f -/
def spIni (K : PySem.W.Frag) (f : Str) : Sp := fun vs H Q _ => ∃ (a C : Addr) (v : V), vs = [.ref a, v] ∧ H a = some (exo a C none) ∧ OexC K C ∧ PySem.W.findIn K (.ref C) f = some none ∧
  ∀ dx : Addr, H dx = none → dx ≠ a → Q .non (upd (upd H dx (exd dx [(f, v)])) a (exo a C (some dx)))
structure XClsF (K : PySem.W.Frag) (mg : Str → Option Value) (x f : Str) (C : Addr) : Prop where
  g : mg x = some (.ref C)
  oex : OexC K C
  no : PySem.W.findIn K (.ref C) f = some none
  xf : XfC K C
  ini : ∀ (P : Program) (w : World) (base : Heap), ∃ (fI : Addr) (fd : FuncData), PySem.W.findIn K (.ref C) "__init__" = some (some (.ref fI)) ∧ PySem.W.typeIn K (.ref fI) = some (.type "function") ∧ FnOk P w K mg base CX0 1 fI fd ["self", f] (spIni K f) ∧ Binds K fd ["self", f] []
section
variable {X : Cx} {N : List Str} {sc : Scope} {k j : Nat} {Γ : List Sl} {a b c e : Expr} {es rest : List Expr} {r ra rb rc r' : Rep} {rs l : List Rep} {pos p : Pos} {x f : Str} {i : Nat} {v : V}
variable {ι : Type} {pre : ι → Prop} {args : ι → List Rep} {out : ι → Out} {ret : Ret} {F0 H0 : Hp} {st body : List Stmt} {D : Ends} {C : Addr} {W : WX} {fs : List (Str × V)}
end
/-! the suite -/
structure BS (X : Cx) (N : List Str) (sc : Scope) : Prop where
  hN : X.N = N
  hsc : X.env.scope = sc
  nd : N.Nodup
theorem BX.su {X : Cx} {N : List Str} {sc : Scope} {k : Nat} {a : Addr} {pn : List (Addr × Obj)} (B : BX X N sc k) : BS (X.suite a pn) N sc := ⟨B.hN, B.hsc, B.nd⟩
/-- the error at a, with its fields -/
def rErr (a : Addr) (d : Option Addr) (fs : List (Str × V)) : Rep := ⟨fun F v => v = .ref a ∧ DctAt F d fs, fun {F F' v} s ⟨h1, h2⟩ => ⟨h1, by
  cases d with
  | none => exact h2
  | some dd => exact s _ _ h2⟩⟩
theorem en_err {F0 H0 F H H1 : Hp} {σ : L2.St} {Γ : List Sl} {i : Nat} {a : Addr} (en : En F0 H0 F H σ Γ) (s : Same H H1) : En F0 H0 F H1 (σ.set i (some (.ref a))) (Γ.set i (.im (rErr a none []))) :=
  (en.grow (F' := F) (H' := H1) ⟨Same.refl _, s, en.gr.s.trans s, fun _ _ z => z⟩).setIm (v := .ref a) ⟨rfl, rfl⟩
section
variable {X Y : Cx} {N : List Str} {sc : Scope} {k i : Nat} {Γ : List Sl} {e c : Expr} {r : Rep} {l : List Rep} {x n f : Str} {pos p p2 : Pos} {F0 H0 : Hp} {st : List Stmt} {D : Ends} {u : Bool} {v : V} {cv : Value}
/-- isinstance(e, c) in the suite -/
theorem de_isF {al Dx : Addr} {d : Option Addr} {fs : List (Str × V)} {oe : Obj} {pn : List (Addr × Obj)} (B : BS (X.suite al ((al, oe) :: pn)) N sc) (E : ExcC X.K Dx) (hz : Zc (.ref Dx) d oe) (hf : ∃ vs, oe.data = .fields vs) (hmi : X.mg "isinstance" = none) (hgi : sc.names.lookup ("isinstance" : Str) = some NameKind.globalImplicit)
    (hΓ : Γ[i]? = some (.im (rErr al d fs))) (hN : N[i]? = some n) (hv : Vis sc n) (hc : ClsE (X.suite al ((al, oe) :: pn)) c cv) (hk : PySem.W.kitOne X.K (.ref Dx) cv = some u)
    (hd : (n == ("__debug__" : Str)) = false := by decide) (hcd : (n == ("__classdict__" : Str)) = false := by decide)
    (he : starEach (.Name n p2 :: [c]) X.env = (false, eval (.Name n p2) X.env) :: starEach [c] X.env := by rfl) (he2 : starEach (c :: []) X.env = (false, eval c X.env) :: starEach [] X.env := by rfl) (hpl : (backTo pos (starEach [c] X.env)).any (·.1) = false := by rfl) :
    DE (X.suite al ((al, oe) :: pn)) Γ (.Call (.Name "isinstance" p) [.Name n p2, c] [] pos) (rBl u) := fun F0 H0 F H σ en Q q => by
  obtain ⟨hNX, hsc, _⟩ := B
  subst hsc hNX
  obtain ⟨cV, hu, hp⟩ := hc
  obtain ⟨y, hσ, rfl, hD⟩ := en.im hΓ
  have hgl : Gl (X.suite al ((al, oe) :: pn)) "isinstance" := hgi
  have hDH : DctAt H d fs := by
    cases d with
    | none => exact hD
    | some dd => exact en.gr.s _ _ hD
  refine .of (pe_callB (call_isF E hz hf) hgl hmi (by decide +kernel) (pa_cons (pe_var (i := i) hN hv hd hcd) (pa_cons hp pa_nil he2) he) (by decide) (by decide) he hpl) ?_
  exact ⟨_, hσ, cV, cv, u, fs, hDH, rfl, hu, hk, q _ F H (.refl en.gr.s) rfl⟩
end
end DL

set_option Elab.async false
set_option linter.all false
set_option maxRecDepth 100000
set_option maxHeartbeats 4000000
/-! try: .. except C as e: suite -/
namespace DL
open PySem PySem.Spec PyProof.Rows L2
section
variable {X Y : Cx} {N : List Str} {sc : Scope} {k i : Nat} {Γ : List Sl} {a b e c : Expr} {r : Rep} {l : List Rep} {x n f : Str} {pos p p2 tpos apos ps2 : Pos} {F0 H0 F H : Hp} {σ : L2.St} {st : List Stmt} {D D' : Ends} {ret : Ret}
theorem go_run {Γ : List Sl} (en : En F0 H0 F H σ Γ) (h : GO Y F0 H0 st D Γ) : XS Y st D σ H := h F H σ en
theorem RT.su (R : RT F0 H0 ret D) (h : D'.rt = D.rt := by rfl) : RT F0 H0 ret D' := fun v F' H' g q => by rw [h]; exact R v F' H' g q
def LocS (Y : Cx) (sc : Scope) (x : Str) : Prop := sc.names.lookup x = some .local ∨ (sc.names.lookup x = some .cell ∧ Y.fn x = true)
theorem go_setLS (B : BS Y N sc) (he : DL Y Γ e l) (hN : N[i]? = some x) (hx : LocS Y sc x) (h : GO Y F0 H0 st D (Γ.set i (.ow l))) (hs : swapsWith e (some (.Name x tpos)) pos.line Y.env = pure false := by rfl) :
    GO Y F0 H0 (.Assign [.Name x tpos] e pos :: st) D Γ := fun F H σ en => by
  have hf : Y.fn x = true ∨ Y.env.scope.names.lookup x = some .local := by
    rcases hx with hx | hx
    · exact .inr (by rw [B.hsc]; exact hx)
    · exact .inl hx.2
  have hx : Loc sc x := hx.elim .inl fun z => .inr z.1
  refine .of (pss_cons (ps_set (i := i) (by rw [B.hN]; exact B.nd) (by rw [B.hN]; exact hN) (by rw [B.hsc]; exact hx) pe_ev hs hf) pss_ev) ?_
  refine he F0 H0 F H σ en _ fun p vs F' H' g h1 h2 h3 h4 => h F' H' _ ((en.grow g).setOw h2 h3 h4 (en.gr.h.free h1) fun j l' k1 k2 => ?_)
  obtain ⟨p', vs', a1, a2, a3, a4, a5⟩ := en.ow k1
  rw [a1] at k2
  have e2 : p' = p := V.ref.inj (Option.some.inj (Option.some.inj k2))
  rw [e2, h1] at a3
  cases a3
theorem go_appendS (B : BS Y N sc) (hΓ : Γ[i]? = some (.ow l)) (he : DE Y Γ e r) (hl : l.length < sizeLine) (hN : N[i]? = some x) (hv : Vis sc x) (h : GO Y F0 H0 st D (Γ.set i (.ow (l ++ [r]))))
    (hd : (x == ("__debug__" : Str)) = false := by decide) (hcd : (x == ("__classdict__" : Str)) = false := by decide)
    (hbase : attributeBase (.Name x p) "append" Y.env (eval (.Name x p) Y.env) = eval (.Name x p) Y.env := by rfl)
    (hfew : ((backTo pos (starEach (e :: []) Y.env)).all (fun x => !x.1) && (backToKw pos (keywordEach [] Y.env)).all (fun x => x.1.isSome)
      && decide ((e :: []).length + ([] : List Keyword).length + (if ([] : List Keyword).isEmpty then 0 else 1) < 30)) = true := by rfl)
    (hline : (apos.endLine == pos.line) = true := by rfl) (hs : starEach (e :: []) Y.env = (false, eval e Y.env) :: starEach [] Y.env := by rfl) (hplain : (backTo pos (starEach [] Y.env)).any (·.1) = false := by rfl)
    (hsw : swapsWith (.Call (.Attribute (.Name x p) "append" apos) [e] [] pos) none ps2.line Y.env = pure false := by rfl) :
    GO Y F0 H0 (.Expr (.Call (.Attribute (.Name x p) "append" apos) [e] [] pos) ps2 :: st) D Γ := fun F H σ en => by
  obtain ⟨q, vs, h1, h2, h3, h4, h5⟩ := en.ow hΓ
  refine .of (pss_cons (ps_expr (pe_bm PySem.F.plainAttrs_list PySem.F.slot_list_append PySem.F.type_list_append mt_append (pe_var (i := i) (B.hN ▸ hN) (B.hsc ▸ hv) hd hcd) (pa_cons pe_ev pa_nil hs) hbase hfew hline hs hplain) hsw) pss_ev) ?_
  refine ⟨.ref q, h1, .inl ⟨rfl, vs, SqL.of h3⟩, ?_⟩
  refine he F0 H0 F H σ en _ fun v F' H' g hv => ?_
  have en' := en.grow g
  refine ⟨q, vs, v, rfl, rfl, g.h _ _ h3, by rw [← h4.len]; exact hl, ?_⟩
  exact h F' _ σ (en'.put hΓ h1 ((h4.mono g.f).snoc hv))
theorem de_lenOS (B : BS Y N sc) (hm : Y.mg "len" = none) (hΓ : Γ[i]? = some (.ow l)) (hN : N[i]? = some x) (hv : Vis sc x) (hg : sc.names.lookup ("len" : Str) = some NameKind.globalImplicit) (hd : (x == ("__debug__" : Str)) = false := by decide) (hcd : (x == ("__classdict__" : Str)) = false := by decide)
    (he : starEach (Expr.Name x p2 :: []) Y.env = (false, eval (.Name x p2) Y.env) :: starEach [] Y.env := by rfl) : DE Y Γ (.Call (.Name "len" p) [.Name x p2] [] pos) (rInt l.length) := fun F0 H0 F H σ en Q q => by
  obtain ⟨pp, vs, h1, h2, h3, h4, h5⟩ := en.ow hΓ
  have hgl : Gl Y "len" := by
    show Y.env.scope.names.lookup _ = _
    rw [B.hsc]
    exact hg
  exact .of (pe_callB call_len_seq hgl hm PySem.boot_len (pa_cons (pe_var (i := i) (B.hN ▸ hN) (B.hsc ▸ hv) hd hcd) pa_nil he) (he := he)) ⟨_, h1, pp, vs, rfl, .inl (SqL.of h3), q _ F H (.refl en.gr.s) (by rw [h4.len]; rfl)⟩
end
end DL

set_option Elab.async false
set_option linter.all false
set_option maxRecDepth 100000
set_option maxHeartbeats 4000000
/-! ends and ranges -/
namespace DL
open PySem PySem.Spec PyProof.Rows L2
abbrev Rg := Option Rat × Option Rat
abbrev rRg (K : PySem.W.Frag) (p : Rg) : Rep := rTup K [rOpt K p.1, rOpt K p.2]
section
variable {K : PySem.W.Frag}
end
section
variable {X : Cx} {Γ : List Sl} {a : Expr} {p pos : Pos} {j : Nat} {r : Rep} {o : Option Rat}
theorem de_notN (ha : DE X Γ a rNon) : DE X Γ (.Compare a [.IsNot] [.Constant .none j p] pos) (rBl false) := de_cmp op_notN (fun F H x y s h1 h2 Q q => by cases h1; cases h2; exact ⟨rfl, q _ F H (.refl s) rfl⟩) ha de_non (nomark _)
theorem de_notN0 (hn : NotNon r) (ha : DE X Γ a r) : DE X Γ (.Compare a [.IsNot] [.Constant .none j p] pos) (rBl true) := de_cmp op_notN (fun F H x y s h1 h2 Q q => by
  cases h2
  exact ⟨rfl, q _ F H (.refl s) (by show V.bl _ = V.bl _; rw [decide_eq_false (hn F x h1)]; rfl)⟩) ha de_non (nomark _)
theorem de_notNo (h : DE X Γ a (rOpt X.K o)) : DE X Γ (.Compare a [.IsNot] [.Constant .none j p] pos) (rBl (!o.isNone)) := by
  cases o with
  | none => exact de_notN h
  | some q => exact de_notN0 notNon_num h
theorem dt_notN (ha : DE X Γ a rNon) : DT X Γ (.Compare a [.IsNot] [.Constant .none j p] pos) false := dt_cmp op_notN (fun F H x y s h1 h2 Q q => by cases h1; cases h2; exact ⟨rfl, q _ F H (.refl s) rfl⟩) ha de_non (nomark _)
theorem dt_notN0 (hn : NotNon r) (ha : DE X Γ a r) : DT X Γ (.Compare a [.IsNot] [.Constant .none j p] pos) true := dt_cmp op_notN (fun F H x y s h1 h2 Q q => by
  cases h2
  exact ⟨rfl, q _ F H (.refl s) (by show V.bl _ = V.bl _; rw [decide_eq_false (hn F x h1)]; rfl)⟩) ha de_non (nomark _)
end
end DL

set_option Elab.async false
set_option linter.all false
set_option maxRecDepth 100000
set_option maxHeartbeats 4000000
/-! a def with a star parameter -/
namespace DL
open PySem PySem.Spec PyProof.Rows L2
structure CalR (P : Program) (w : World) (K : PySem.W.Frag) (mg : Str → Option Value) (base : Heap) (k : Nat) (x : Str) (sp : Sp) : Prop where
  ex : ∃ f : Addr, FnR P w K mg base (L2.CX P w) k f sp ∧ mg x = some (.ref f) ∧ PySem.W.keepIn K (.ref f) = true
section
variable {X : Cx} {N : List Str} {sc : Scope} {k j : Nat} {Γ : List Sl} {e : Expr} {es : List Expr} {pos p : Pos} {x : Str} {ι : Type} {pre : ι → Prop} {args : ι → List Rep} {out : ι → Out} {ret : Ret} {C : Addr} {W : WX} {fs : List (Str × V)} {sp : Sp}
end
section
variable {P : Program} {w : World} {K : PySem.W.Frag} {mg : Str → Option Value} {base : Heap} {k : Nat} {x pv : Str} {st : Stmt} {N ps : List Str} {ι : Type} {pre : ι → Prop} {first rest : ι → List Rep} {out : ι → Out}
end
end DL

set_option Elab.async false
set_option linter.all false
set_option maxRecDepth 100000
set_option maxHeartbeats 4000000
/-! sets made of lists -/
namespace DL
open PySem PySem.Spec PyProof.Rows L2
section
variable {P : Program} {w : World} {A : Around} {E : Value → Shared → Prop} {s : Shared}
abbrev emptyS (w : World) : Obj := { cls := .type "set", dict := none, data := .set #[] 0 (.fresh 0 0 (!w.params.followText "set-order")) }
/-- what the walk that fills a set has to give -/
def Fills (P : Program) (w : World) (items : Array Value) (Good : Heap → Addr → Prop) : Prop :=
  ∀ {A' : Around} {s0 : Shared} {S I : Addr} {fp wr : List Addr} {G : Array GenState → Array GenState → Prop} {St : Nat → Shared → Prop} {R : Result → Shared → Prop},
    WalksS P w A'.in1 I fp wr G items.size (fun i v => items[i]? = some v) St → S ∉ fp → St 0 s0 → s0.heap.get? S = some (emptyS w) →
    (∀ s', Moved (S :: wr) G s0 s' → Good s'.heap S → R (.ok (.ret .none)) s') → codeAny (model P w) A' (.builtin "set.update.loop" ⟨[.ref S, .ref I], []⟩) R s0
set_option maxHeartbeats 3200000 in
theorem set_made {l : Addr} {items : Array Value} {Good : Heap → Addr → Prop} {Q : Value → Shared → Prop} (hh : A.handled = none) (hl : s.heap.IsList l items) (fills : Fills P w items Good)
    (h : ∀ (h' : Heap) (tk : Nat), Good h' s.heap.objs.size → (∀ b o, s.heap.get? b = some o → h'.get? b = some o) → Q (.ref s.heap.objs.size) { s with heap := h', toks := tk }) :
    wpAny (model P w) A (call (.type "set") [.ref l]) Q E s := by
  have cs := F.called_set
  obtain ⟨c, tl, e1⟩ := cs.mro
  have e2 := cs.made
  have e3 := cs.sub
  have e4 := cs.notType
  have e5 := cs.canCreate
  have e6 := F.typeCall_set_1 (.ref l)
  refine wpAny_call (codeAny_of_tree (show wpAny _ _ (callAny (.type "set") _) _ _ _ from wpAny_pure ⟨Code.quiet_builtin _ (by decide +kernel), codeAny_builtin F.entry_type_call ?_⟩))
  rw [Around.under_plain (weight_type_call_type "set" [.ref l] []) rfl]
  repeat (any_goals (first | assumption | wp_step))
  generalize hn : s.heap.objs.size = n at h
  have lS : (s.heap.push (emptyS w)).objs.size = n + 1 := by rw [Heap.size_push, hn]
  have at1 : (s.heap.push (emptyS w)).get? n = some (emptyS w) := hn ▸ Heap.get?_push_size _ rfl
  refine codeAny_mono (code_set_led1 (.ref l) (E := E) (Q₁ := fun v t => v = .ref n ∧ t = { s with heap := s.heap.push (emptyS w) }) ⟨by rw [hn], rfl⟩) fun r t hr => ?_
  match r, hr with
  | .error e, hr => exact hr
  | .ok .next, hr => exact hr.elim
  | .ok .brk, hr => exact hr.elim
  | .ok .cont, hr => exact hr.elim
  | .ok (.ret v), ⟨e7, e8⟩ =>
    subst e7 e8
    have ty : Shared.TypeIs { s with heap := s.heap.push (emptyS w) } (.ref n) "set" := ⟨_, at1, rfl⟩
    have f1 := cs.init.lookup
    have f2 := cs.init.bind (.ref n)
    repeat (any_goals (first | assumption | wp_step))
    refine codeAny_mono (codeAny_call_builtin (R := wants (fun r t => r = .none ∧ ∃ h' tk, t = { s with heap := h', toks := tk } ∧ Good h' n ∧ ∀ b o, s.heap.get? b = some o → h'.get? b = some o) E) cs.init.plain F.entry_set_init (check_set_init_1 ty ?_)) fun r2 t2 hr2 => ?_
    · obtain ⟨⟨k1, k2, k3, k4⟩, hol, rfl, nl, rfl⟩ := hl
      have lt : l < n := hn ▸ Heap.lt_size hol
      have il : (s.heap.push (emptyS w)).IsList l items := ⟨_, Heap.get?_push_of_some _ hol, rfl, nl, rfl⟩
      have g1 : (s.heap.push (emptyS w)).get? l = some { cls := .type "list", dict := k2, data := .seq items nl, slots := k4 } := Heap.get?_push_of_some _ hol
      have g2 := F.sub_list_set
      have g3 := F.sub_list_frozenset
      have g4 : (Value.type "list" == Value.type "dict") = false := by decide
      unfold Builtin.«set.__init__» noKeywords Builtin.Frozenset.updateFrom
      generalize hP : pyIter = PI
      wp_walk
      subst hP
      refine wpAny_pyIter_list il (wpAny_bind (wpAny_runValue ?_))
      have hd : A.in1.in1.in1.handled = none := by simp [hh]
      have lt2 : n < (s.heap.push (emptyS w)).objs.size := by rw [lS]; exact Nat.lt_succ_self _
      have nI : l ≠ (s.heap.push (emptyS w)).objs.size := Nat.ne_of_lt (Nat.lt_trans lt lt2)
      have no2 : ∀ {b x y : Addr}, b ≠ x → b ≠ y → b ∉ [x, y] := fun p q z => by
        rcases List.mem_cons.mp z with z | z
        · exact p z
        · exact q (List.mem_singleton.mp z)
      refine fills ((Walks.list hd _ l nI items).toS) (no2 (Nat.ne_of_lt lt2) (Nat.ne_of_gt lt)) ⟨⟨_, Heap.get?_push_size _ rfl, rfl, rfl⟩, il.push _⟩ (Heap.get?_push_of_some _ at1) fun t3 mv good => ?_
      obtain ⟨h3, g3', d3, tk3, os3⟩ := t3
      obtain rfl : g3' = s.gens := mv.gens
      obtain rfl : d3 = s.drawn := mv.drawn
      obtain rfl : os3 = s.os := mv.os
      show wpAny _ _ _ _ _ _
      refine wpAny_pure (show wpAny _ _ (ret Value.none) _ _ _ from wpAny_pure ⟨rfl, h3, tk3, rfl, good, fun b o e => ?_⟩)
      have lb : b < n := hn ▸ Heap.lt_size e
      exact mv.heap b o (no2 (Nat.ne_of_lt lb) (Nat.ne_of_lt (Nat.lt_trans lb lt2))) (Heap.get?_push_of_some _ (Heap.get?_push_of_some _ e))
    · match r2, hr2 with
      | .error e, hr2 => exact hr2
      | .ok .next, hr2 => exact hr2.elim
      | .ok .brk, hr2 => exact hr2.elim
      | .ok .cont, hr2 => exact hr2.elim
      | .ok (.ret r), ⟨e9, h', tk, e10, good, keep⟩ =>
        subst e9 e10
        repeat (any_goals (first | assumption | wp_step))
        exact h _ _ good keep
end
end DL

set_option Elab.async false
set_option linter.all false
set_option maxRecDepth 100000
set_option maxHeartbeats 4000000
/-! lists of different members -/
namespace DL
open PySem L2
theorem snoc_ind {α : Type} {motive : List α → Prop} (nil : motive []) (snoc : ∀ (xs : List α) (x : α), motive xs → motive (xs ++ [x])) (l : List α) : motive l := by
  have h : ∀ l : List α, motive l.reverse := fun l => by
    induction l with
    | nil => exact nil
    | cons x l ih => rw [List.reverse_cons]; exact snoc _ _ ih
  have := h l.reverse
  rwa [List.reverse_reverse] at this
/-! the members, each once, in the order in which they are met -/
section
variable {α : Type} [DecidableEq α]
def dstep (acc : List α) (x : α) : List α := if x ∈ acc then acc else acc ++ [x]
def dd (xs : List α) : List α := xs.foldl dstep []
theorem dd_snoc (xs : List α) (x : α) : dd (xs ++ [x]) = dstep (dd xs) x := by
  unfold dd
  rw [List.foldl_append]
  rfl
theorem mem_dd {x : α} : ∀ {xs : List α}, x ∈ dd xs ↔ x ∈ xs := by
  intro xs
  induction xs using snoc_ind with
  | nil => exact Iff.rfl
  | snoc xs y ih =>
    rw [dd_snoc]
    unfold dstep
    by_cases h : y ∈ dd xs
    · rw [if_pos h, List.mem_append, List.mem_singleton, ih]
      exact ⟨.inl, fun z => z.elim id fun e => e ▸ ih.mp (by subst e; exact h)⟩
    · rw [if_neg h, List.mem_append, List.mem_append, ih]
theorem nodup_dd : ∀ (xs : List α), (dd xs).Nodup := by
  intro xs
  induction xs using snoc_ind with
  | nil => exact List.nodup_nil
  | snoc xs y ih =>
    rw [dd_snoc]
    unfold dstep
    by_cases h : y ∈ dd xs
    · rw [if_pos h]; exact ih
    · rw [if_neg h]
      exact List.nodup_append.mpr ⟨ih, by simp, fun a ha b hb e => h (by rw [List.mem_singleton.mp hb] at e; exact e ▸ ha)⟩
theorem dd_take {xs : List α} {i : Nat} {x : α} (h : xs[i]? = some x) : dd (xs.take (i + 1)) = dstep (dd (xs.take i)) x := by
  rw [List.take_add_one, h]
  exact dd_snoc _ _
theorem dd_len_le (xs : List α) : (dd xs).length ≤ xs.length := by
  induction xs using snoc_ind with
  | nil => exact Nat.le_refl _
  | snoc xs y ih =>
    rw [dd_snoc, List.length_append]
    unfold dstep
    split
    · exact Nat.le_trans ih (Nat.le_add_right _ _)
    · rw [List.length_append]; exact Nat.add_le_add_right ih _
theorem nodup_sub : ∀ {l m : List α}, l.Nodup → (∀ x ∈ l, x ∈ m) → l.length ≤ m.length
  | [], m, _, _ => Nat.zero_le _
  | x :: l, m, h, hs => by
    have h2 := List.nodup_cons.mp h
    have hx : x ∈ m := hs x (List.mem_cons_self ..)
    have := nodup_sub (l := l) (m := m.erase x) h2.2 (fun y hy => by
      have : y ≠ x := fun e => h2.1 (e ▸ hy)
      exact (List.mem_erase_of_ne this).mpr (hs y (List.mem_cons_of_mem _ hy)))
    rw [List.length_erase_of_mem hx] at this
    have hp := List.length_pos_of_mem hx
    rw [List.length_cons]
    omega
theorem nodup_len {l m : List α} (hl : l.Nodup) (hm : m.Nodup) (h : ∀ x, x ∈ l ↔ x ∈ m) : l.length = m.length :=
  Nat.le_antisymm (nodup_sub hl fun x z => (h x).mp z) (nodup_sub hm fun x z => (h x).mpr z)
theorem dd_of_nodup {xs : List α} (h : xs.Nodup) : (dd xs).length = xs.length := nodup_len (nodup_dd xs) h fun _ => mem_dd
theorem nodup_of_dd {xs : List α} (h : (dd xs).length = xs.length) : xs.Nodup := by
  induction xs using snoc_ind with
  | nil => exact List.nodup_nil
  | snoc xs y ih =>
    rw [dd_snoc, List.length_append] at h
    unfold dstep at h
    have hl := dd_len_le xs
    by_cases hy : y ∈ dd xs
    · rw [if_pos hy] at h
      simp at h
      omega
    · rw [if_neg hy, List.length_append] at h
      have h2 : (dd xs).length = xs.length := by simpa using h
      exact List.nodup_append.mpr ⟨ih h2, by simp, fun a ha b hb e => hy (by rw [List.mem_singleton.mp hb] at e; exact mem_dd.mpr (e ▸ ha))⟩
theorem dd_lt {xs : List α} : (dd xs).length < xs.length ↔ ¬ xs.Nodup := by
  have h1 := dd_len_le xs
  constructor
  · intro h n
    rw [dd_of_nodup n] at h
    omega
  · intro h
    by_cases e : (dd xs).length = xs.length
    · exact absurd (nodup_of_dd e) h
    · omega
end
/-! the members, ascending -/
def sins (x : Int) : List Int → List Int
  | [] => [x]
  | y :: l => if x < y then x :: y :: l else if x = y then y :: l else y :: sins x l
def sset (xs : List Int) : List Int := xs.foldr sins []
end DL

set_option Elab.async false
set_option linter.all false
set_option maxRecDepth 100000
set_option maxHeartbeats 4000000
/-! sets of ints and of texts: made of a list, counted, sorted -/
namespace DL
open PySem PySem.Spec PyProof.Rows L2
section
variable {P : Program} {w : World}
theorem fills_ints {items : Array Value} {ns : List Int} (hi : IntsAre items.toList ns) (hb : ns.length + 1 < scanBound) : Fills P w items fun h a => ∃ c, SetR w h a (fun j => decide (j ∈ ns)) c := by
  intro A' s0 S I fp wr G St R W hS h0 hg k
  have hl : items.size = ns.length := by
    have q := hi.length
    rw [Array.length_toList] at q
    exact q
  refine set_update_ints W S hS ns hl hb (fun i v hv => ?_) (items.size - 0) 0 s0 rfl (Nat.zero_le _) h0 ⟨0, Nat.le_refl _, setR_new_at hg⟩ fun s' c mv _ r => k s' mv ⟨c, r⟩
  have lt : i < ns.length := hl ▸ (Array.getElem?_eq_some_iff.mp hv).1
  obtain ⟨t, e⟩ := IntsAre.int_at hi i v (by rw [Array.getElem?_toList]; exact hv)
  exact ⟨ns[i], t, List.getElem?_eq_getElem lt, by rw [e, List.getD_eq_getElem?_getD, List.getElem?_eq_getElem lt, Option.getD_some]⟩
/-- a set of texts, the first i of them in it -/
theorem fill_strs {A : Around} {S I : Addr} {fp wr : List Addr} {G : Array GenState → Array GenState → Prop} {n : Nat} {Pv : Nat → Value → Prop} {St : Nat → Shared → Prop} {R : Result → Shared → Prop} (W : WalksS P w A.in1 I fp wr G n Pv St) (hS : S ∉ fp) (xs : List Str) (hn : n = xs.length) (hb : xs.length + 1 < scanBound)
    (hv : ∀ i v, Pv i v → ∃ x t, xs[i]? = some x ∧ v = .str x t) : ∀ (d i : Nat) (s : Shared), n - i = d → i ≤ n → St i s → s.heap.SetOf (PySem.strKind P w) S (fun z => decide (z ∈ xs.take i)) (dd (xs.take i)).length →
      (∀ s', Moved (S :: wr) G s s' → s'.heap.SetOf (PySem.strKind P w) S (fun z => decide (z ∈ xs)) (dd xs).length → R (.ok (.ret .none)) s') → codeAny (model P w) A (.builtin "set.update.loop" ⟨[.ref S, .ref I], []⟩) R s := by
  have nw : S ∉ wr := fun z => hS (W.sub _ z)
  have up : ∀ b ∈ wr, b ∈ S :: wr := fun b z => List.mem_cons_of_mem _ z
  intro d
  induction d with
  | zero =>
    intro i s e1 e2 st so k
    obtain rfl : i = n := by omega
    refine codeAny_builtin F.entry_set_update_loop ?_
    rw [Around.under_plainId F.plain_set_update_loop _]
    refine show wpAny _ A.in1 (pyNext (.ref I) >>= _) _ _ s from wpAny_bind (W.done s _ _ st fun s' mv => show wpAny _ A.in1 (ret Value.none) _ _ s' from wpAny_pure (k s' (mv.mono up) ?_))
    rw [List.take_of_length_le (by omega)] at so
    obtain ⟨o, es, ep, tb, ho, rest⟩ := so
    exact ⟨o, es, ep, tb, mv.heap S _ nw ho, rest⟩
  | succ d ih =>
    intro i s e1 e2 st so k
    have lt : i < n := by omega
    refine codeAny_builtin F.entry_set_update_loop ?_
    rw [Around.under_plainId F.plain_set_update_loop _]
    refine show wpAny _ A.in1 (pyNext (.ref I) >>= _) _ _ s from wpAny_bind (W.item i s _ _ lt st fun v s1 pv st1 mv => ?_)
    obtain ⟨x, t, hx, rfl⟩ := hv i v pv
    have so1 : s1.heap.SetOf (PySem.strKind P w) S (fun z => decide (z ∈ xs.take i)) (dd (xs.take i)).length := by
      obtain ⟨o, es, ep, tb, ho, rest⟩ := so
      exact ⟨o, es, ep, tb, mv.heap S _ nw ho, rest⟩
    refine show wpAny _ A.in1 (holding [Value.str x t] (setAdd S (.str x t)) >>= _) _ _ s1 from wpAny_bind (wpAny_holding ?_)
    unfold setAdd
    refine wpAny_holding (wpAny_bind ((PySem.strKind P w).pyHash (k := x) (strKind_is _ _ _ _) ?_))
    have room : (dd (xs.take i)).length + 1 < scanBound := by
      have := dd_len_le (xs.take i)
      rw [List.length_take] at this
      omega
    refine wpAny_setAddHashed_of (knd := PySem.strKind P w) (s := { s1 with toks := s1.toks + 1 }) (strKind_is _ _ _ _) rfl so1 room fun h' sb so2 => ?_
    have so3 : h'.SetOf (PySem.strKind P w) S (fun z => decide (z ∈ xs.take (i + 1))) (dd (xs.take (i + 1))).length := by
      refine SetOf_congr so2 (fun z => ?_) ?_
      · rw [List.take_add_one, hx]
        by_cases h1 : z ∈ xs.take i <;> by_cases h2 : z = x <;> simp [h1, h2]
      · rw [dd_take hx]
        unfold dstep
        by_cases h1 : x ∈ xs.take i
        · rw [if_pos (mem_dd.mpr h1), if_pos (decide_eq_true h1)]
        · rw [if_neg (fun z => h1 (mem_dd.mp z)), if_neg (by simp [h1]), List.length_append]
          rfl
    refine wpAny_pure ⟨plainId_quiet F.plain_set_update_loop _, ih (i + 1) _ (by omega) lt (W.frame _ s1 _ _ st1 (Nat.le_succ _) fun b hb o e => ?_) so3 fun s2 mv2 so4 => k s2 ?_ so4⟩
    · rw [sb.2 b (fun z => hS (z ▸ hb))]
      exact e
    · refine Moved.trans W.gtrans ((mv.mono up).then_heap (Nat.le_succ _) fun b o hb e => ?_) mv2
      rw [sb.2 b (fun z => hb (z ▸ List.mem_cons_self))]
      exact e
theorem fills_strs {items : Array Value} {xs : List Str} (hi : StrsAre items.toList xs) (hb : xs.length + 1 < scanBound) : Fills P w items fun h a => h.SetOf (PySem.strKind P w) a (fun z => decide (z ∈ xs)) (dd xs).length := by
  intro A' s0 S I fp wr G St R W hS h0 hg k
  have hl : items.size = xs.length := by
    have q := StrsAre.len_eq hi
    rw [Array.length_toList] at q
    exact q
  refine fill_strs W hS xs hl hb (fun i v hv => ?_) (items.size - 0) 0 s0 rfl (Nat.zero_le _) h0 ?_ k
  · have lt : i < xs.length := hl ▸ (Array.getElem?_eq_some_iff.mp hv).1
    obtain ⟨t, e⟩ := SS.strs_at hi i v (by rw [Array.getElem?_toList]; exact hv)
    exact ⟨xs[i], t, List.getElem?_eq_getElem lt, by rw [e, List.getD_eq_getElem?_getD, List.getElem?_eq_getElem lt, Option.getD_some]⟩
  · exact SetOf_congr ((setObjOf_fresh (knd := PySem.strKind P w) (!w.params.followText "set-order")).setOf hg (by unfold scanBound; omega)) (fun z => by simp) rfl
end
def SetSO (P : Program) (w : World) (a : Addr) (xs : List Str) : HO := .ext fun h => h.SetOf (PySem.strKind P w) a (fun z => decide (z ∈ xs)) (dd xs).length
theorem setS_new {w : World} {P : Program} {H : Hp} {h : Heap} {a : Addr} {xs : List Str} (R : h.SetOf (PySem.strKind P w) a (fun z => decide (z ∈ xs)) (dd xs).length) : ObjOk P w H h a (SetSO P w a xs) := by
  have ⟨o, _, _, _, ho, _⟩ := R
  exact ⟨R, ⟨o, ho⟩, fun h1 h2 ⟨o', es, ep, tb, q1, q2⟩ k => ⟨o', es, ep, tb, k _ q1, q2⟩⟩
section
variable {X : Cx}
def kSetI (X : Cx) : List V → Hp → VK → Prop := fun vs H Q => ∃ (l : Addr) (ns : List Int), vs = [V.ref l] ∧ SqL X.K H l (ns.map V.int) ∧ ns.length + 1 < scanBound ∧ ∀ p c, H p = none → Q (.ref p) (upd H p (SetO X.w p (fun j => decide (j ∈ ns)) c))
theorem cr_setI (hc : X.calm = true) : CallR X (.type "set") (kSetI X) := by
  intro pins s σ H vs us Q I r h
  obtain ⟨l, ns, rfl, hq, hb, q⟩ := h
  rw [Vals.ref1 r]
  obtain ⟨its, rv, pl, hz⟩ := I.list hq
  refine set_made (Good := fun h a => ∃ c, SetR X.w h a (fun j => decide (j ∈ ns)) c) (I.ok.hd hc) pl.isList (fills_ints (by simpa using ints_of_vals rv) hb) fun h' tk ⟨c, good⟩ keep => ?_
  exact ⟨.ref _, _, I.laid (t' := tk) keep (Nat.le_refl _) (setO_new good), rfl, q _ c (I.hok.fresh (Nat.le_refl _))⟩
def kSetS (X : Cx) : List V → Hp → VK → Prop := fun vs H Q => ∃ (l : Addr) (xs : List Str), vs = [V.ref l] ∧ SqL X.K H l (xs.map V.str) ∧ xs.length + 1 < scanBound ∧ ∀ p, H p = none → Q (.ref p) (upd H p (SetSO X.prog X.w p xs))
theorem cr_setS (hc : X.calm = true) : CallR X (.type "set") (kSetS X) := by
  intro pins s σ H vs us Q I r h
  obtain ⟨l, xs, rfl, hq, hb, q⟩ := h
  rw [Vals.ref1 r]
  obtain ⟨its, rv, pl, hz⟩ := I.list hq
  refine set_made (Good := fun h a => h.SetOf (PySem.strKind X.prog X.w) a (fun z => decide (z ∈ xs)) (dd xs).length) (I.ok.hd hc) pl.isList (fills_strs (by simpa using strsAre_of rv) hb) fun h' tk good keep => ?_
  exact ⟨.ref _, _, I.laid (t' := tk) keep (Nat.le_refl _) (setS_new good), rfl, q _ (I.hok.fresh (Nat.le_refl _))⟩
theorem setR_len {w : World} {h : Heap} {a : Addr} {ns : List Int} {c : Nat} (R : SetR w h a (fun j => decide (j ∈ ns)) c) : c = (dd ns).length := by
  obtain ⟨o, es, ep, t, ho, hx, hd, g, nd, hm, hb, hf, hn, _⟩ := R
  have e := nodup_len nd (nodup_dd ns) fun x => by rw [← hm, mem_dd, decide_eq_true_iff]
  rw [List.length_map, Array.length_toList, hn] at e
  exact e
/-- len of a set -/
def kLenSet (X : Cx) : List V → Hp → VK → Prop := fun vs H Q => (∃ (a : Addr) (ns : List Int) (c : Nat), vs = [V.ref a] ∧ H a = some (SetO X.w a (fun j => decide (j ∈ ns)) c) ∧ Q (.int (dd ns).length) H) ∨ ∃ (a : Addr) (xs : List Str), vs = [V.ref a] ∧ H a = some (SetSO X.prog X.w a xs) ∧ Q (.int (dd xs).length) H
theorem cr_lenSet : CallR X (.builtin "len") (kLenSet X) := by
  intro pins s σ H vs us Q I r h
  rcases h with ⟨a, ns, c, rfl, ha, q⟩ | ⟨a, xs, rfl, ha, q⟩
  · rw [Vals.ref1 r]
    have R := setO_get I ha
    have hc := setR_len R
    obtain ⟨o, es, ep, t, ho, hx, hd, g, nd, hm, hb, hf, hn, _⟩ := R
    refine call_len_set ho hx hd hf (by unfold scanBound at hb; omega) ⟨.int (dd ns).length, H, I.tok _, ⟨_, by rw [hn, hc]⟩, q⟩
  · rw [Vals.ref1 r]
    obtain ⟨o, es, ep, t, ho, hex, hd, _, _, hb, hf, hn⟩ := (I.hok a _ ha).1
    refine call_len_set ho hex hd hf (by unfold scanBound at hb; omega) ⟨.int (dd xs).length, H, I.tok _, ⟨_, by rw [hn]⟩, q⟩
end
/-- a set of whole numbers, of texts -/
def rSetI (w : World) (ns : List Int) : Rep := ⟨fun F x => ∃ a c, x = .ref a ∧ F a = some (SetO w a (fun j => decide (j ∈ ns)) c), fun s ⟨a, c, e, h⟩ => ⟨a, c, e, s _ _ h⟩⟩
def rSetS (P : Program) (w : World) (xs : List Str) : Rep := ⟨fun F x => ∃ a, x = .ref a ∧ F a = some (SetSO P w a xs), fun s ⟨a, e, h⟩ => ⟨a, e, s _ _ h⟩⟩
theorem rl_iv {F : Hp} : ∀ {ns : List Int} {vs : List V}, RL F (ns.map rInt) vs → vs = ns.map V.int
  | [], _, .nil => rfl
  | n :: ns, _, .cons h t => by rw [rl_iv t]; cases h; rfl
theorem rl_sv {F : Hp} : ∀ {xs : List Str} {vs : List V}, RL F (xs.map rStr) vs → vs = xs.map V.str
  | [], _, .nil => rfl
  | n :: ns, _, .cons h t => by rw [rl_sv t]; cases h; rfl
section
variable {X : Cx} {N : List Str} {sc : Scope} {k : Nat} {Γ : List Sl} {e : Expr} {pos p : Pos} {ns : List Int} {xs : List Str}
theorem de_setI (B : BX X N sc k) (hm : X.mg "set" = none) (hl : ns.length + 1 < scanBound) (h : DE X Γ e (rLst X.K (ns.map rInt))) (hg : sc.names.lookup ("set" : Str) = some NameKind.globalImplicit) (he : starEach (e :: []) X.env = (false, eval e X.env) :: starEach [] X.env := by rfl) : DE X Γ (.Call (.Name "set" p) [e] [] pos) (rSetI X.w ns) :=
  de_bty B (cr_setI B.calm) (fun F H vs s h Q q => by
    obtain ⟨v, rfl, l, ys, rfl, k1, k2⟩ := rl1 h
    rw [rl_iv k2] at k1
    exact ⟨l, ns, rfl, s.seq k1, hl, fun p c hp => q _ _ _ (.new s hp) ⟨p, c, rfl, upd_same⟩⟩) hm (by decide +kernel) (da_cons h da_nil he) hg (he := he)
theorem de_setS (B : BX X N sc k) (hm : X.mg "set" = none) (hl : xs.length + 1 < scanBound) (h : DE X Γ e (rLst X.K (xs.map rStr))) (hg : sc.names.lookup ("set" : Str) = some NameKind.globalImplicit) (he : starEach (e :: []) X.env = (false, eval e X.env) :: starEach [] X.env := by rfl) : DE X Γ (.Call (.Name "set" p) [e] [] pos) (rSetS X.prog X.w xs) :=
  de_bty B (cr_setS B.calm) (fun F H vs s h Q q => by
    obtain ⟨v, rfl, l, ys, rfl, k1, k2⟩ := rl1 h
    rw [rl_sv k2] at k1
    exact ⟨l, xs, rfl, s.seq k1, hl, fun p hp => q _ _ _ (.new s hp) ⟨p, rfl, upd_same⟩⟩) hm (by decide +kernel) (da_cons h da_nil he) hg (he := he)
theorem de_lenSS (B : BX X N sc k) (hm : X.mg "len" = none) (h : DE X Γ e (rSetS X.prog X.w xs)) (hg : sc.names.lookup ("len" : Str) = some NameKind.globalImplicit) (he : starEach (e :: []) X.env = (false, eval e X.env) :: starEach [] X.env := by rfl) : DE X Γ (.Call (.Name "len" p) [e] [] pos) (rInt ((dd xs).length : Nat)) :=
  de_blt B cr_lenSet (fun F H vs s h Q q => by
    obtain ⟨v, rfl, a, rfl, k1⟩ := rl1 h
    exact .inr ⟨a, xs, rfl, s _ _ k1, q _ F H (.refl s) rfl⟩) hm PySem.boot_len (da_cons h da_nil he) hg (he := he)
end
end DL

set_option Elab.async false
set_option linter.all false
set_option maxRecDepth 100000
set_option maxHeartbeats 4000000
/-! zip of two rows, each a list or a tuple -/
namespace DL
open PySem PySem.Spec PyProof.Rows L2
def IsSq (t : Bool) (h : Heap) (l : Addr) (xs : Array Value) : Prop := if t = true then h.IsTuple l xs else h.IsList l xs
def IsSqI (t : Bool) (h : Heap) (it l : Addr) (i : Nat) : Prop := if t = true then h.IsTupleIter it l i else h.IsListIter it l i
def itObj (t : Bool) (l : Addr) : Obj := { cls := .type (if t = true then "tuple_iterator" else "list_iterator"), data := .fields #[.ref l, .int 0 0] }
theorem IsSq.keep {t : Bool} {h h' : Heap} {l : Addr} {xs : Array Value} (x : IsSq t h l xs) (k : ∀ o, h.get? l = some o → h'.get? l = some o) : IsSq t h' l xs := by
  cases t with
  | true => obtain ⟨o, e, r⟩ := (show h.IsTuple l xs from x); exact ⟨o, k o e, r⟩
  | false => obtain ⟨o, e, r⟩ := (show h.IsList l xs from x); exact ⟨o, k o e, r⟩
theorem IsSqI.keep {t : Bool} {h h' : Heap} {l it : Addr} {i : Nat} (x : IsSqI t h it l i) (k : ∀ o, h.get? it = some o → h'.get? it = some o) : IsSqI t h' it l i := by
  cases t with
  | true => exact Heap.IsTupleIter.at (show h.IsTupleIter it l i from x) k
  | false => exact Heap.IsListIter.at (show h.IsListIter it l i from x) k
theorem IsSqI.ob {t : Bool} {h : Heap} {l it : Addr} {i : Nat} (x : IsSqI t h it l i) : ∃ o, h.get? it = some o ∧ ∀ v, o.data ≠ .cell v := by
  cases t with
  | true => obtain ⟨o, e, _, d⟩ := (show h.IsTupleIter it l i from x); exact ⟨o, e, fun v q => by rw [d] at q; cases q⟩
  | false => obtain ⟨o, e, _, d⟩ := (show h.IsListIter it l i from x); exact ⟨o, e, fun v q => by rw [d] at q; cases q⟩
theorem isSqI_new {t : Bool} {h : Heap} {l it : Addr} (e : h.get? it = some (itObj t l)) : IsSqI t h it l 0 := by
  cases t with
  | true => exact ⟨_, e, rfl, rfl⟩
  | false => exact ⟨_, e, rfl, rfl⟩
section
variable {P : Program} {w : World} {A : Around} {E : Value → Shared → Prop} {s : Shared}
theorem sq_next {t : Bool} {it l : Addr} {i : Nat} {xs : Array Value} {x : Value} {Q : Value → Shared → Prop} (hi : IsSqI t s.heap it l i) (hl : IsSq t s.heap l xs) (hx : xs[i]? = some x)
    (k : ∀ h', IsSqI t h' it l (i + 1) → Heap.SameBut it s.heap h' → Q x { s with heap := h' }) : wpAny (model P w) A (Builtin.SmallTypes.nextOf (.ref it)) Q E s := by
  cases t with
  | true => exact RZ.nextOf_tuple_item hi hl hx k
  | false => exact wpAny_nextOf_list_item hi hl hx k
theorem sq_stop {t : Bool} {it l : Addr} {i : Nat} {xs : Array Value} {Q : Value → Shared → Prop} (hh : A.handled = none) (hi : IsSqI t s.heap it l i) (hl : IsSq t s.heap l xs) (hx : xs[i]? = none)
    (k : ∀ h' e, Heap.ExtBut it s.heap h' → (∃ o, h'.get? e = some o ∧ o.cls = .type "StopIteration") → E (.ref e) { s with heap := h' }) : wpAny (model P w) A (Builtin.SmallTypes.nextOf (.ref it)) Q E s := by
  cases t with
  | true => exact RZ.nextOf_tuple_end hh hi hl hx k
  | false => exact wpAny_nextOf_list_end hh hi hl hx k
/-- the zip's own parts lie apart from each other and from what it walks -/
structure Zx (t u : Bool) (h : Heap) (z TI TO i j l m : Addr) (k : Nat) (xs ys : Array Value) : Prop where
  D : ZipApart z TI TO i j l m
  z : IsZip h z TI TO .none
  ti : IsPair h TI (.ref i) (.ref j)
  to : ∃ a b, IsPair h TO a b
  i : IsSqI t h i l k
  j : IsSqI u h j m k
  xs : IsSq t h l xs
  ys : IsSq u h m ys
abbrev Keeps (z TO i j : Addr) (h h' : Heap) : Prop := ∀ c o, c ≠ z → c ≠ TO → c ≠ i → c ≠ j → h.get? c = some o → h'.get? c = some o
theorem zx_next {t u : Bool} {z TI TO i j l m : Addr} {k : Nat} {xs ys : Array Value} {x y : Value} {Q : Value → Shared → Prop} (Z : Zx t u s.heap z TI TO i j l m k xs ys) (hx : xs[k]? = some x) (hy : ys[k]? = some y)
    (q : ∀ h', IsZip h' z TI TO (rawInt s.heap.objs.size) → IsPair h' TO x y → IsSqI t h' i l (k + 1) → IsSqI u h' j m (k + 1) → IsPair h' s.heap.objs.size x y → h'.objs.size = s.heap.objs.size + 1 → Keeps z TO i j s.heap h' → Q (.ref s.heap.objs.size) { s with heap := h' }) :
    wpAny (model P w) A (Builtin.«zip.__next__» ⟨[.ref z], []⟩) (fun fin s' => ∃ v, fin = .done (.ret v) ∧ Q v s') E s := by
  obtain ⟨D, hz, hTI, ⟨a, b, hTO⟩, h1, h2, hl, hm⟩ := Z
  refine show wpAny _ _ (field (.ref z) 2 >>= _) _ _ _ from wpAny_bind (wpAny_field hz rfl (x := .bool false) rfl ?_)
  refine show wpAny _ _ (field (.ref z) 3 >>= _) _ _ _ from wpAny_bind (wpAny_field hz rfl (x := .ref TI) rfl (wpAny_bind (wpAny_seqItems hTI rfl ?_)))
  refine show wpAny _ _ (Builtin.SmallTypes.ownedTupleIsFree (.ref z) >>= _) _ _ _ from wpAny_bind ?_
  unfold Builtin.SmallTypes.ownedTupleIsFree
  refine wpAny_bind (wpAny_field hz rfl (x := .none) rfl (wpAny_pure ?_))
  simp only [if_true]
  refine wpAny_bind (wpAny_rule (wpAny_bind (wpAny_field hz rfl (x := .ref TO) rfl (wpAny_bind (wpAny_setField_rec hz (by simp) fun ha za sa => ?_)))))
  replace za : IsZip ha z TI TO .ellipsis := za
  refine wpAny_bind ?_
  simp only [List.zipIdx_cons, List.zipIdx_nil, List.forIn_cons, List.forIn_nil]
  refine wpAny_bind (wpAny_bind (wpAny_onRaise (show wpAny _ _ (Builtin.SmallTypes.nextOf (.ref i) >>= _) _ _ _ from wpAny_bind ?_)))
  refine sq_next (h1.keep fun o => sa.extBut _ o D.i1z) (hl.keep fun o => sa.extBut _ o D.l1z) hx fun hb ib sb => wpAny_pure ?_
  have pb : IsPair hb TO a b := sb.extBut _ _ D.TOi1 (sa.extBut _ _ D.TOz hTO)
  refine wpAny_bind (wpAny_seqItems pb rfl (wpAny_bind (wpAny_updateSeq_pair pb fun hc pc sc => ?_)))
  replace pc : IsPair hc TO x b := pc
  have k3 : ∀ c o, c ≠ z → c ≠ TO → c ≠ i → s.heap.get? c = some o → hc.get? c = some o := fun c o c1 c2 c3 e => sc.extBut _ _ c2 (sb.extBut _ _ c3 (sa.extBut _ _ c1 e))
  refine wpAny_bind (wpAny_letGo (wpAny_pure (wpAny_bind (wpAny_bind (wpAny_onRaise (show wpAny _ _ (Builtin.SmallTypes.nextOf (.ref j) >>= _) _ _ _ from wpAny_bind ?_))))))
  refine sq_next (h2.keep fun o => k3 _ o D.i2z D.TOi2.symm D.i12.symm) (hm.keep fun o => k3 _ o D.l2z D.l2TO D.l2i1) hy fun hd jd sd => wpAny_pure ?_
  have pd : IsPair hd TO x b := sd.extBut _ _ D.TOi2 pc
  refine wpAny_bind (wpAny_seqItems pd rfl (wpAny_bind (wpAny_updateSeq_pair pd fun he pe se => ?_)))
  replace pe : IsPair he TO x y := pe
  refine wpAny_bind (wpAny_letGo (wpAny_pure (wpAny_pure (wpAny_bind (wpAny_seqItems pe rfl (wpAny_bind (wpAny_newTuple ?_)))))))
  have sz : he.objs.size = s.heap.objs.size := by rw [se.1, sd.1, sc.1, sb.1, sa.1]
  have up : ∀ c o, c ≠ TO → c ≠ j → hc.get? c = some o → he.get? c = some o := fun c o c1 c2 e => se.extBut _ _ c1 (sd.extBut _ _ c2 e)
  have zc : IsZip hc z TI TO .ellipsis := sc.extBut _ _ D.TOz.symm (sb.extBut _ _ D.i1z.symm za)
  have ze : IsZip he z TI TO .ellipsis := up _ _ D.TOz.symm D.i2z.symm zc
  have ie : IsSqI t he i l (k + 1) := (ib.keep fun o => sc.extBut _ o D.TOi1.symm).keep fun o => up _ o D.TOi1.symm D.i12
  have je : IsSqI u he j m (k + 1) := jd.keep fun o => se.extBut _ o D.TOi2.symm
  have lz : z < he.objs.size := Heap.lt_size ze
  refine show wpAny _ _ (Builtin.SmallTypes.ownedTupleHandOut (.ref z) (.ref he.objs.size) >>= _) _ _ _ from wpAny_bind ?_
  unfold Builtin.SmallTypes.ownedTupleHandOut
  have zf : IsZip (he.push { cls := .type "tuple", data := .seq #[x, y] }) z TI TO .ellipsis := Heap.get?_push_of_some _ ze
  refine wpAny_bind (wpAny_setField_rec zf (by simp) fun hg zg sg => ?_)
  replace zg : IsZip hg z TI TO (rawInt he.objs.size) := zg
  refine wpAny_setField_rec zg (by simp) fun hk zk sk => wpAny_pure ⟨_, rfl, ?_⟩
  replace zk : IsZip hk z TI TO (rawInt he.objs.size) := zk
  have last : ∀ c o, c ≠ z → (he.push { cls := .type "tuple", data := .seq #[x, y] }).get? c = some o → hk.get? c = some o := fun c o c1 e => sk.extBut _ _ c1 (sg.extBut _ _ c1 e)
  have old : ∀ c o, c ≠ z → he.get? c = some o → hk.get? c = some o := fun c o c1 e => last c o c1 (Heap.get?_push_of_some _ e)
  have pn : IsPair hk he.objs.size x y := last _ _ (Nat.ne_of_gt lz) (Heap.get?_push_size _ rfl)
  have size : hk.objs.size = he.objs.size + 1 := by rw [sk.1, sg.1, Heap.size_push]
  rw [sz] at zk pn size
  refine show Q (.ref he.objs.size) _ from ?_
  rw [sz]
  exact q hk zk (old _ _ D.TOz pe) (ie.keep fun o => old _ o D.i1z) (je.keep fun o => old _ o D.i2z) pn size fun c o c1 c2 c3 c4 e => old c o c1 (up c o c2 c4 (k3 c o c1 c2 c3 e))
theorem zx_stop {t u : Bool} {z TI TO i j l m : Addr} {k : Nat} {xs ys : Array Value} {Q : Fin → Shared → Prop} (hh : A.handled = none) (Z : Zx t u s.heap z TI TO i j l m k xs ys) (hend : xs[k]? = none ∨ ys[k]? = none)
    (q : ∀ h' e, Keeps z TO i j s.heap h' → (∃ o, h'.get? e = some o ∧ o.cls = .type "StopIteration") → E (.ref e) { s with heap := h' }) : wpAny (model P w) A (Builtin.«zip.__next__» ⟨[.ref z], []⟩) Q E s := by
  obtain ⟨D, hz, hTI, ⟨a, b, hTO⟩, h1, h2, hl, hm⟩ := Z
  refine show wpAny _ _ (field (.ref z) 2 >>= _) _ _ _ from wpAny_bind (wpAny_field hz rfl (x := .bool false) rfl ?_)
  refine show wpAny _ _ (field (.ref z) 3 >>= _) _ _ _ from wpAny_bind (wpAny_field hz rfl (x := .ref TI) rfl (wpAny_bind (wpAny_seqItems hTI rfl ?_)))
  refine show wpAny _ _ (Builtin.SmallTypes.ownedTupleIsFree (.ref z) >>= _) _ _ _ from wpAny_bind ?_
  unfold Builtin.SmallTypes.ownedTupleIsFree
  refine wpAny_bind (wpAny_field hz rfl (x := .none) rfl (wpAny_pure ?_))
  simp only [if_true]
  refine wpAny_bind (wpAny_rule (wpAny_bind (wpAny_field hz rfl (x := .ref TO) rfl (wpAny_bind (wpAny_setField_rec hz (by simp) fun ha za sa => ?_)))))
  replace za : IsZip ha z TI TO .ellipsis := za
  refine wpAny_bind ?_
  simp only [List.zipIdx_cons, List.zipIdx_nil, List.forIn_cons, List.forIn_nil]
  refine wpAny_bind (wpAny_bind (wpAny_onRaise (show wpAny _ _ (Builtin.SmallTypes.nextOf (.ref i) >>= _) _ _ _ from wpAny_bind ?_)))
  have fin : ∀ {h0 : Heap} {e : Addr}, IsZip h0 z TI TO .ellipsis → (∃ o, h0.get? e = some o ∧ o.cls = .type "StopIteration") → e ≠ z := fun hz0 ⟨oe, e1, e2⟩ e3 => by
    subst e3
    rw [hz0] at e1
    cases e1
    simp at e2
  cases hx : xs[k]? with
  | none =>
    refine sq_stop hh (h1.keep fun o => sa.extBut _ o D.i1z) (hl.keep fun o => sa.extBut _ o D.l1z) hx fun hb e sb he => ?_
    have zb : IsZip hb z TI TO .ellipsis := sb _ _ D.i1z.symm za
    have ez := fin zb he
    obtain ⟨oe, e1, e2⟩ := he
    exact wpAny_setField_rec zb (by simp) fun hc _ sc => q hc e (fun c o c1 _ c3 _ x => sc.extBut _ _ c1 (sb _ _ c3 (sa.extBut _ _ c1 x))) ⟨oe, sc.extBut _ _ ez e1, e2⟩
  | some x =>
    have hy : ys[k]? = none := hend.resolve_left (by rw [hx]; exact nofun)
    refine sq_next (h1.keep fun o => sa.extBut _ o D.i1z) (hl.keep fun o => sa.extBut _ o D.l1z) hx fun hb ib sb => wpAny_pure ?_
    have pb : IsPair hb TO a b := sb.extBut _ _ D.TOi1 (sa.extBut _ _ D.TOz hTO)
    refine wpAny_bind (wpAny_seqItems pb rfl (wpAny_bind (wpAny_updateSeq_pair pb fun hc pc sc => ?_)))
    have k3 : ∀ c o, c ≠ z → c ≠ TO → c ≠ i → s.heap.get? c = some o → hc.get? c = some o := fun c o c1 c2 c3 e => sc.extBut _ _ c2 (sb.extBut _ _ c3 (sa.extBut _ _ c1 e))
    refine wpAny_bind (wpAny_letGo (wpAny_pure (wpAny_bind (wpAny_bind (wpAny_onRaise (show wpAny _ _ (Builtin.SmallTypes.nextOf (.ref j) >>= _) _ _ _ from wpAny_bind ?_))))))
    refine sq_stop hh (h2.keep fun o => k3 _ o D.i2z D.TOi2.symm D.i12.symm) (hm.keep fun o => k3 _ o D.l2z D.l2TO D.l2i1) hy fun hd e sd he => ?_
    have zd : IsZip hd z TI TO .ellipsis := sd _ _ D.i2z.symm (sc.extBut _ _ D.TOz.symm (sb.extBut _ _ D.i1z.symm za))
    have ez := fin zd he
    obtain ⟨oe, e1, e2⟩ := he
    exact wpAny_setField_rec zd (by simp) fun hf _ sf => q hf e (fun c o c1 c2 c3 c4 x => sf.extBut _ _ c1 (sd _ _ c4 (k3 c o c1 c2 c3 x))) ⟨oe, sf.extBut _ _ ez e1, e2⟩
theorem zx_pyNext {t u : Bool} {z TI TO i j l m : Addr} {k : Nat} {xs ys : Array Value} {x y : Value} {Q : Option Value → Shared → Prop} (Z : Zx t u s.heap z TI TO i j l m k xs ys) (hx : xs[k]? = some x) (hy : ys[k]? = some y)
    (q : ∀ h', IsZip h' z TI TO (rawInt s.heap.objs.size) → IsPair h' TO x y → IsSqI t h' i l (k + 1) → IsSqI u h' j m (k + 1) → IsPair h' s.heap.objs.size x y → h'.objs.size = s.heap.objs.size + 1 → Keeps z TO i j s.heap h' → Q (some (.ref s.heap.objs.size)) { s with heap := h' }) :
    wpAny (model P w) A (pyNext (.ref z)) Q E s := by
  have ty : s.TypeIs (.ref z) "zip" := ⟨_, Z.z, rfl⟩
  unfold pyNext
  exact wpAny_bind (wpAny_attempt (wpAny_callSpecial?_slot (name := Str.ofString "__next__") ty F.slot_zip_next (wpAny_call_entry F.slot_zip_next ty F.entry_zip_next (zx_next Z hx hy fun h' a1 a2 a3 a4 a5 a6 a7 => wpAny_pure (q h' a1 a2 a3 a4 a5 a6 a7)) (F.args_zip_next_1 _))))
theorem zx_pyStop {t u : Bool} {z TI TO i j l m : Addr} {k : Nat} {xs ys : Array Value} {Q : Option Value → Shared → Prop} (hh : A.handled = none) (Z : Zx t u s.heap z TI TO i j l m k xs ys) (hend : xs[k]? = none ∨ ys[k]? = none)
    (q : ∀ h', Keeps z TO i j s.heap h' → Q none { s with heap := h' }) : wpAny (model P w) A (pyNext (.ref z)) Q E s := by
  have ty : s.TypeIs (.ref z) "zip" := ⟨_, Z.z, rfl⟩
  unfold pyNext
  refine wpAny_bind (wpAny_attempt (wpAny_callSpecial?_slot (name := Str.ofString "__next__") ty F.slot_zip_next (wpAny_call_entry F.slot_zip_next ty F.entry_zip_next (zx_stop hh Z hend fun h' e hk ⟨o, ho, hc⟩ => ?_) (F.args_zip_next_1 _))))
  exact wpAny_bind (wpAny_isInstance (T := "StopIteration") (b := true) ⟨o, ho, hc⟩ isSubtype_stop (wpAny_pure (q _ hk)))
end
/-! the zip, made -/
abbrev zm1 (t : Bool) (h : Heap) (l : Addr) : Heap := h.push (itObj t l)
abbrev zm2 (t u : Bool) (h : Heap) (l m : Addr) : Heap := (zm1 t h l).push (itObj u m)
abbrev zm3 (t u : Bool) (h : Heap) (l m : Addr) : Heap := (zm2 t u h l m).push { cls := .type "tuple", data := .seq #[.ref h.objs.size, .ref (zm1 t h l).objs.size] }
abbrev zm4 (t u : Bool) (h : Heap) (l m : Addr) : Heap := (zm3 t u h l m).push { cls := .type "tuple", data := .seq #[.none, .none] }
abbrev zm5 (t u : Bool) (h : Heap) (l m : Addr) : Heap := (zm4 t u h l m).push { cls := .type "zip", data := .fields #[.none, .bool false, .bool false, .ref (zm2 t u h l m).objs.size, .ref (zm3 t u h l m).objs.size] }
theorem zx_meets (t u : Bool) (l m : Addr) (xs ys : Array Value) : Meets (Builtin.«zip.__new__» ⟨[.type "zip", .ref l, .ref m], []⟩) (fun _ R s => IsSq t s.heap l xs ∧ IsSq u s.heap m ys ∧ R (.ok (.ret (.ref (zm4 t u s.heap l m).objs.size))) { s with heap := zm5 t u s.heap l m }) :=
  .of_wp fun prog w A R s h => by
    obtain ⟨hp, g, d, tk, os⟩ := s
    obtain ⟨ha, hb, q⟩ := h
    have sz := sub_zip
    cases t <;> cases u
    · have ia : Heap.IsList (Shared.heap ⟨hp, g, d, tk, os⟩) l xs := ha
      have ib : Heap.IsList (Shared.heap ⟨hp.push { cls := .type "list_iterator", data := .fields #[.ref l, .int 0 0] }, g, d, tk, os⟩) m ys := Heap.IsList.push hb _
      wp_walk using wpAny_pyIter_list ia, wpAny_pyIter_list ib
      exact ⟨_, rfl, q⟩
    · have ia : Heap.IsList (Shared.heap ⟨hp, g, d, tk, os⟩) l xs := ha
      have ib : Heap.IsTuple (Shared.heap ⟨hp.push { cls := .type "list_iterator", data := .fields #[.ref l, .int 0 0] }, g, d, tk, os⟩) m ys := Heap.IsTuple.push hb _
      wp_walk using wpAny_pyIter_list ia, wpAny_pyIter_tuple ib
      exact ⟨_, rfl, q⟩
    · have ia : Heap.IsTuple (Shared.heap ⟨hp, g, d, tk, os⟩) l xs := ha
      have ib : Heap.IsList (Shared.heap ⟨hp.push { cls := .type "tuple_iterator", data := .fields #[.ref l, .int 0 0] }, g, d, tk, os⟩) m ys := Heap.IsList.push hb _
      wp_walk using wpAny_pyIter_tuple ia, wpAny_pyIter_list ib
      exact ⟨_, rfl, q⟩
    · have ia : Heap.IsTuple (Shared.heap ⟨hp, g, d, tk, os⟩) l xs := ha
      have ib : Heap.IsTuple (Shared.heap ⟨hp.push { cls := .type "tuple_iterator", data := .fields #[.ref l, .int 0 0] }, g, d, tk, os⟩) m ys := Heap.IsTuple.push hb _
      wp_walk using wpAny_pyIter_tuple ia, wpAny_pyIter_tuple ib
      exact ⟨_, rfl, q⟩
theorem zx_made {P : Program} {w : World} {A : Around} {E : Value → Shared → Prop} {s : Shared} {t u : Bool} {l m : Addr} {xs ys : Array Value} {Q : Value → Shared → Prop} (ha : IsSq t s.heap l xs) (hb : IsSq u s.heap m ys) (la : l < s.heap.objs.size) (lb : m < s.heap.objs.size)
    (q : ∀ h' z TI TO i j, (∀ c ∈ [z, TI, TO, i, j], s.heap.objs.size ≤ c) → Zx t u h' z TI TO i j l m 0 xs ys → (∀ c o, s.heap.get? c = some o → h'.get? c = some o) → Q (.ref z) { s with heap := h' }) :
    wpAny (model P w) A (call (.type "zip") [.ref l, .ref m]) Q E s := by
  refine callType_new F.called_zip (by decide) (F.typeCall_zip_2 _ _) (F.newCall_zip_2 _ _) (fun obj => F.args_object_init_3 obj _ _) F.entry_zip_new (zx_meets t u l m xs ys) ⟨ha, hb, ?_⟩
  generalize hn : s.heap.objs.size = n at la lb q
  have n1 : (zm1 t s.heap l).objs.size = n + 1 := by rw [← hn]; exact Heap.size_push ..
  have n2 : (zm2 t u s.heap l m).objs.size = n + 2 := by rw [Heap.size_push, n1]
  have n3 : (zm3 t u s.heap l m).objs.size = n + 3 := by rw [Heap.size_push, n2]
  have n4 : (zm4 t u s.heap l m).objs.size = n + 4 := by rw [Heap.size_push, n3]
  have up : ∀ c o, s.heap.get? c = some o → (zm5 t u s.heap l m).get? c = some o := fun c o x => Heap.get?_push_of_some _ (Heap.get?_push_of_some _ (Heap.get?_push_of_some _ (Heap.get?_push_of_some _ (Heap.get?_push_of_some _ x))))
  have e5 : (zm5 t u s.heap l m).get? (zm4 t u s.heap l m).objs.size = some _ := Heap.get?_push_size _ rfl
  have e4 : (zm5 t u s.heap l m).get? (zm3 t u s.heap l m).objs.size = some _ := Heap.get?_push_of_some _ (Heap.get?_push_size _ rfl)
  have e3 : (zm5 t u s.heap l m).get? (zm2 t u s.heap l m).objs.size = some _ := Heap.get?_push_of_some _ (Heap.get?_push_of_some _ (Heap.get?_push_size _ rfl))
  have e2 : (zm5 t u s.heap l m).get? (zm1 t s.heap l).objs.size = some (itObj u m) := Heap.get?_push_of_some _ (Heap.get?_push_of_some _ (Heap.get?_push_of_some _ (Heap.get?_push_size _ (by cases u <;> rfl))))
  have e1 : (zm5 t u s.heap l m).get? s.heap.objs.size = some (itObj t l) := Heap.get?_push_of_some _ (Heap.get?_push_of_some _ (Heap.get?_push_of_some _ (Heap.get?_push_of_some _ (Heap.get?_push_size _ (by cases t <;> rfl)))))
  rw [hn] at e1
  rw [n1] at e2 e3
  rw [n2] at e3 e5
  rw [n3] at e4 e5
  rw [n4] at e5 ⊢
  have D : ZipApart (n + 4) (n + 2) (n + 3) n (n + 1) l m := PySem.W.ktu_apart n l m la lb
  refine ⟨⟨_, e5, rfl⟩, q _ (n + 4) (n + 2) (n + 3) n (n + 1) (fun c hc => ?_) ⟨D, e5, by rw [hn] at e3; exact e3, ⟨_, _, e4⟩, isSqI_new e1, isSqI_new e2, ha.keep fun o => up _ o, hb.keep fun o => up _ o⟩ up⟩
  have hc2 : c = n + 4 ∨ c = n + 2 ∨ c = n + 3 ∨ c = n ∨ c = n + 1 := by simpa using hc
  rcases hc2 with rfl | rfl | rfl | rfl | rfl
  · exact Nat.le_add_right _ _
  · exact Nat.le_add_right _ _
  · exact Nat.le_add_right _ _
  · exact Nat.le_refl _
  · exact Nat.le_add_right _ _
end DL

set_option Elab.async false
set_option linter.all false
set_option maxRecDepth 100000
set_option maxHeartbeats 4000000
/-! rows: lists or tuples -/
namespace DL
open PySem PySem.Spec PyProof.Rows L2
def SqA (K : PySem.W.Frag) (H : Hp) (a : Addr) (xs : List V) : Prop := SqL K H a xs ∨ SqT K H a xs
theorem SqA.mono {K : PySem.W.Frag} {H H' : Hp} {a : Addr} {xs : List V} (s : Same H H') (h : SqA K H a xs) : SqA K H' a xs := h.elim (fun z => .inl (s.seq z)) fun z => .inr (sqt_mono s z)
def rSeq (K : PySem.W.Frag) (l : List Rep) : Rep := ⟨fun F x => ∃ a vs, x = .ref a ∧ SqA K F a vs ∧ RL F l vs, fun s ⟨a, vs, e, h, q⟩ => ⟨a, vs, e, h.mono s, q.mono s⟩⟩
theorem sub_lseq {K : PySem.W.Frag} {l : List Rep} : Sub (rLst K l) (rSeq K l) := fun F v ⟨a, vs, e, h, q⟩ => ⟨a, vs, e, .inl h, q⟩
theorem sub_tseq {K : PySem.W.Frag} {l : List Rep} : Sub (rTup K l) (rSeq K l) := fun F v ⟨a, vs, e, h, q⟩ => ⟨a, vs, e, .inr h, q⟩
def SqB (t : Bool) (K : PySem.W.Frag) (H : Hp) (a : Addr) (xs : List V) : Prop := if t = true then SqT K H a xs else SqL K H a xs
theorem SqB.mono {t : Bool} {K : PySem.W.Frag} {H H' : Hp} {a : Addr} {xs : List V} (s : Same H H') (h : SqB t K H a xs) : SqB t K H' a xs := by
  cases t with
  | true => exact sqt_mono s h
  | false => exact s.seq (show SqL K H a xs from h)
theorem SqA.b {K : PySem.W.Frag} {H : Hp} {a : Addr} {xs : List V} (h : SqA K H a xs) : ∃ t, SqB t K H a xs := h.elim (fun z => ⟨false, z⟩) fun z => ⟨true, z⟩
section
variable {X : Cx} {pins : List (Addr × Obj)} {σ : L2.St} {H : Hp} {s : Shared} {a : Addr} {xs ys : List V} {t : Bool}
theorem inv_sq (I : Inv X pins σ H s) (h : SqB t X.K H a xs) : ∃ its : List Value, Vals xs its ∧ IsSq t s.heap a its.toArray ∧ a < s.heap.objs.size := by
  cases t with
  | false =>
    obtain ⟨its, r, p, _⟩ := I.list (show SqL X.K H a xs from h)
    exact ⟨its, r, p.isList, p.lt⟩
  | true =>
    obtain ⟨its, r, p, _⟩ := I.tuple (show SqT X.K H a xs from h)
    obtain ⟨o, e, _⟩ := id p
    exact ⟨its, r, p, Heap.lt_size e⟩
theorem sq_inj (I : Inv X pins σ H s) (h : SqB t X.K H a xs) (h2 : SqB t X.K H a ys) : xs = ys := by
  cases t with
  | false => exact I.list_inj h h2
  | true => exact I.tuple_inj h h2
end
/-! walked -/
def ItB (t : Bool) (K : PySem.W.Frag) (a : Addr) : It := if t = true then Itt K a else Itl K a
section
variable {X : Cx} {tg it : Expr}
theorem pi_seq {te : TE} (he : PE X it te) : PI X tg it (fun σ H R => te σ H fun v H1 => ∃ p vs t, v = .ref p ∧ SqB t X.K H1 p vs ∧ R (ItB t X.K p) H1) := by
  refine ⟨fun pins s σ H R I h => thn (he.run pins s σ H _ I h) fun v s1 ⟨x, H1, I1, r1, p, vs, t, e, hq, q⟩ => ?_⟩
  subst e
  cases r1
  have fresh : ∀ b ∈ [s1.heap.objs.size], FpOk X pins H1 b := fun b hb => by
    rw [List.mem_singleton.mp hb]
    exact I1.fpOk (Nat.le_refl _) (I1.hok.fresh (Nat.le_refl _))
  cases t with
  | false =>
    obtain ⟨its, rv, pl, hz⟩ := I1.list (show SqL X.K H1 p vs from hq)
    exact wpAny_pyIter_list pl.isList ⟨s1.heap.objs.size, [s1.heap.objs.size], _, _, H1, rfl, I1.kept (t' := s1.toks) fun b o e => Heap.get?_push_of_some _ e, turn_list p _, ⟨_, Heap.get?_push_size _ rfl, rfl, rfl⟩, fresh, q⟩
  | true =>
    obtain ⟨its, rv, pl, hz⟩ := I1.tuple (show SqT X.K H1 p vs from hq)
    exact wpAny_pyIter_tuple (show s1.heap.IsTuple p its.toArray from pl) ⟨s1.heap.objs.size, [s1.heap.objs.size], _, _, H1, rfl, I1.kept (t' := s1.toks) fun b o e => Heap.get?_push_of_some _ e, turn_tuple p _, ⟨_, Heap.get?_push_size _ rfl, rfl, rfl⟩, fresh, q⟩
/-! zip -/
def ItZ (t u : Bool) (K : PySem.W.Frag) (a b : Addr) : It :=
  ⟨fun i H => ∃ (xs ys : List V) (x y : V), SqB t K H a xs ∧ SqB u K H b ys ∧ xs[i]? = some x ∧ ys[i]? = some y,
    fun i H v H' => ∃ T x y, v = .ref T ∧ H T = none ∧ H' = upd H T (.tup [x, y]) ∧ (∀ xs, SqB t K H a xs → xs[i]? = some x) ∧ ∀ ys, SqB u K H b ys → ys[i]? = some y,
    fun i H => ∃ xs ys : List V, SqB t K H a xs ∧ SqB u K H b ys ∧ (xs.length ≤ i ∨ ys.length ≤ i)⟩
theorem turn_zx {P : Program} {w : World} {K : PySem.W.Frag} {elts : List Expr} {kk : Nat} {tpos : Pos} {t u : Bool} {a b z TI TO i1 i2 : Addr} (D : ZipApart z TI TO i1 i2 a b) :
    Turn P w K (.Tuple elts kk tpos) (ItZ t u K a b) [z, TI, TO, i1, i2] z (fun i h => IsZip h z TI TO .none ∧ IsPair h TI (.ref i1) (.ref i2) ∧ (∃ x y, IsPair h TO x y) ∧ IsSqI t h i1 a i ∧ IsSqI u h i2 b i) where
  mem := by simp
  obj := fun i h ⟨hz, hTI, ⟨x, y, hTO⟩, h1, h2⟩ c hc => by
    have e' : c = z ∨ c = TI ∨ c = TO ∨ c = i1 ∨ c = i2 := by simpa using hc
    rcases e' with q | q | q | q | q <;> subst q
    · exact ⟨_, hz, fun v q => nomatch q⟩
    · exact ⟨_, hTI, fun v q => nomatch q⟩
    · exact ⟨_, hTO, fun v q => nomatch q⟩
    · exact h1.ob
    · exact h2.ob
  keep := fun i h h' ⟨hz, hTI, ⟨x, y, hTO⟩, h1, h2⟩ k => ⟨k z (by simp) _ hz, k TI (by simp) _ hTI, ⟨x, y, k TO (by simp) _ hTO⟩, h1.keep fun o q => k i1 (by simp) o q, h2.keep fun o q => k i2 (by simp) o q⟩
  item := by
    intro X hP hw hK hc i pins s σ H E I hf st hg
    subst hP hw hK
    obtain ⟨hz, hTI, hTO, h1, h2⟩ := st
    obtain ⟨xs, ys, x, y, qx, qy, hx, hy⟩ := hg
    obtain ⟨its, rv, p, _⟩ := inv_sq I qx
    obtain ⟨its2, rv2, p2, _⟩ := inv_sq I qy
    obtain ⟨a1, hu, ra⟩ := rv.get hx
    obtain ⟨a2, hu2, rb⟩ := rv2.get hy
    have lz : z < s.heap.objs.size := Heap.lt_size hz
    refine zx_pyNext ⟨D, hz, hTI, hTO, h1, h2, p, p2⟩ (x := a1) (y := a2) (by simpa using hu) (by simpa using hu2) fun h' z' to' i' j' pn sz kp => ⟨_, rfl, wpAny_letOwnedTupleGo_zip (s := { s with heap := h' }) z' fun h2' z2' sb => ?_⟩
    have pn2 : IsPair h2' s.heap.objs.size a1 a2 := (sb.2 _ (Nat.ne_of_gt lz)).trans pn
    have new : ObjOk X.prog X.w (upd H s.heap.objs.size (.tup [x, y])) h2' s.heap.objs.size (.tup [x, y]) := ⟨by show 2 ≤ sizeLine; decide, [a1, a2], .cons ra (.cons rb .nil), ⟨_, pn2, rfl, _, rfl⟩⟩
    have no : ∀ {c : Addr}, c ∉ [z, TI, TO, i1, i2] → c ≠ z ∧ c ≠ TO ∧ c ≠ i1 ∧ c ≠ i2 := fun hc => by simp at hc; exact ⟨hc.1, hc.2.2.1, hc.2.2.2.1, hc.2.2.2.2⟩
    have I1 : Inv X pins σ (upd H s.heap.objs.size (.tup [x, y])) { s with heap := h2' } :=
      I.turnedNew (t' := s.toks) (ch := [z, TI, TO, i1, i2]) (fun c o hb q => by
        obtain ⟨c1, c2, c3, c4⟩ := no hb
        exact (sb.2 c c1).trans (kp c o c1 c2 c3 c4 q)) hf (Nat.le_refl _) new
    refine ⟨.ref s.heap.objs.size, _, I1, rfl, ⟨_, x, y, rfl, I.hok.fresh (Nat.le_refl _), rfl, fun l hl => by rw [sq_inj I hl qx]; exact hx, fun l hl => by rw [sq_inj I hl qy]; exact hy⟩, ⟨z2', ?_, ⟨a1, a2, ?_⟩, ?_, ?_⟩, fun c hc => ?_⟩
    · exact (sb.2 _ D.TIz).trans (kp _ _ D.TIz D.TITO D.TIi1 D.TIi2 hTI)
    · exact (sb.2 _ D.TOz).trans to'
    · exact i'.keep fun o q => (sb.2 _ D.i1z).trans q
    · exact j'.keep fun o q => (sb.2 _ D.i2z).trans q
    · have lc : c < s.heap.objs.size := by
        have e' : c = z ∨ c = TI ∨ c = TO ∨ c = i1 ∨ c = i2 := by simpa using hc
        obtain ⟨x0, y0, hTO⟩ := hTO
        rcases e' with q | q | q | q | q <;> subst q
        · exact lz
        · exact Heap.lt_size hTI
        · exact Heap.lt_size hTO
        · obtain ⟨_, e1, _⟩ := h1.ob; exact Heap.lt_size e1
        · obtain ⟨_, e2, _⟩ := h2.ob; exact Heap.lt_size e2
      rw [upd_ne (Nat.ne_of_lt lc)]
      exact (hf c hc).1
  done := by
    intro X hP hw hK hc i pins s σ H E I hf st hg
    subst hP hw hK
    obtain ⟨hz, hTI, hTO, h1, h2⟩ := st
    obtain ⟨xs, ys, qx, qy, hend⟩ := hg
    obtain ⟨its, rv, p, _⟩ := inv_sq I qx
    obtain ⟨its2, rv2, p2, _⟩ := inv_sq I qy
    have l1 := rv.length
    have l2 := rv2.length
    have he : its.toArray[i]? = none ∨ its2.toArray[i]? = none := hend.elim (fun q => .inl (by simp; omega)) fun q => .inr (by simp; omega)
    refine zx_pyStop (I.ok.hd hc) ⟨D, hz, hTI, hTO, h1, h2, p, p2⟩ he fun h' kp => ⟨rfl, I.turnedL (t' := s.toks) (ch := [z, TI, TO, i1, i2]) (fun c o hb q => ?_) hf⟩
    simp at hb
    exact kp c o hb.1 hb.2.2.1 hb.2.2.2.1 hb.2.2.2.2 q
  self := fun A i s Q E st h => wpAny_pyIter_zip st.1 h
theorem pi_zx {e e2 : Expr} {ta : TA} {p pos tpos : Pos} {elts : List Expr} {kk : Nat} (hg : Gl X "zip") (hm : X.mg "zip" = none) (ha : PA X [e, e2] ta)
    (hs : starEach [e, e2] X.env = (false, eval e X.env) :: starEach [e2] X.env := by rfl) (hpl : (backTo pos (starEach [e2] X.env)).any (·.1) = false := by rfl) :
    PI X (.Tuple elts kk tpos) (.Call (.Name "zip" p) [e, e2] [] pos) (fun σ H R => ta σ H fun vs H1 => ∃ a b xs ys t u, vs = [.ref a, .ref b] ∧ SqB t X.K H1 a xs ∧ SqB u X.K H1 b ys ∧ R (ItZ t u X.K a b) H1) := by
  refine ⟨fun pins s σ H R I h => Call_ (ld_blt I hg hm PyProof.Rows.boot_zip (PyProof.Rows.callWith_type1 (thn (ha.run pos pins s σ H _ I h) fun us s1 ⟨vs, H1, I1, r1, a, b, xs, ys, t, u, ex, qx, qy, q⟩ => ?_) hs hpl))⟩
  subst ex
  cases r1 with
  | cons ra rr =>
    cases rr with
    | cons rb rr =>
    cases rr
    cases ra
    cases rb
    obtain ⟨its, rv, p1, l1⟩ := inv_sq I1 qx
    obtain ⟨its2, rv2, p2, l2⟩ := inv_sq I1 qy
    refine zx_made p1 p2 l1 l2 fun h' z TI TO i j hi Z kp => wpAny_pyIter_zip Z.z ?_
    exact ⟨z, [z, TI, TO, i, j], _, _, H1, rfl, I1.kept (t' := s1.toks) kp, turn_zx Z.D, ⟨Z.z, Z.ti, Z.to, Z.i, Z.j⟩, fun c hc => I1.fpOk (hi c hc) (I1.hok.fresh (hi c hc)), q⟩
end
section
variable {X : Cx} {N : List Str} {sc : Scope} {k j : Nat} {Γ Γ' Γ1 : List Sl} {tg it it2 a b c e : Expr} {es rest : List Expr} {r ra rb rc r' : Rep} {rs l l2 : List Rep} {pos p : Pos} {x : Str} {i : Nat} {ws ws' : List Nat}
theorem sr_seq (h : DE X Γ it (rSeq X.K l)) : SR X Γ tg it l.length (fun i => l.getD i rNon) := fun F0 H0 F H σ en R q =>
  .of (pi_seq pe_ev) (h F0 H0 F H σ en _ fun v F1 H1 g hv => by
    obtain ⟨p, vs, rfl, hs, hl⟩ := hv
    obtain ⟨t, hs⟩ := hs.b
    refine ⟨p, vs, t, rfl, hs.mono g.s, q _ F1 H1 g ?_⟩
    have got : ∀ {i : Nat} {x : V} {F2 : Hp}, Same F1 F2 → vs[i]? = some x → (l.getD i rNon).P F2 x := fun {i x F2} s hx => by
      obtain ⟨r, e, hr⟩ := hl.got hx
      rw [List.getD_eq_getElem?_getD, e]
      exact r.mono s hr
    cases t with
    | false =>
      have hs : SqL X.K F1 p vs := hs
      exact ⟨fun i H2 s hi => ⟨vs, s.seq hs, by rw [← hl.len]; exact hi⟩, fun i H2 s hi => ⟨vs, vs[i]'(hl.len ▸ hi), s.seq hs, List.getElem?_eq_getElem _⟩, fun i F2 H2 x H' s s2 hi hy => by
        obtain ⟨rfl, hx⟩ := hy
        exact ⟨F2, .refl s2, got s (hx vs (s2.seq (s.seq hs)))⟩⟩
    | true =>
      have hs : SqT X.K F1 p vs := hs
      exact ⟨fun i H2 s hi => ⟨vs, sqt_mono s hs, by rw [← hl.len]; exact hi⟩, fun i H2 s hi => ⟨vs, vs[i]'(hl.len ▸ hi), sqt_mono s hs, List.getElem?_eq_getElem _⟩, fun i F2 H2 x H' s s2 hi hy => by
        obtain ⟨rfl, hx⟩ := hy
        exact ⟨F2, .refl s2, got s (hx vs (sqt_mono s2 (sqt_mono s hs)))⟩⟩)
theorem sr_zipS {jj : Nat} {tpos : Pos} (B : BX X N sc k) (hm : X.mg "zip" = none) (h : DE X Γ it (rSeq X.K l)) (h2 : DE X Γ it2 (rSeq X.K l2)) (hg : sc.names.lookup ("zip" : Str) = some NameKind.globalImplicit)
    (hs : starEach [it, it2] X.env = (false, eval it X.env) :: starEach [it2] X.env := by rfl) (hs2 : starEach [it2] X.env = (false, eval it2 X.env) :: starEach [] X.env := by rfl) (hpl : (backTo pos (starEach [it2] X.env)).any (·.1) = false := by rfl) :
    SR X Γ (.Tuple es jj tpos) (.Call (.Name "zip" p) [it, it2] [] pos) (min l.length l2.length) (fun i => rTup X.K [l.getD i rNon, l2.getD i rNon]) := fun F0 H0 F H σ en R q => by
  have hgl : Gl X "zip" := by
    show X.env.scope.names.lookup _ = _
    rw [B.hsc]
    exact hg
  refine .of (pi_zx hgl hm (pa_cons pe_ev (pa_cons pe_ev pa_nil hs2) hs) hs hpl) (h F0 H0 F H σ en _ fun v F1 H1 g hv => h2 F0 H0 F1 H1 σ (en.grow g) _ fun v2 F3 H3 g3 hv2 => ?_)
  obtain ⟨p, vs, rfl, hsq, hl⟩ := hv
  obtain ⟨p2, vs2, rfl, hsq2, hl2⟩ := hv2
  obtain ⟨t, hsq⟩ := (hsq.mono g3.f).b
  obtain ⟨u, hsq2⟩ := hsq2.b
  have hl := hl.mono g3.f
  refine ⟨p, p2, vs, vs2, t, u, rfl, hsq.mono g3.s, hsq2.mono g3.s, q _ F3 H3 (g.trans g3) ⟨fun i H2 s hi => ⟨vs, vs2, hsq.mono s, hsq2.mono s, ?_⟩, fun i H2 s hi => ?_, fun i F2 H2 x H' s s2 hi hy => ?_⟩⟩
  · rw [← hl.len, ← hl2.len]
    omega
  · have h3 := hl.len
    have h4 := hl2.len
    exact ⟨vs, vs2, vs[i]'(by omega), vs2[i]'(by omega), hsq.mono s, hsq2.mono s, List.getElem?_eq_getElem _, List.getElem?_eq_getElem _⟩
  · obtain ⟨T, y, z, rfl, nT, rfl, f1, f2⟩ := hy
    obtain ⟨r1, e1, k1⟩ := hl.got (f1 vs ((hsq.mono s).mono s2))
    obtain ⟨r2, e2, k2⟩ := hl2.got (f2 vs2 ((hsq2.mono s).mono s2))
    refine ⟨_, .new s2 nT, T, [y, z], rfl, SqT.of upd_same, ?_⟩
    have sn : Same F2 (upd F2 T (.tup [y, z])) := same_new (s2.free nT)
    rw [List.getD_eq_getElem?_getD, List.getD_eq_getElem?_getD, e1, e2]
    exact .cons (r1.mono (s.trans sn) k1) (.cons (r2.mono (s.trans sn) k2) .nil)
theorem de_ixA {n : Int} (h : atI l n = some r) (ha : DE X Γ a (rSeq X.K l)) (hb : DE X Γ b (rInt n)) (hs : PlainIx b := by exact fun _ _ => rfl) : DE X Γ (.Subscript a b pos) r :=
  de_ixr ix_seq (fun F H x y s h1 h2 Q q => by
    obtain ⟨p, vs, rfl, k1, k2⟩ := h1
    cases h2
    obtain ⟨v, k3, k4⟩ := k2.atI h
    rcases k1 with k1 | k1
    · exact .inl ⟨p, vs, n, v, rfl, rfl, s.seq k1, k3, q v F H (.refl s) k4⟩
    · exact .inr (.inl ⟨p, vs, n, v, rfl, rfl, sqt_mono s k1, k3, q v F H (.refl s) k4⟩)) ha hb hs
theorem dl_listA (B : BX X N sc k) (hm : X.mg "list" = none) (h : DE X Γ e (rSeq X.K l)) (hg : sc.names.lookup ("list" : Str) = some NameKind.globalImplicit) (he : starEach (e :: []) X.env = (false, eval e X.env) :: starEach [] X.env := by rfl) : DL X Γ (.Call (.Name "list" p) [e] [] pos) l := fun F0 H0 F H σ en Q q => by
  have hgl : Gl X "list" := by
    show X.env.scope.names.lookup _ = _
    rw [B.hsc]
    exact hg
  refine .of (pe_callTy call_list_of hgl hm (by decide +kernel) (pa_cons pe_ev pa_nil he) (he := he)) (h F0 H0 F H σ en _ fun v F1 H1 g hv => ?_)
  obtain ⟨p, vs, rfl, k1, k2⟩ := hv
  exact ⟨p, vs, rfl, SqA.mono g.s k1, fun q' hq => q q' vs F1 _ (g.trans (.newOwn g.s hq)) (g.h.free hq) (g.s.free hq) upd_same k2⟩
end
end DL

set_option Elab.async false
set_option linter.all false
set_option maxRecDepth 100000
set_option maxHeartbeats 4000000
/-! objects of the program's own classes: read, made -/
namespace DL
open PySem PySem.Spec PyProof.Rows L2
/-- an object that stands still: its class, its fields -/
def rIns (K : PySem.W.Frag) (C : Addr) (fs : List (Str × Rep)) : Rep := ⟨fun F x => ∃ a dx vs, x = .ref a ∧ F a = some (.ins C dx ((fs.map Prod.fst).zip vs)) ∧ RL F (fs.map Prod.snd) vs, fun s ⟨a, dx, vs, e, h, q⟩ => ⟨a, dx, vs, e, s _ _ h, q.mono s⟩⟩
/-- what is known of such a class -/
structure OCls (K : PySem.W.Frag) (C : Addr) (fs : List Str) : Prop where
  cl : Cls K C
  na : ∀ f ∈ fs, NoAttr K C f
theorem rl_lookup {F : Hp} : ∀ {fs : List (Str × Rep)} {vs : List V} {f : Str} {r : Rep}, RL F (fs.map Prod.snd) vs → fs.lookup f = some r → ∃ v, ((fs.map Prod.fst).zip vs).lookup f = some v ∧ r.P F v
  | [], _, _, _, _, h => by cases h
  | (g, r0) :: fs, v :: vs, f, r, .cons h t, e => by
    rw [List.lookup_cons] at e
    show ∃ w, List.lookup f ((g, v) :: (fs.map Prod.fst).zip vs) = some w ∧ _
    rw [List.lookup_cons]
    cases hb : f == g with
    | true => rw [hb] at e; cases e; exact ⟨v, rfl, h⟩
    | false => rw [hb] at e; exact rl_lookup t e
section
variable {X : Cx} {N : List Str} {sc : Scope} {k j : Nat} {Γ : List Sl} {a b c e : Expr} {es rest : List Expr} {r ra rb rc r' : Rep} {rs l : List Rep} {pos p pos' : Pos} {x : Str} {i : Nat} {C : Addr} {f : Str} {fs : List (Str × Rep)} {fn : List Str}
theorem de_fld (O : OCls X.K C fn) (h : DE X Γ e (rIns X.K C fs)) (hf : fs.lookup f = some r) (hn : f ∈ fn := by decide) (hb : attributeBase e f X.env (eval e X.env) = eval e X.env := by rfl) : DE X Γ (.Attribute e f pos) r := fun F0 H0 F H σ en Q q =>
  .of (pe_fld pe_ev hb) (h F0 H0 F H σ en _ fun v F1 H1 g hv => by
    obtain ⟨a, dx, vs, rfl, h1, h2⟩ := hv
    obtain ⟨w, e1, e2⟩ := rl_lookup h2 hf
    exact ⟨a, C, dx, _, w, rfl, g.s _ _ h1, O.cl, O.na f hn, e1, q w F1 H1 g e2⟩)
end
/-! ### making one -/
/-- what an __init__ promises: its fields in their order, or an error -/
inductive OutI where
  | ok (rs : List Rep)
  | err (C : Addr)
  | errF (C : Addr) (fs : List (Str × V))
def PrI (F H : Hp) (p C dx : Addr) (ns : List Str) : OutI → VK → XK → Prop
  | .ok rs, Q, _ => ∀ F' H' vs, Gr F H F' H' → F' p = none → H' p = some (.ins C dx (ns.zip vs)) → RL F' rs vs → Q .non H'
  | .err D, _, E => ∀ H', Same H H' → E (.ref D) none H'
  | .errF D fs, _, E => ∀ H' d, Same H H' → H d = none → H' d = some (.xd fs) → E (.ref D) (some d) H'
def PmI {ι : Type} (C : Addr) (pre : ι → Prop) (args : ι → List Rep) (ns : List Str) (out : ι → OutI) : Sp := fun vs H Q E => ∃ (x : ι) (F H0 : Hp) (p dx : Addr) (vs' : List V), vs = .ref p :: vs' ∧ pre x ∧ Same F H0 ∧ H0 p = none ∧ H0 dx = none ∧ dx ≠ p ∧ H = upd (upd H0 dx (.own p)) p (.ins C dx []) ∧ RL F (args x) vs' ∧ PrI F H0 p C dx ns (out x) Q E
/-- a class whose objects may be made by its name -/
structure CalI (P : Program) (w : World) (K : PySem.W.Frag) (mg : Str → Option Value) (base : Heap) (k : Nat) (x : Str) (C : Addr) (sp : Sp) : Prop where
  ex : ∃ (f : Addr) (fd : FuncData) (ps : List Str), FnOk P w K mg base (L2.CX P w) k f fd ps sp ∧ Mk K C f ∧ mg x = some (.ref C) ∧ Binds K fd ps []
section
variable {X : Cx} {N : List Str} {sc : Scope} {k j : Nat} {Γ : List Sl} {a b c e : Expr} {es rest : List Expr} {r ra rb rc r' : Rep} {rs l : List Rep} {pos p pos' : Pos} {x : Str} {i : Nat} {C D0 : Addr} {f : Str} {W : WX} {ns : List Str}
variable {ι : Type} {pre : ι → Prop} {args : ι → List Rep} {out : ι → OutI}
/-- an object just made stands still -/
theorem gr_made {F1 H1 F' H' : Hp} {p dx : Addr} {fs : List (Str × V)} (np : H1 p = none) (g : Gr F1 H1 F' H') (nf : F' p = none) (hp : H' p = some (.ins C dx fs)) : Gr F1 H1 (upd F' p (.ins C dx fs)) H' :=
  ⟨g.f.trans (same_new nf), g.h, fun b o z => by
    by_cases hb : b = p
    · subst hb
      rw [upd_same] at z
      rw [hp, ← z]
    · rw [upd_ne hb] at z
      exact g.s b o z, fun a ha z => by
    have : a ≠ p := fun y => ha (y ▸ np)
    rw [upd_ne this]
    exact g.n a ha z⟩
theorem de_make (okr : ι → List Rep) (B : BX X N sc k) (G : CalI X.prog X.w X.K X.mg X.base j x C (PmI C pre args ns out)) (hk : j + 1 ≤ k) (g : ι) (hp : pre g) (ho : out g = .ok (okr g)) (hl : ns.length = (okr g).length) (ha : DA X Γ (e :: es) (args g)) (hg : sc.names.lookup x = some .globalImplicit)
    (hdb : (x == ("__debug__" : Str)) = false := by decide) (he : starEach (e :: es) X.env = (false, eval e X.env) :: starEach es X.env := by rfl) (hpl : (backTo pos (starEach es X.env)).any (·.1) = false := by rfl) :
    DE X Γ (.Call (.Name x p) (e :: es) [] pos) (rIns X.K C (ns.zip (okr g))) := fun F0 H0 F H σ en Q q => by
  obtain ⟨f, fd, ps, G, M, hm, hb⟩ := G.ex
  have hgl : Gl X x := by
    show X.env.scope.names.lookup x = _
    rw [B.hsc]
    exact hg
  refine .of (pe_make (E := E0) M G (B.room.mono hk) hgl hm hb .nil passL pa_ev hdb he hpl) ?_
  refine ha F0 H0 F H σ en _ fun vs F1 H1 g1 h1 => fun p dx np ndx hne => ?_
  rw [List.append_nil]
  refine ⟨g, F1, H1, p, dx, vs, rfl, hp, g1.s, np, ndx, hne, rfl, h1, ?_⟩
  rw [ho]
  refine fun F' H' ws g2 nf hp' hr => ⟨rfl, ?_⟩
  have g3 := gr_made np g2 nf hp'
  have n1 : ((ns.zip (okr g)).map Prod.fst) = ns := List.map_fst_zip (by omega)
  have n2 : ((ns.zip (okr g)).map Prod.snd) = okr g := List.map_snd_zip (by omega)
  exact q _ _ _ (g1.trans g3) ⟨p, dx, ws, rfl, by rw [n1]; exact upd_same, by rw [n2]; exact hr.mono (same_new nf)⟩
end
/-! ### its body -/
section
variable {X : Cx} {N : List Str} {sc : Scope} {k : Nat} {Γ : List Sl} {e : Expr} {r : Rep} {pos p pos' : Pos} {x : Str} {i : Nat} {C pa dx : Addr} {f : Str} {F0 H0 : Hp} {st : List Stmt} {D : Ends} {fn ns : List Str} {rs : List Rep}
/-- the fields that stand so far -/
def FI (X : Cx) (F0 H0 : Hp) (pa C dx : Addr) (ns : List Str) (rs : List Rep) (st : List Stmt) (D : Ends) (Γ : List Sl) : Prop := ∀ F H σ vs, En F0 H0 F H σ Γ → F pa = none → H pa = some (.ins C dx (ns.zip vs)) → RL F rs vs → XS X st D σ H
theorem En.updOb {F H : Hp} {σ : L2.St} (en : En F0 H0 F H σ Γ) (n0 : H0 pa = none) (nF : F pa = none) {o o' : HO} (hp : H pa = some o) (no : ∀ l, o ≠ .lst l) : En F0 H0 F (upd H pa o') σ Γ where
  gr := ⟨en.gr.f, fun b u z => by rw [upd_ne (ne_of_none z n0)]; exact en.gr.h b u z, same_out en.gr.s nF, en.gr.n⟩
  len := en.len
  ok i s y h1 h2 := by
    have q := en.ok i s y h1 h2
    cases s with
    | any => trivial
    | im r => exact q
    | ow l =>
      obtain ⟨p2, ws, a, b, c, d⟩ := q
      refine ⟨p2, ws, a, b, ?_, d⟩
      have : p2 ≠ pa := fun z => by
        rw [z, hp] at c
        exact no _ (Option.some.inj c)
      rw [upd_ne this]
      exact c
  own := en.own
  sep := en.sep
theorem putF_snoc {f : Str} {v : V} : ∀ {ns : List Str} {vs : List V}, ns.length = vs.length → f ∉ ns → putF f v (ns.zip vs) = (ns ++ [f]).zip (vs ++ [v])
  | [], [], _, _ => rfl
  | g :: ns, y :: vs, h, hn => by
    have h1 : ¬ g = f := fun z => hn (z ▸ List.mem_cons_self ..)
    show (if g = f then (g, v) :: ns.zip vs else (g, y) :: putF f v (ns.zip vs)) = _
    rw [if_neg h1, putF_snoc (by simpa using h) (fun z => hn (List.mem_cons_of_mem _ z))]
    rfl
theorem fi_set (B : BX X N sc k) (O : OCls X.K C fn) (n0 : H0 pa = none) (hl : ns.length = rs.length) (he : DE X Γ e r) (hΓ : Γ[i]? = some (.im (rC (.ref pa)))) (hN : N[i]? = some x) (hv : Vis sc x) (h : FI X F0 H0 pa C dx (ns ++ [f]) (rs ++ [r]) st D Γ) (hf : f ∈ fn := by decide) (hfn : f ∉ ns := by decide) (h10 : ns.length < 1000 := by decide)
    (hd : (x == ("__debug__" : Str)) = false := by decide) (hcd : (x == ("__classdict__" : Str)) = false := by decide) (hs : swapsWith e (some (.Attribute (.Name x p) f pos')) pos.line X.env = pure false := by rfl) :
    FI X F0 H0 pa C dx ns rs (.Assign [.Attribute (.Name x p) f pos'] e pos :: st) D Γ := fun F H σ vs en nF hp hr => by
  refine .of (pss_cons (ps_fld (pe_var (i := i) (B.hN ▸ hN) (B.hsc ▸ hv) hd hcd) pe_ev hs) pss_ev) ?_
  refine he F0 H0 F H σ en _ fun v F1 H1 g hv1 => ?_
  have en1 := en.grow g
  obtain ⟨u, h1, h2⟩ := en1.im hΓ
  cases h2
  have hp1 := g.h _ _ hp
  have nF1 : F1 pa = none := g.n pa (by rw [hp]; exact nofun) nF
  have ll : ns.length = vs.length := hl.trans hr.len
  refine ⟨_, h1, pa, C, dx, _, rfl, hp1, O.cl, O.na f hf, by rw [List.length_zip]; omega, ?_⟩
  refine h F1 _ σ (vs ++ [v]) (en1.updOb n0 nF1 hp1 (fun _ => nofun)) nF1 (by rw [upd_same, putF_snoc ll hfn]) ((hr.mono g.f).snoc hv1)
theorem fi_end (h : ∀ F H σ vs, Gr F0 H0 F H → F pa = none → H pa = some (.ins C dx (ns.zip vs)) → RL F rs vs → D.nx σ H) : FI X F0 H0 pa C dx ns rs [] D Γ := fun F H σ vs en nF hp hr => .of pss_nil (h F H σ vs en.gr nF hp hr)
/-- from here on the fields are stored -/
theorem go_fields {H1 : Hp} (n0 : H0 pa = none) (nd : H0 dx = none) (nF : F0 pa = none) (e1 : H1 = upd (upd H0 dx (.own pa)) pa (.ins C dx [])) (hne : dx ≠ pa) (h : FI X F0 H0 pa C dx [] [] st D Γ) : GO X F0 H1 st D Γ := fun F H σ en => by
  have a1 : H1 pa = some (.ins C dx []) := by rw [e1]; exact upd_same
  have up : Same H0 H1 := by
    rw [e1]
    exact (same_new nd).trans (same_new (by rw [upd_ne (Ne.symm hne)]; exact n0))
  have low : ∀ {q : Addr}, H1 q = none → H0 q = none := fun {q} z => up.free z
  refine h F H σ [] ⟨⟨en.gr.f, up.trans en.gr.h, en.gr.s, fun a ha z => en.gr.n a (fun y => ha (low y)) z⟩, en.len, en.ok, fun i q l x1 x2 => low (en.own i q l x1 x2), en.sep⟩ (en.gr.n pa (by rw [a1]; exact nofun) nF) (en.gr.h _ _ a1) .nil
end
section
variable {P : Program} {w : World} {K : PySem.W.Frag} {mg : Str → Option Value} {base : Heap} {k : Nat} {x q : Str} {st : Stmt} {N ps ns : List Str} {C : Addr} {ι : Type} {pre : ι → Prop} {args : ι → List Rep} {out : ι → OutI}
/-- the class's facts and its __init__ -/
structure TI (K : PySem.W.Frag) (mg : Str → Option Value) (x q : Str) (C : Addr) (st : Stmt) (fn : List Str) : Prop where
  ex : ∃ f fd, Fun K "__init__" q st f fd ∧ Mk K C f
  g : mg x = some (.ref C)
  o : OCls K C fn
theorem PrI.er {F H : Hp} {p C dx D0 : Addr} {ns : List Str} {Q : VK} {E : XK} {o : OutI} (h : PrI F H p C dx ns o Q E) (e : o = .err D0) : ∀ H', Same H H' → E (.ref D0) none H' := by subst e; exact h
theorem PrI.ok {F H : Hp} {p C dx : Addr} {ns : List Str} {rs : List Rep} {Q : VK} {E : XK} {o : OutI} (h : PrI F H p C dx ns o Q E) (e : o = .ok rs) : ∀ F' H' vs, Gr F H F' H' → F' p = none → H' p = some (.ins C dx (ns.zip vs)) → RL F' rs vs → Q .non H' := by subst e; exact h
theorem cal_okI {fn : List Str} (T : TI K mg x q C st fn) (S : FnScope N ps (defScope st)) (hn : ∀ g, (args g).length + 1 = ps.length)
    (hb : ∀ (kV doc pm : Value) (an : Option Addr) (cdv ct : Value) (us : List Value), us.length = ps.length → bindArgs (PySem.W.fnOf "__init__" q (defArgs st) (defBody st) (defScope st) .none kV doc pm an cdv ct) ⟨us, []⟩ = pure (ps.zip us))
    (body : ∀ (X : Cx), X.prog = P → X.w = w → X.K = K → X.mg = mg → X.base = base → BX X N (defScope st) k → (∀ x : Str, X.fn x = true) → ∀ (g : ι) (F0 H0 H1 : Hp) (pa dx : Addr) (Q : VK) (E : XK), Takes X (fun cls d _ H => E cls d H) → pre g → F0 pa = none → H0 pa = none → H0 dx = none → dx ≠ pa → H1 = upd (upd H0 dx (.own pa)) pa (.ins C dx []) → Same H0 H1 → PrI F0 H0 pa C dx ns (out g) Q E →
      GO X F0 H1 (defBody st) { nx := fun _ H' => Q .non H', rt := Q } (.im (rC (.ref pa)) :: ((args g).map Sl.im ++ List.replicate (N.length - ps.length) .any))) : CalI P w K mg base (k + 1) x C (PmI C pre args ns out) := by
  obtain ⟨f, fd, F, M⟩ := T.ex
  refine ⟨f, fd, ps, ?_, M, T.g, F.binds hb⟩
  refine F.okX S (fun vs H Q E h => ?_) (fun cdv A outer s H vs Q E hr h => ?_)
  · obtain ⟨g, F1, H0, p, dx, vs', rfl, _, _, _, _, _, _, h1, _⟩ := h
    rw [List.length_cons, ← h1.len, hn]
  · obtain ⟨g, F1, H0, p, dx, vs', rfl, hp, hs, np, nd, hne, rfl, h1, q⟩ := h
    refine ⟨_, pss_ev, ?_⟩
    have hpl : ps.length ≤ N.length := by have := congrArg List.length S.pre; rw [List.length_take] at this; omega
    have up : Same H0 (upd (upd H0 dx (.own p)) p (.ins C dx [])) := (same_new nd).trans (same_new (by rw [upd_ne (Ne.symm hne)]; exact np))
    have en := en_start (N := N) (rs := rC (.ref p) :: args g) (vs := .ref p :: vs') (hs.trans up) (.cons rfl h1) (by rw [List.length_cons, hn]; exact hpl)
    rw [List.length_cons, hn, List.map_cons, List.cons_append] at en
    exact body _ rfl rfl rfl rfl rfl ⟨rfl, rfl, S.nd, hr, rfl, passes_of rfl⟩ (fun _ => rfl) g F1 H0 _ p dx Q E (takes_of rfl rfl rfl rfl) hp (hs.free np) np nd hne rfl up q F1 _ _ en
end
end DL

set_option Elab.async false
set_option linter.all false
set_option maxRecDepth 100000
set_option maxHeartbeats 4000000
/-! chains of comparisons, signs of texts, tuples of lists, what may be None -/
namespace DL
open PySem PySem.Spec PyProof.Rows L2
section
variable {X : Cx} {N : List Str} {sc : Scope} {k j : Nat} {Γ : List Sl} {a b c e tg it : Expr} {es rest : List Expr} {r ra rb rc r' r1 : Rep} {rs l l2 l3 : List Rep} {pos p p2 : Pos} {x : Str} {i : Nat} {u t : Bool} {F0 H0 : Hp} {st body : List Stmt} {D : Ends}
theorem dt_chain {o o' : CmpOp} {q q' : R2} (ho : OpR X (compareOp o) q) (h2 : B2 q ra rb (rBl t)) (ho' : OpR X (compareOp o') q') (h2' : B2 q' rb rc (rBl u)) (ha : DE X Γ a ra) (hb : DE X Γ b rb) (hc : t = true → DE X Γ c rc) (hm : lastMarks [o, o'] [b, c] = false := by rfl) : DT X Γ (.Compare a [o, o'] [b, c] pos) (t && u) := fun F0 H0 F H σ en Q q =>
  .of (pt_chain ho ho' pe_ev pe_ev pe_ev (hm := hm)) (ha F0 H0 F H σ en _ fun v F1 H1 g1 k1 => hb F0 H0 F1 H1 σ (en.grow g1) _ fun w F2 H2 g2 k2 => h2 F2 H2 v w g2.s (ra.mono g2.f k1) k2 _ fun z F3 H3 g3 k3 => ⟨t, k3, by
    cases t with
    | false => exact ⟨false, rfl, q F3 H3 ((g1.trans g2).trans g3)⟩
    | true =>
      rw [if_pos rfl]
      exact hc rfl F0 H0 F3 H3 σ (((en.grow g1).grow g2).grow g3) _ fun y F4 H4 g4 k4 => h2' F4 H4 w y g4.s (rb.mono (g3.f.trans g4.f) k2) k4 _ fun z F5 H5 g5 k5 => ⟨u, k5, q F5 H5 ((((g1.trans g2).trans g3).trans g4).trans g5)⟩⟩)
/-! signs of a text -/
def sgn (z : Str) (i : Nat) : Str := ⟨#[z.cps.toList.getD i 0]⟩
theorem de_ixStr {z : Str} {n : Int} (hz : z.length ≤ sizeLine) (h0 : 0 ≤ n) (h1 : n.toNat < z.cps.toList.length) (ha : DE X Γ a (rStr z)) (hb : DE X Γ b (rInt n)) (hs : PlainIx b := by exact fun _ _ => rfl) : DE X Γ (.Subscript a b pos) (rStr (sgn z n.toNat)) :=
  de_ixr ix_seq (fun F H x y s h1' h2 Q q => by
    cases h1'
    cases h2
    refine .inr (.inr ⟨z, n, z.cps.toList.getD n.toNat 0, rfl, rfl, hz, ?_, q _ F H (.refl s) rfl⟩)
    obtain ⟨m, rfl⟩ : ∃ m : Nat, n = m := ⟨n.toNat, by omega⟩
    refine atI_nat ?_
    rw [Int.toNat_natCast] at h1 ⊢
    rw [List.getElem?_eq_getElem h1, List.getD_eq_getElem?_getD, List.getElem?_eq_getElem h1]
    rfl) ha hb hs
theorem b2_sign {c : Nat} {z : Str} : B2 (fun x y H Q => ∃ (c : Nat) (z : Str), x = .str ⟨#[c]⟩ ∧ y = .str z ∧ Q (.bl (decide (c ∈ z.cps.toList))) H) (rStr ⟨#[c]⟩) (rStr z) (rBl (decide (c ∈ z.cps.toList))) := fun F H x y s h1 h2 Q q => by
  cases h1; cases h2
  exact ⟨c, z, rfl, rfl, q _ F H (.refl s) rfl⟩
theorem b2_nosign {c : Nat} {z : Str} : B2 (fun x y H Q => ∃ (c : Nat) (z : Str), x = .str ⟨#[c]⟩ ∧ y = .str z ∧ Q (.bl (!decide (c ∈ z.cps.toList))) H) (rStr ⟨#[c]⟩) (rStr z) (rBl (!decide (c ∈ z.cps.toList))) := fun F H x y s h1 h2 Q q => by
  cases h1; cases h2
  exact ⟨c, z, rfl, rfl, q _ F H (.refl s) rfl⟩
theorem de_inSg {y z : Str} {m : Nat} (ha : DE X Γ a (rStr (sgn y m))) (hb : DE X Γ b (rStr z)) (hm : behindInMarks .In b = false := by rfl) : DE X Γ (.Compare a [.In] [b] pos) (rBl (decide (y.cps.toList.getD m 0 ∈ z.cps.toList))) := de_cmp op_in_sign b2_sign ha hb hm
theorem dt_notInSg {y z : Str} {m : Nat} (ha : DE X Γ a (rStr (sgn y m))) (hb : DE X Γ b (rStr z)) (hm : behindInMarks .NotIn b = false := by rfl) : DT X Γ (.Compare a [.NotIn] [b] pos) (!decide (y.cps.toList.getD m 0 ∈ z.cps.toList)) := dt_cmp op_notIn_sign b2_nosign ha hb hm
theorem sr_str {z : Str} (h : DE X Γ it (rStr z)) : SR X Γ tg it z.cps.toList.length (fun i => rStr (sgn z i)) := fun F0 H0 F H σ en R q =>
  .of (pi_str pe_ev) (h F0 H0 F H σ en _ fun v F1 H1 g hv => by
    cases hv
    refine ⟨z, rfl, q _ F1 H1 g ⟨fun i H2 s hi => ?_, fun i H2 s hi => ?_, fun i F2 H2 x H' s s2 hi hy => ?_⟩⟩
    · show z.cps.size ≤ i
      rw [← Array.length_toList]; exact hi
    · show i < z.cps.size
      rw [← Array.length_toList]; exact hi
    · obtain ⟨rfl, c, hc, rfl⟩ := hy
      refine ⟨F2, .refl s2, ?_⟩
      show V.str _ = V.str _
      rw [sgn, List.getD_eq_getElem?_getD, Array.getElem?_toList, hc]
      rfl)
/-! tuples -/
theorem de_tupS (hm : X.mg "tuple" = none) (B : BX X N sc k) (h : DE X Γ e (rSeq X.K l)) (hg : sc.names.lookup ("tuple" : Str) = some NameKind.globalImplicit) (he : starEach [e] X.env = (false, eval e X.env) :: starEach [] X.env := by rfl) : DE X Γ (.Call (.Name "tuple" p) [e] [] pos) (rTup X.K l) := fun F0 H0 F H σ en Q q => by
  have hgl : Gl X "tuple" := by
    show X.env.scope.names.lookup _ = _
    rw [B.hsc]
    exact hg
  refine .of (pe_tupleOf hgl hm pe_ev he) (h F0 H0 F H σ en _ fun v F1 H1 g hv => ?_)
  obtain ⟨pp, vs, rfl, k1, k2⟩ := hv
  rcases k1 with k1 | k1
  · exact .inl ⟨pp, vs, rfl, g.s.seq k1, fun q' hq => q _ _ _ (g.trans (.new g.s hq)) ⟨q', vs, rfl, SqT.of upd_same, k2.mono (same_new (g.s.free hq))⟩⟩
  · exact .inr ⟨pp, vs, rfl, sqt_mono g.s k1, q _ F1 H1 g ⟨pp, vs, rfl, k1, k2⟩⟩
/-- list(range(n)) -/
theorem dl_listRg {n : Int} (B : BX X N sc k) (hl : X.mg "list" = none) (hr : X.mg "range" = none) (h0 : 0 ≤ n) (h1 : n ≤ 16777216) (h : DE X Γ e (rInt n)) (hgl : sc.names.lookup ("list" : Str) = some NameKind.globalImplicit) (hgr : sc.names.lookup ("range" : Str) = some NameKind.globalImplicit)
    (he : starEach [e] X.env = (false, eval e X.env) :: starEach [] X.env := by rfl) (he2 : starEach [Expr.Call (.Name "range" p2) [e] [] p] X.env = (false, eval (.Call (.Name "range" p2) [e] [] p) X.env) :: starEach [] X.env := by rfl) {p3 : Pos} :
    DL X Γ (.Call (.Name "list" p3) [.Call (.Name "range" p2) [e] [] p] [] pos) ((List.range n.toNat).map fun i : Nat => rInt (i : Nat)) := fun F0 H0 F H σ en Q q => by
  have g1 : Gl X "list" := by
    show X.env.scope.names.lookup _ = _
    rw [B.hsc]
    exact hgl
  have g2 : Gl X "range" := by
    show X.env.scope.names.lookup _ = _
    rw [B.hsc]
    exact hgr
  refine .of (pe_listRg B.calm g1 hl (prg_1 g2 hr pe_ev he) he2) (h F0 H0 F H σ en _ fun v F1 H1 g hv => ?_)
  cases hv
  refine ⟨n, rfl, RgOk.of_le (by decide) h1 (by decide) h0, fun q' hq => q q' _ F1 _ (g.trans (.newOwn g.s hq)) (g.h.free hq) (g.s.free hq) upd_same ?_⟩
  have : ∀ m : Nat, RL F1 ((List.range m).map fun i : Nat => rInt (i : Nat)) ((List.range m).map fun i => V.int (0 + (i : Nat))) := fun m => by
    induction m with
    | zero => exact .nil
    | succ m ih =>
      rw [List.range_succ, List.map_append, List.map_append]
      exact ih.app (.cons (by show V.int _ = V.int _; rw [Int.zero_add]) .nil)
  have z := this n.toNat
  unfold rgV
  rw [Int.sub_zero]
  exact z
/-- [..] * n -/
theorem dl_rep {n : Int} (ha : DL X Γ a l) (hb : DE X Γ b (rInt n)) (h0 : -(2 ^ 63) ≤ n) (h1 : n < 2 ^ 63) (h2 : l.length * n.toNat ≤ sizeLine) : DL X Γ (.BinOp a .Mult b pos) (List.replicate n.toNat l).flatten := fun F0 H0 F H σ en Q q =>
  .of (pe_op op_rep pe_ev pe_ev) (ha F0 H0 F H σ en _ fun pp vs F1 H1 g1 n1 f1 k1 r1 => hb F0 H0 F1 H1 σ (en.grow g1) _ fun w F2 H2 g2 k2 => by
    cases k2
    refine ⟨pp, n, vs, rfl, rfl, g2.h _ _ k1, h0, h1, by rw [← r1.len]; exact h2, fun q' hq => ?_⟩
    have g := g1.trans g2
    refine q q' _ F2 _ (g.trans (.newOwn g.s hq)) (g.h.free hq) (g.s.free hq) upd_same ?_
    have r2 := r1.mono g2.f
    have : ∀ m : Nat, RL F2 (List.replicate m l).flatten (List.replicate m vs).flatten := fun m => by
      induction m with
      | zero => exact .nil
      | succ m ih =>
        rw [List.replicate_succ, List.replicate_succ, List.flatten_cons, List.flatten_cons]
        exact r2.app ih
    exact this _)
theorem de_intB (B : BX X N sc k) (hm : X.mg "int" = none) (ha : DE X Γ a (rBl u)) (hg : sc.names.lookup ("int" : Str) = some NameKind.globalImplicit)
    (he : starEach (a :: []) X.env = (false, eval a X.env) :: starEach [] X.env := by rfl) : DE X Γ (.Call (.Name "int" p) [a] [] pos) (rInt (if u = true then 1 else 0)) :=
  de_bty B call_int1 (fun F H vs s hv Q q => by
    obtain ⟨v, rfl, k1⟩ := rl1 hv
    cases k1
    exact .inr ⟨u, rfl, q _ F H (.refl s) rfl⟩) hm (by decide +kernel) (da_cons ha da_nil he) hg (he := he)
/-! what may be None -/
def rOp {α : Type} (R : α → Rep) : Option α → Rep
  | none => rNon
  | some a => R a
variable {α : Type} {R : α → Rep} {o : Option α}
theorem de_oN (h : DE X Γ e rNon) : DE X Γ e (rOp R none) := h
theorem de_oS {v : α} (h : DE X Γ e (R v)) : DE X Γ e (rOp R (some v)) := h
theorem de_oU (d : α) (ho : o.isNone = false) (h : DE X Γ e (rOp R o)) : DE X Γ e (R (o.getD d)) := by
  cases o with
  | none => cases ho
  | some v => exact h
theorem dt_oIs {jj : Nat} (hn : ∀ v, NotNon (R v)) (h : DE X Γ a (rOp R o)) : DT X Γ (.Compare a [.Is] [.Constant .none jj p] pos) o.isNone := by
  cases o with
  | none => exact dt_isN h
  | some v => exact dt_isN0 (hn v) h
theorem dt_oNot {jj : Nat} (hn : ∀ v, NotNon (R v)) (h : DE X Γ a (rOp R o)) : DT X Γ (.Compare a [.IsNot] [.Constant .none jj p] pos) (!o.isNone) := by
  cases o with
  | none => exact dt_notN h
  | some v => exact dt_notN0 (hn v) h
/-! three lists at once -/
theorem go_par3 {i1 i2 i3 : Nat} {x1 x2 x3 : Str} {px py pz pt : Pos} {kt k2 : Nat} {pt2 : Pos} (B : BX X N sc k) (ha : DL X Γ a l) (hb : DL X Γ b l2) (hc : DL X Γ c l3) (h1 : N[i1]? = some x1) (h2 : N[i2]? = some x2) (h3 : N[i3]? = some x3) (h12 : i1 ≠ i2) (h13 : i1 ≠ i3) (h23 : i2 ≠ i3)
    (hx : sc.names.lookup x1 = some .local) (hy : sc.names.lookup x2 = some .local) (hz : sc.names.lookup x3 = some .local) (h : GO X F0 H0 st D (((Γ.set i1 (.ow l)).set i2 (.ow l2)).set i3 (.ow l3)))
    (hw : ∀ env : Env, env.scope = sc → swappedStores [.Tuple [.Name x1 px, .Name x2 py, .Name x3 pz] kt pt] (.Tuple [a, b, c] k2 pt2) env = pure (some [x1, x2, x3]))
    (hs : swapsWithSole [.Tuple [.Name x1 px, .Name x2 py, .Name x3 pz] kt pt] (.Tuple [a, b, c] k2 pt2) pos.line X.env = pure false := by rfl)
    (e1 : starEach [a, b, c] X.env = (false, eval a X.env) :: starEach [b, c] X.env := by rfl) (e2 : starEach [b, c] X.env = (false, eval b X.env) :: starEach [c] X.env := by rfl) (e3 : starEach [c] X.env = (false, eval c X.env) :: starEach [] X.env := by rfl) :
    GO X F0 H0 (.Assign [.Tuple [.Name x1 px, .Name x2 py, .Name x3 pz] kt pt] (.Tuple [a, b, c] k2 pt2) pos :: st) D Γ := fun F H σ en => by
  refine .of (pss_cons (ps_par3 (i := i1) (j := i2) (l := i3) B.calm (by rw [B.hN]; exact B.nd) (by rw [B.hN]; exact h1) (by rw [B.hN]; exact h2) (by rw [B.hN]; exact h3) h12 h13 h23 (by rw [B.hsc]; exact hx) (by rw [B.hsc]; exact hy) (by rw [B.hsc]; exact hz) (pa_cons pe_ev (pa_cons pe_ev (pa_cons pe_ev pa_nil e3) e2) e1) (hw X.env B.hsc) hs) pss_ev) ?_
  refine ha F0 H0 F H σ en _ fun p1 v1 F1 H1 g1 n1 f1 k1 r1 => hb F0 H0 F1 H1 σ (en.grow g1) _ fun p2 v2 F2 H2 g2 n2 f2 k2 r2 => hc F0 H0 F2 H2 σ ((en.grow g1).grow g2) _ fun p3 v3 F3 H3 g3 n3 f3 k3 r3 => ⟨_, _, _, rfl, ?_⟩
  have g12 := g1.trans g2
  have g123 := g12.trans g3
  have g23 := g2.trans g3
  have en3 := en.grow g123
  have no : ∀ {q : Addr}, H q = none → ∀ (j : Nat) (l' : List Rep), Γ[j]? = some (.ow l') → σ[j]? ≠ some (some (.ref q)) := fun {q} hq j l' a1 a2 => by
    obtain ⟨p', vs', b1, b2, b3, b4, b5⟩ := en.ow a1
    rw [b1] at a2
    have e2 : p' = q := V.ref.inj (Option.some.inj (Option.some.inj a2))
    rw [e2, hq] at b3
    cases b3
  have m1 : H3 p1 = some (.lst v1) := g23.h _ _ k1
  have m2 : H3 p2 = some (.lst v2) := g3.h _ _ k2
  have q1 : F3 p1 = none := g23.n p1 (by rw [k1]; exact nofun) f1
  have q2 : F3 p2 = none := g3.n p2 (by rw [k2]; exact nofun) f2
  have z2 : H p2 = none := g1.h.free n2
  have z3 : H p3 = none := g12.h.free n3
  have d12 : p1 ≠ p2 := fun z => by rw [← z, k1] at n2; cases n2
  have d13 : p1 ≠ p3 := fun z => by rw [← z, g2.h _ _ k1] at n3; cases n3
  have d23 : p2 ≠ p3 := fun z => by rw [← z, k2] at n3; cases n3
  have s1 := en3.setOw (i := i1) q1 m1 (r1.mono g23.f) (en.gr.h.free n1) (no n1)
  have no2 : ∀ {q : Addr} {i : Nat} {pp : Addr} {Γ' : List Sl} {σ' : L2.St} {ll : List Rep}, pp ≠ q → (∀ (j : Nat) (l' : List Rep), Γ'[j]? = some (.ow l') → σ'[j]? ≠ some (some (.ref q))) → ∀ (j : Nat) (l' : List Rep), (Γ'.set i (.ow ll))[j]? = some (.ow l') → (σ'.set i (some (.ref pp)))[j]? ≠ some (some (.ref q)) := fun {q i pp Γ' σ' ll} hne h j l' a1 a2 => by
    rcases get_set a2 with ⟨rfl, e⟩ | ⟨n, a2⟩
    · exact hne (V.ref.inj (Option.some.inj e)).symm
    · rcases get_set a1 with ⟨e, _⟩ | ⟨_, a1⟩
      · exact n e
      · exact h j l' a1 a2
  have s2 := s1.setOw (i := i2) q2 m2 (r2.mono g3.f) (en.gr.h.free z2) (no2 d12 (no z2))
  have s3 := s2.setOw (i := i3) f3 k3 r3 (en.gr.h.free z3) (no2 d23 (no2 d13 (no z3)))
  exact h F3 H3 _ s3
end
end DL

set_option Elab.async false
set_option linter.all false
set_option maxRecDepth 100000
set_option maxHeartbeats 4000000
/-! classmethods that make an object -/
namespace DL
open PySem PySem.Spec PyProof.Rows L2
section
variable {X : Cx} {N : List Str} {sc : Scope} {k j : Nat} {Γ : List Sl} {e : Expr} {es : List Expr} {pos p apos : Pos} {x m : Str} {i : Nat} {C : Addr} {ns : List Str} {ι : Type} {pre : ι → Prop} {args : ι → List Rep} {out : ι → OutI}
/-- a classmethod, by the class's name -/
structure TC (K : PySem.W.Frag) (C : Addr) (m q : Str) (st : Stmt) : Prop where
  ex : ∃ mc p g fd, ClX.CRead K C mc ∧ ClX.CMet K C mc m p g ∧ Fun K m q st g fd
structure CalC (P : Program) (w : World) (K : PySem.W.Frag) (mg : Str → Option Value) (base : Heap) (k : Nat) (C : Addr) (m : Str) (sp : Sp) : Prop where
  ex : ∃ mc p g, ClX.CRead K C mc ∧ ClX.CMet K C mc m p g ∧ FnR P w K mg base (L2.CX P w) k g sp
variable {res : ι → Ret}
end
section
variable {P : Program} {w : World} {K : PySem.W.Frag} {mg : Str → Option Value} {base : Heap} {k : Nat} {m q : Str} {st : Stmt} {N ps : List Str} {C : Addr} {ι : Type} {pre : ι → Prop} {args : ι → List Rep} {res : ι → Ret}
end
end DL

set_option Elab.async false
set_option linter.all false
set_option maxRecDepth 100000
set_option maxHeartbeats 4000000
/-! tuples whose first item is a new list; errors within expressions; books -/
namespace DL
open PySem PySem.Spec PyProof.Rows L2
section
variable {X : Cx} {N : List Str} {sc : Scope} {k j : Nat} {Γ : List Sl} {a b c e tg it : Expr} {es rest : List Expr} {r ra rb rc r' : Rep} {rs l l2 : List Rep} {pos p p2 : Pos} {x : Str} {i : Nat} {F0 H0 : Hp} {st body : List Stmt} {D : Ends} {C : Addr} {W : WX} {fs : List (Str × V)}
/-! a tuple (new list, ..) -/
theorem go_retT {x1} (B : BX X N sc k) (R : RT F0 H0 (.tfr X.K l rs) D) (hΓ : Γ[i]? = some (.ow l)) (ha : DA X Γ es rs) (hN : N[i]? = some x) (hv : Vis sc x) (hl : rs.length + 1 ≤ sizeLine) (hd : (x == ("__debug__" : Str)) = false := by decide) (hcd : (x == ("__classdict__" : Str)) = false := by decide)
    (hs : starEach (.Name x p :: es) X.env = (false, eval (.Name x p) X.env) :: starEach es X.env := by rfl) : GO X F0 H0 (.Return (some (.Tuple (.Name x p :: es) x1 p2)) pos :: st) D Γ := fun F H σ en => by
  obtain ⟨q, vs, h1, h2, h3, h4, h5⟩ := en.ow hΓ
  refine .of (pss_cons (ps_ret (pe_tup (pa_cons (pe_var (i := i) (B.hN ▸ hN) (B.hsc ▸ hv) hd hcd) pa_ev hs))) (pss_ev (st := st))) ⟨_, h1, ?_⟩
  refine ha F0 H0 F H σ en _ fun ws F1 H1 g k1 => ⟨by rw [List.length_cons, ← k1.len]; exact hl, fun t ht => ?_⟩
  have q1 : F1 q = none := g.n q (by rw [h3]; exact nofun) h2
  have q2 : H1 q = some (.lst vs) := g.h _ _ h3
  have qt : q ≠ t := fun z => by rw [← z, q2] at ht; cases ht
  have sn : Same F1 (upd F1 t (.tup (.ref q :: ws))) := same_new (g.s.free ht)
  exact R _ _ _ (en.gr.trans (g.trans (.new g.s ht))) ⟨t, q, vs, ws, rfl, SqT.of upd_same, h5, by rw [upd_ne qt]; exact q1, by rw [upd_ne qt]; exact q2, (h4.mono g.f).mono sn, k1.mono sn⟩
theorem CA.tup (h : CA X Γ e (.tfr X.K l rs)) : DE X Γ e (rTup X.K (rLst X.K l :: rs)) := fun F0 H0 F H σ en Q q => h F0 H0 F H σ en Q fun v F' H' F1 H1 g1 g2 hv => by
  obtain ⟨t, pp, us, vs, rfl, e2, e3, e4, e5, e6, e7⟩ := hv
  have hn : H pp = none := g1.h.free e3
  have g := g1.trans g2
  have sn : Same F' (upd F' pp (.lst us)) := same_new e4
  refine q _ (upd F' pp (.lst us)) H' ⟨g.f.trans sn, g.h, fun b o z => ?_, fun a ha z => ?_⟩ ⟨t, _, rfl, sqt_mono sn e2, .cons ⟨pp, us, rfl, SqL.of upd_same, e6.mono sn⟩ (e7.mono sn)⟩
  · by_cases hb : b = pp
    · subst hb
      rw [upd_same] at z
      rw [e5, ← z]
    · rw [upd_ne hb] at z
      exact g.s b o z
  · have : a ≠ pp := fun y => ha (y ▸ hn)
    rw [upd_ne this]
    exact g.n a ha z
/-! errors within expressions -/
end
/-! rows by a map -/
theorem rl_sub {F : Hp} {α : Type} {R R' : α → Rep} (h : ∀ a, Sub (R a) (R' a)) : ∀ {xs : List α} {vs : List V}, RL F (xs.map R) vs → RL F (xs.map R') vs
  | [], _, .nil => .nil
  | _ :: _, _, .cons a t => .cons (h _ F _ a) (rl_sub h t)
theorem sub_lstM {K : PySem.W.Frag} {α : Type} {R R' : α → Rep} (h : ∀ a, Sub (R a) (R' a)) {xs : List α} : Sub (rLst K (xs.map R)) (rLst K (xs.map R')) := fun F v ⟨a, vs, e, q, r⟩ => ⟨a, vs, e, q, rl_sub h r⟩
section
variable {X : Cx} {N : List Str} {sc : Scope} {k j : Nat} {Γ : List Sl} {a b c e tg it it2 : Expr} {es rest : List Expr} {pos p p2 : Pos} {x : Str} {i : Nat} {α β : Type} {R : α → Rep} {R2 : β → Rep} {xs : List α} {ys : List β}
theorem de_ixAM {n : Int} (d : α) (h0 : 0 ≤ n) (h1 : n < xs.length) (ha : DE X Γ a (rSeq X.K (xs.map R))) (hb : DE X Γ b (rInt n)) (hs : PlainIx b := by exact fun _ _ => rfl) : DE X Γ (.Subscript a b pos) (R (xs.getD n.toNat d)) := de_ixA (atI_map d h0 h1) ha hb hs
theorem sr_seqM (d : α) (h : DE X Γ it (rSeq X.K (xs.map R))) : SR X Γ tg it xs.length (fun i => R (xs.getD i d)) := by
  have h2 := sr_seq (tg := tg) h
  rw [List.length_map] at h2
  exact h2.to fun i hi => getD_map d hi
theorem sr_zipS_M {jj : Nat} {tpos : Pos} (d : α) (d2 : β) (B : BX X N sc k) (hm : X.mg "zip" = none) (h : DE X Γ it (rSeq X.K (xs.map R))) (h2 : DE X Γ it2 (rSeq X.K (ys.map R2))) (hg : sc.names.lookup ("zip" : Str) = some NameKind.globalImplicit)
    (hs : starEach [it, it2] X.env = (false, eval it X.env) :: starEach [it2] X.env := by rfl) (hs2 : starEach [it2] X.env = (false, eval it2 X.env) :: starEach [] X.env := by rfl) (hpl : (backTo pos (starEach [it2] X.env)).any (·.1) = false := by rfl) :
    SR X Γ (.Tuple es jj tpos) (.Call (.Name "zip" p) [it, it2] [] pos) (min xs.length ys.length) (fun i => rTup X.K [R (xs.getD i d), R2 (ys.getD i d2)]) := by
  have z := sr_zipS (es := es) (jj := jj) (tpos := tpos) (p := p) (pos := pos) B hm h h2 hg hs hs2 hpl
  rw [List.length_map, List.length_map] at z
  exact z.to fun i hi => by rw [getD_map d (by omega), getD_map d2 (by omega)]
end
/-! pairs -/
def rP {α β : Type} (K : PySem.W.Frag) (R : α → Rep) (R2 : β → Rep) (p : α × β) : Rep := rTup K [R p.1, R2 p.2]
/-! books -/
structure Bk where
  names : List Str
  frame : List (List Int)
def Bk.size (b : Bk) : Nat := b.names.length
abbrev rRowT (K : PySem.W.Frag) (l : List Int) : Rep := rTup K (l.map rInt)
abbrev rRowS (K : PySem.W.Frag) (l : List Int) : Rep := rSeq K (l.map rInt)
def rBook (K : PySem.W.Frag) (C : Addr) (b : Bk) : Rep := rIns K C [("names", rTup K (b.names.map rStr)), ("size", rInt (b.size : Nat)), ("frame", rTup K (b.frame.map (rRowT K)))]
section
variable {X : Cx} {Γ : List Sl} {e a b : Expr} {pos : Pos} {C : Addr} {k' : Bk} {N : List Str} {sc : Scope} {k : Nat} {α : Type} [DecidableEq α] {R : α → Rep} {d : α → PyData} {n : Nat} {u : α}
theorem de_bkS (O : OCls X.K C ["names", "size", "frame"]) (h : DE X Γ e (rBook X.K C k')) (hb : attributeBase e "size" X.env (eval e X.env) = eval e X.env := by rfl) : DE X Γ (.Attribute e "size" pos) (rInt (k'.size : Nat)) := de_fld O h rfl (hb := hb)
theorem de_bkF (O : OCls X.K C ["names", "size", "frame"]) (h : DE X Γ e (rBook X.K C k')) (hb : attributeBase e "frame" X.env (eval e X.env) = eval e X.env := by rfl) : DE X Γ (.Attribute e "frame" pos) (rTup X.K (k'.frame.map (rRowT X.K))) := de_fld O h rfl (hb := hb)
end
section
variable {X : Cx} {N : List Str} {sc : Scope} {k : Nat} {Γ : List Sl} {b : Expr} {pos p : Pos} {x : Str} {i : Nat} {l l2 : List Rep}
/-- x + [..], x a list of one's own -/
theorem dl_catOv (B : BX X N sc k) (hΓ : Γ[i]? = some (.ow l)) (hN : N[i]? = some x) (hv : Vis sc x) (hb : DL X Γ b l2) (hl : l.length + l2.length ≤ sizeLine) (hd : (x == ("__debug__" : Str)) = false := by decide) (hcd : (x == ("__classdict__" : Str)) = false := by decide) : DL X Γ (.BinOp (.Name x p) .Add b pos) (l ++ l2) := fun F0 H0 F H σ en Q q => by
  obtain ⟨a, vs, h1, h2, h3, h4, h5⟩ := en.ow hΓ
  refine .of (pe_op op_cat (pe_var (i := i) (B.hN ▸ hN) (B.hsc ▸ hv) hd hcd) pe_ev) ⟨_, h1, ?_⟩
  exact hb F0 H0 F H σ en _ fun p2 vs2 F2 H2 g2 b1 b2 b3 b4 => ⟨a, p2, vs, vs2, rfl, rfl, g2.h _ _ h3, b3, by rw [← h4.len, ← b4.len]; exact hl, fun q' hq => q q' _ F2 _ (g2.trans (.newOwn g2.s hq)) (g2.h.free hq) (g2.s.free hq) upd_same ((h4.mono g2.f).app b4)⟩
end
end DL

set_option Elab.async false
set_option linter.all false
set_option maxRecDepth 100000
set_option maxHeartbeats 4000000
/-! what == tells of pairs, of None or something, of texts -/
namespace DL
open PySem PySem.Spec PyProof.Rows L2
theorem BS.gl {Y : Cx} {N : List Str} {sc : Scope} {x : Str} (B : BS Y N sc) (h : sc.names.lookup x = some .globalImplicit) : Gl Y x := by
  show Y.env.scope.names.lookup x = _
  rw [B.hsc]
  exact h
section
variable {K : PySem.W.Frag} {α β : Type} [DecidableEq α] [DecidableEq β] {R : α → Rep} {R2 : β → Rep} {d : α → PyData} {d2 : β → PyData} {n n2 : Nat}
end
end DL

set_option Elab.async false
set_option linter.all false
set_option maxRecDepth 100000
set_option maxHeartbeats 4000000
/-! sums of multiples of rows -/
namespace DL
abbrev Vc := Nat → Rat
/-- x is a sum of multiples of the rows -/
def Sp : List Vc → Vc → Prop
  | [], x => ∀ j, x j = 0
  | r :: R, x => ∃ c : Rat, Sp R (fun j => x j - c * r j)
theorem Sp.to {R : List Vc} {x y : Vc} (h : Sp R x) (e : ∀ j, x j = y j) : Sp R y := by rw [← funext e]; exact h
theorem sp_zero : ∀ {R : List Vc} {x : Vc}, (∀ j, x j = 0) → Sp R x
  | [], _, h => h
  | r :: R, x, h => ⟨0, sp_zero (R := R) fun j => by rw [h j]; grind⟩
theorem sp_add : ∀ {R : List Vc} {x y : Vc}, Sp R x → Sp R y → Sp R (fun j => x j + y j)
  | [], x, y, h, k => fun j => by show x j + y j = 0; rw [h j, k j]; grind
  | r :: R, x, y, ⟨c, h⟩, ⟨d, k⟩ => ⟨c + d, (sp_add h k).to fun j => by grind⟩
theorem sp_mul : ∀ {R : List Vc} {x : Vc} (a : Rat), Sp R x → Sp R (fun j => a * x j)
  | [], x, a, h => fun j => by show a * x j = 0; rw [h j]; grind
  | r :: R, x, a, ⟨c, h⟩ => ⟨a * c, (sp_mul a h).to fun j => by grind⟩
theorem sp_sub {R : List Vc} {x y : Vc} (h : Sp R x) (k : Sp R y) : Sp R (fun j => x j - y j) := (sp_add h (sp_mul (-1) k)).to fun j => by grind
theorem sp_cons {R : List Vc} {r x : Vc} (h : Sp R x) : Sp (r :: R) x := ⟨0, h.to fun j => by grind⟩
theorem sp_head {R : List Vc} {r : Vc} : Sp (r :: R) r := ⟨1, sp_zero fun j => by grind⟩
theorem sp_mem : ∀ {R : List Vc} {r : Vc}, r ∈ R → Sp R r
  | _ :: R, r, h => by
    rcases List.mem_cons.mp h with e | e
    · subst e; exact sp_head
    · exact sp_cons (sp_mem e)
theorem sp_le : ∀ {R S : List Vc} {x : Vc}, (∀ r ∈ R, Sp S r) → Sp R x → Sp S x
  | [], S, x, _, h => sp_zero h
  | r :: R, S, x, k, ⟨c, h⟩ => by
    have h1 := sp_le (fun r' hr => k r' (List.mem_cons_of_mem _ hr)) h
    exact (sp_add h1 (sp_mul c (k r (List.mem_cons_self ..)))).to fun j => by grind
theorem sp_sub_of {R S : List Vc} {x : Vc} (h : ∀ r ∈ R, r ∈ S) (k : Sp R x) : Sp S x := sp_le (fun r hr => sp_mem (h r hr)) k
theorem sp_perm {R S : List Vc} {x : Vc} (h : ∀ r, r ∈ R ↔ r ∈ S) : Sp R x ↔ Sp S x := ⟨sp_sub_of fun r => (h r).mp, sp_sub_of fun r => (h r).mpr⟩
theorem sp_app {R S : List Vc} {x : Vc} : Sp (R ++ S) x ↔ ∃ y z, Sp R y ∧ Sp S z ∧ ∀ j, x j = y j + z j := by
  induction R generalizing x with
  | nil =>
    constructor
    · exact fun h => ⟨fun _ => 0, x, fun _ => rfl, h, fun j => by grind⟩
    · rintro ⟨y, z, h, k, e⟩
      exact k.to fun j => by rw [e, h j]; grind
  | cons r R ih =>
    constructor
    · rintro ⟨c, h⟩
      obtain ⟨y, z, h1, h2, e⟩ := ih.mp h
      exact ⟨fun j => y j + c * r j, z, ⟨c, h1.to fun j => by grind⟩, h2, fun j => by have := e j; grind⟩
    · rintro ⟨y, z, ⟨c, h1⟩, h2, e⟩
      exact ⟨c, ih.mpr ⟨_, z, h1, h2, fun j => by have := e j; grind⟩⟩
/-- what holds of every row and of sums and multiples holds of all -/
theorem sp_ind {R : List Vc} {P : Vc → Prop} (h0 : P fun _ => 0) (hr : ∀ r ∈ R, ∀ (c : Rat) (y : Vc), P y → P fun j => y j + c * r j) (he : ∀ x y : Vc, (∀ j, x j = y j) → P x → P y) : ∀ {x : Vc}, Sp R x → P x := by
  induction R with
  | nil => exact fun {x} h => he _ x (fun j => (h j).symm) h0
  | cons r R ih =>
    rintro x ⟨c, h⟩
    have := ih (fun r' hr' => hr r' (List.mem_cons_of_mem _ hr')) h
    exact he _ x (fun j => by grind) (hr r (List.mem_cons_self ..) c _ this)
/-! ### cells at which a new table begins -/
def Piv (V : Vc → Prop) (prev : List Nat) (c : Nat) : Prop := ∃ x, V x ∧ (∀ d ∈ prev, x d = 0) ∧ x c ≠ 0
noncomputable instance pivDec (V : Vc → Prop) (p : List Nat) (c : Nat) : Decidable (Piv V p c) := Classical.propDecidable _
noncomputable def gre (V : Vc → Prop) : List Nat → List Nat → List Nat
  | _, [] => []
  | prev, c :: cs => if Piv V prev c then c :: gre V (prev ++ [c]) cs else gre V (prev ++ [c]) cs
theorem gre_snoc (V : Vc → Prop) (c : Nat) : ∀ (cs prev : List Nat), gre V prev (cs ++ [c]) = gre V prev cs ++ (if Piv V (prev ++ cs) c then [c] else [])
  | [], prev => by
    rw [List.nil_append, List.append_nil]
    show (if Piv V prev c then c :: gre V (prev ++ [c]) [] else gre V (prev ++ [c]) []) = [] ++ _
    split <;> rfl
  | d :: cs, prev => by
    show (if Piv V prev d then d :: gre V (prev ++ [d]) (cs ++ [c]) else gre V (prev ++ [d]) (cs ++ [c])) = (if Piv V prev d then d :: gre V (prev ++ [d]) cs else gre V (prev ++ [d]) cs) ++ _
    have ih := gre_snoc V c cs (prev ++ [d])
    rw [List.append_assoc] at ih
    have e : [d] ++ cs = d :: cs := rfl
    rw [e] at ih
    by_cases h : Piv V prev d
    · rw [if_pos h, if_pos h, ih]; rfl
    · rw [if_neg h, if_neg h, ih]
theorem piv_congr {V V' : Vc → Prop} {p p' : List Nat} {c : Nat} (h : ∀ x, V x ↔ V' x) (hp : ∀ d, d ∈ p ↔ d ∈ p') : Piv V p c ↔ Piv V' p' c :=
  ⟨fun ⟨x, a, b, e⟩ => ⟨x, (h x).mp a, fun d hd => b d ((hp d).mpr hd), e⟩, fun ⟨x, a, b, e⟩ => ⟨x, (h x).mpr a, fun d hd => b d ((hp d).mp hd), e⟩⟩
theorem gre_congr {V V' : Vc → Prop} (h : ∀ x, V x ↔ V' x) : ∀ (cs : List Nat) {p p' : List Nat}, (∀ d, d ∈ p ↔ d ∈ p') → gre V p cs = gre V' p' cs
  | [], _, _, _ => rfl
  | c :: cs, p, p', hp => by
    have ih := gre_congr h cs (p := p ++ [c]) (p' := p' ++ [c]) fun d => by rw [List.mem_append, List.mem_append, hp]
    show (if Piv V p c then _ else _) = (if Piv V' p' c then _ else _)
    by_cases k : Piv V p c
    · rw [if_pos k, if_pos ((piv_congr h hp).mp k), ih]
    · rw [if_neg k, if_neg fun z => k ((piv_congr h hp).mpr z), ih]
theorem gre_len (V : Vc → Prop) : ∀ (cs prev : List Nat), (gre V prev cs).length ≤ cs.length
  | [], _ => Nat.le_refl _
  | d :: cs, prev => by
    show (if Piv V prev d then d :: gre V (prev ++ [d]) cs else gre V (prev ++ [d]) cs).length ≤ _
    have := gre_len V cs (prev ++ [d])
    split <;> simp <;> omega
/-- a table that is 0 at the kept cells, and at those before, is 0 at all that were gone through -/
theorem gre_zero {V : Vc → Prop} {x : Vc} (hx : V x) : ∀ (cs prev : List Nat), (∀ d ∈ prev, x d = 0) → (∀ d ∈ gre V prev cs, x d = 0) → ∀ d ∈ cs, x d = 0
  | [], _, _, _, d, h => by cases h
  | c :: cs, prev, hp, hk, d, h => by
    have e : gre V prev (c :: cs) = if Piv V prev c then c :: gre V (prev ++ [c]) cs else gre V (prev ++ [c]) cs := rfl
    have hc : x c = 0 := by
      by_cases k : Piv V prev c
      · rw [e, if_pos k] at hk
        exact hk c (List.mem_cons_self ..)
      · exact Classical.byContradiction fun z => k ⟨x, hx, hp, z⟩
    have hk2 : ∀ d ∈ gre V (prev ++ [c]) cs, x d = 0 := fun d hd => hk d (by
      rw [e]
      split
      · exact List.mem_cons_of_mem _ hd
      · exact hd)
    rcases List.mem_cons.mp h with z | z
    · exact z ▸ hc
    · exact gre_zero hx cs (prev ++ [c]) (fun d hd => (List.mem_append.mp hd).elim (hp d) fun y => by rw [List.mem_singleton.mp y]; exact hc) hk2 d z
end DL

set_option Elab.async false
set_option linter.all false
set_option maxRecDepth 100000
set_option maxHeartbeats 4000000
/-! small whole factors: more rows than cells have a sum of small multiples that is 0 at the cells -/
namespace DL
theorem pigeon {α β : Type} [DecidableEq α] [DecidableEq β] {f : α → β} {T : List β} : ∀ {L : List α}, L.Nodup → (∀ a ∈ L, f a ∈ T) → T.length < L.length → ∃ a b, a ∈ L ∧ b ∈ L ∧ a ≠ b ∧ f a = f b := by
  intro L hn ht hl
  refine Classical.byContradiction fun no => ?_
  have inj : ∀ a b, a ∈ L → b ∈ L → f a = f b → a = b := fun a b ha hb e => Classical.byContradiction fun z => no ⟨a, b, ha, hb, z, e⟩
  have nd : (L.map f).Nodup := by
    refine List.pairwise_map.mpr (hn.imp_of_mem fun ha hb h e => h (inj _ _ ha hb e))
  have := nodup_sub nd fun y hy => by
    obtain ⟨a, ha, rfl⟩ := List.mem_map.mp hy
    exact ht a ha
  rw [List.length_map] at this
  omega
def boxL (lo : Int) (m : Nat) : Nat → List (List Int)
  | 0 => [[]]
  | n + 1 => (List.range (m + 1)).flatMap fun x : Nat => (boxL lo m n).map fun l => (lo + (x : Int)) :: l
theorem boxL_mem {lo : Int} {m : Nat} : ∀ {n : Nat} {l : List Int}, l ∈ boxL lo m n ↔ l.length = n ∧ ∀ x ∈ l, lo ≤ x ∧ x ≤ lo + m
  | 0, l => by
    show l ∈ [[]] ↔ _
    rw [List.mem_singleton]
    constructor
    · rintro rfl
      exact ⟨rfl, fun x h => by cases h⟩
    · exact fun h => List.eq_nil_of_length_eq_zero h.1
  | n + 1, l => by
    show l ∈ (List.range (m + 1)).flatMap _ ↔ _
    rw [List.mem_flatMap]
    constructor
    · rintro ⟨x, hx, h⟩
      obtain ⟨l', h', rfl⟩ := List.mem_map.mp h
      obtain ⟨e, k⟩ := boxL_mem.mp h'
      have := List.mem_range.mp hx
      refine ⟨by rw [List.length_cons, e], fun y hy => ?_⟩
      rcases List.mem_cons.mp hy with z | z
      · omega
      · exact k y z
    · rintro ⟨e, k⟩
      cases l with
      | nil => cases e
      | cons y l =>
        have hy := k y (List.mem_cons_self ..)
        refine ⟨(y - lo).toNat, List.mem_range.mpr (by omega), List.mem_map.mpr ⟨l, boxL_mem.mpr ⟨by simpa using e, fun z hz => k z (List.mem_cons_of_mem _ hz)⟩, ?_⟩⟩
        have : lo + ((y - lo).toNat : Int) = y := by omega
        rw [this]
theorem boxL_len {lo : Int} {m : Nat} : ∀ n : Nat, (boxL lo m n).length = (m + 1) ^ n
  | 0 => rfl
  | n + 1 => by
    have ih := boxL_len (lo := lo) (m := m) n
    show ((List.range (m + 1)).flatMap _).length = _
    have : ∀ k : Nat, ((List.range k).flatMap fun x : Nat => (boxL lo m n).map fun l => (lo + (x : Int)) :: l).length = k * (m + 1) ^ n := fun k => by
      induction k with
      | zero => simp
      | succ k ihk => rw [List.range_succ, List.flatMap_append, List.length_append, ihk]; simp [ih]; rw [Nat.add_mul]; omega
    rw [this, Nat.pow_succ, Nat.mul_comm]
theorem boxL_nodup {lo : Int} {m : Nat} : ∀ n : Nat, (boxL lo m n).Nodup
  | 0 => by show [[]].Nodup; simp
  | n + 1 => by
    have ih := boxL_nodup (lo := lo) (m := m) n
    show ((List.range (m + 1)).flatMap _).Nodup
    have : ∀ k : Nat, ((List.range k).flatMap fun x : Nat => (boxL lo m n).map fun l => (lo + (x : Int)) :: l).Nodup := fun k => by
      induction k with
      | zero => simp
      | succ k ihk =>
        rw [List.range_succ, List.flatMap_append]
        refine List.nodup_append.mpr ⟨ihk, ?_, ?_⟩
        · simp only [List.flatMap_cons, List.flatMap_nil, List.append_nil]
          exact List.pairwise_map.mpr (ih.imp fun h e => h (List.cons.inj e).2)
        · intro a ha b hb e
          subst e
          obtain ⟨x, hx, h1⟩ := List.mem_flatMap.mp ha
          obtain ⟨l1, _, e1⟩ := List.mem_map.mp h1
          simp only [List.flatMap_cons, List.flatMap_nil, List.append_nil] at hb
          obtain ⟨l2, _, e2⟩ := List.mem_map.mp hb
          have := List.mem_range.mp hx
          rw [← e1] at e2
          have := (List.cons.inj e2).1
          omega
    exact this _
/-- sums of whole multiples -/
def cmb : List Int → List (List Int) → Nat → Int
  | c :: cs, t :: ts, j => c * t.getD j 0 + cmb cs ts j
  | _, _, _ => 0
theorem cmb_sub : ∀ (a b : List Int) (T : List (List Int)) (j : Nat), a.length = T.length → b.length = T.length → cmb (List.zipWith (· - ·) a b) T j = cmb a T j - cmb b T j
  | [], [], [], j, _, _ => rfl
  | x :: a, y :: b, t :: T, j, h, k => by
    have ih := cmb_sub a b T j (by simpa using h) (by simpa using k)
    show (x - y) * t.getD j 0 + cmb (List.zipWith (· - ·) a b) T j = (x * t.getD j 0 + cmb a T j) - (y * t.getD j 0 + cmb b T j)
    rw [ih, Int.sub_mul]
    omega
  | [], _, _ :: _, _, h, _ => by cases h
  | _ :: _, _, [], _, h, _ => by cases h
  | _, [], _ :: _, _, _, h => by cases h
  | _, _ :: _, [], _, _, h => by cases h
theorem cmb_bound {B M : Nat} {j : Nat} : ∀ (c : List Int) (T : List (List Int)), (∀ x ∈ c, x.natAbs ≤ B) → (∀ t ∈ T, (t.getD j 0).natAbs ≤ M) → (cmb c T j).natAbs ≤ T.length * (B * M)
  | [], T, _, _ => by cases T <;> exact Nat.zero_le _
  | _ :: _, [], _, _ => Nat.zero_le _
  | x :: c, t :: T, h, k => by
    have ih := cmb_bound c T (fun y hy => h y (List.mem_cons_of_mem _ hy)) fun y hy => k y (List.mem_cons_of_mem _ hy)
    have h1 := h x (List.mem_cons_self ..)
    have h2 := k t (List.mem_cons_self ..)
    have h3 : (x * t.getD j 0).natAbs ≤ B * M := by rw [Int.natAbs_mul]; exact Nat.mul_le_mul h1 h2
    show (x * t.getD j 0 + cmb c T j).natAbs ≤ _
    rw [List.length_cons, Nat.add_mul]
    omega
theorem zip_sub_mem : ∀ {a b : List Int} {x : Int}, x ∈ List.zipWith (· - ·) a b → ∃ y z, y ∈ a ∧ z ∈ b ∧ x = y - z
  | y :: a, z :: b, x, h => by
    rcases List.mem_cons.mp h with e | e
    · exact ⟨y, z, List.mem_cons_self .., List.mem_cons_self .., e⟩
    · obtain ⟨y', z', h1, h2, e⟩ := zip_sub_mem e
      exact ⟨y', z', List.mem_cons_of_mem _ h1, List.mem_cons_of_mem _ h2, e⟩
theorem zip_sub_ne : ∀ {a b : List Int}, a.length = b.length → a ≠ b → ∃ x ∈ List.zipWith (· - ·) a b, x ≠ 0
  | [], [], _, h => absurd rfl h
  | y :: a, z :: b, l, h => by
    by_cases e : y = z
    · obtain ⟨x, hx, n⟩ := zip_sub_ne (a := a) (b := b) (by simpa using l) (fun q => h (by rw [e, q]))
      exact ⟨x, List.mem_cons_of_mem _ hx, n⟩
    · exact ⟨y - z, List.mem_cons_self .., by omega⟩
theorem siegel {T : List (List Int)} {ps : List Nat} {M : Nat} (hM : ∀ t ∈ T, ∀ p ∈ ps, (t.getD p 0).natAbs ≤ M) (hn : ps.length < T.length) :
    ∃ c : List Int, c.length = T.length ∧ (∃ x ∈ c, x ≠ 0) ∧ (∀ x ∈ c, x.natAbs ≤ (2 * T.length * M + 1) ^ ps.length) ∧ ∀ p ∈ ps, cmb c T p = 0 := by
  let n := T.length
  let q := 2 * T.length * M + 1
  let B := q ^ ps.length
  let m := 2 * (T.length * (B * M))
  have key : (boxL (-(T.length * (B * M) : Nat)) m ps.length).length < (boxL 0 B n).length := by
    rw [boxL_len, boxL_len]
    have h1 : m + 1 ≤ q * (B + 1) := by
      show 2 * (T.length * (B * M)) + 1 ≤ (2 * T.length * M + 1) * (B + 1)
      have e : 2 * (T.length * (B * M)) = 2 * T.length * M * B := by
        rw [← Nat.mul_assoc, ← Nat.mul_assoc, Nat.mul_right_comm (2 * T.length) B M]
      rw [e, Nat.add_mul, Nat.mul_add]
      omega
    have h2 : (m + 1) ^ ps.length ≤ q ^ ps.length * (B + 1) ^ ps.length := by
      rw [← Nat.mul_pow]
      exact Nat.pow_le_pow_left h1 _
    have h3 : q ^ ps.length * (B + 1) ^ ps.length < (B + 1) * (B + 1) ^ ps.length := Nat.mul_lt_mul_of_pos_right (Nat.lt_succ_self _) (Nat.pow_pos (Nat.succ_pos _))
    have h4 : (B + 1) * (B + 1) ^ ps.length ≤ (B + 1) ^ n := by
      rw [Nat.mul_comm, ← Nat.pow_succ]
      exact Nat.pow_le_pow_right (Nat.succ_pos _) hn
    exact Nat.lt_of_le_of_lt h2 (Nat.lt_of_lt_of_le h3 h4)
  obtain ⟨a, b, ha, hb, ne, e⟩ := pigeon (f := fun c => ps.map fun p => cmb c T p) (boxL_nodup n) (fun a ha => by
    obtain ⟨l, k⟩ := boxL_mem.mp ha
    refine boxL_mem.mpr ⟨List.length_map _, fun x hx => ?_⟩
    obtain ⟨p, hp, rfl⟩ := List.mem_map.mp hx
    have := cmb_bound (B := B) (M := M) (j := p) a T (fun y hy => by have := k y hy; omega) fun t ht => hM t ht p hp
    show -((T.length * (B * M) : Nat) : Int) ≤ cmb a T p ∧ cmb a T p ≤ -((T.length * (B * M) : Nat) : Int) + ((2 * (T.length * (B * M)) : Nat) : Int)
    omega) key
  obtain ⟨la, ka⟩ := boxL_mem.mp ha
  obtain ⟨lb, kb⟩ := boxL_mem.mp hb
  refine ⟨List.zipWith (· - ·) a b, by rw [List.length_zipWith, la, lb]; exact Nat.min_self _, zip_sub_ne (la.trans lb.symm) ne, fun x hx => ?_, fun p hp => ?_⟩
  · obtain ⟨y, z, hy, hz, rfl⟩ := zip_sub_mem hx
    have h1 := ka y hy
    have h2 := kb z hz
    show (y - z).natAbs ≤ B
    omega
  · rw [cmb_sub a b T p la lb]
    have := List.map_inj_left.mp e p hp
    have h : cmb a T p = cmb b T p := this
    omega
end DL

set_option Elab.async false
set_option linter.all false
set_option maxRecDepth 100000
set_option maxHeartbeats 4000000
/-! clearing rows, cell by cell: what stands still -/
namespace DL
open PySem L2
def vi (l : List Int) : Vc := fun j => ((l.getD j 0 : Int) : Rat)
theorem vi_zero {l : List Int} {j : Nat} : vi l j = 0 ↔ l.getD j 0 = 0 := by
  unfold vi
  exact ⟨fun h => by exact_mod_cast h, fun h => by rw [h]; rfl⟩
theorem sp_cmb : ∀ (c : List Int) (T : List (List Int)), Sp (T.map vi) (fun j => ((cmb c T j : Int) : Rat))
  | [], T => sp_zero fun j => by cases T <;> rfl
  | _ :: _, [] => fun j => rfl
  | x :: c, t :: T => ⟨(x : Rat), (sp_cmb c T).to fun j => by
      show ((cmb c T j : Int) : Rat) = ((x * t.getD j 0 + cmb c T j : Int) : Rat) - (x : Rat) * vi t j
      unfold vi
      rw [Rat.intCast_add, Rat.intCast_mul]
      grind⟩
/-- no sum of whole multiples is 0 but that without any -/
def Ind (S : List (List Int)) : Prop := ∀ c : List Int, c.length = S.length → (∀ j, cmb c S j = 0) → ∀ x ∈ c, x = 0
theorem ind_nil : Ind [] := fun c h _ x hx => by rw [List.eq_nil_of_length_eq_zero h] at hx; cases hx
theorem cmb_snoc : ∀ (c : List Int) (S : List (List Int)) (d : Int) (o : List Int) (j : Nat), c.length = S.length → cmb (c ++ [d]) (S ++ [o]) j = cmb c S j + d * o.getD j 0
  | [], [], d, o, j, _ => by show d * o.getD j 0 + 0 = 0 + _; omega
  | x :: c, s :: S, d, o, j, h => by
    have := cmb_snoc c S d o j (by simpa using h)
    show x * s.getD j 0 + cmb (c ++ [d]) (S ++ [o]) j = x * s.getD j 0 + cmb c S j + _
    rw [this]
    omega
  | [], _ :: _, _, _, _, h => by cases h
  | _ :: _, [], _, _, _, h => by cases h
theorem ind_snoc {S : List (List Int)} {o : List Int} (h : Ind S) (n : ¬ Sp (S.map vi) (vi o)) : Ind (S ++ [o]) := fun c hl hz => by
  rcases List.eq_nil_or_concat c with rfl | ⟨c', d, rfl⟩
  · exact fun x hx => by cases hx
  · rw [List.concat_eq_append] at hl hz ⊢
    have l2 : c'.length = S.length := by simpa using hl
    have hz2 : ∀ j, cmb c' S j + d * o.getD j 0 = 0 := fun j => by rw [← cmb_snoc c' S d o j l2]; exact hz j
    by_cases hd : d = 0
    · subst hd
      have := h c' l2 fun j => by have := hz2 j; omega
      intro x hx
      rcases List.mem_append.mp hx with e | e
      · exact this x e
      · exact List.mem_singleton.mp e
    · refine absurd ?_ n
      have q := sp_mul (-(1 / (d : Rat))) (sp_cmb c' S)
      refine q.to fun j => ?_
      have hj := hz2 j
      have hq : ((cmb c' S j : Int) : Rat) + (d : Rat) * ((o.getD j 0 : Int) : Rat) = 0 := by rw [← Rat.intCast_mul, ← Rat.intCast_add, hj]; rfl
      have dq : (d : Rat) ≠ 0 := fun z => hd (by exact_mod_cast z)
      show -(1 / (d : Rat)) * ((cmb c' S j : Int) : Rat) = ((o.getD j 0 : Int) : Rat)
      grind
/-- rows and cells in pairs: each row is not 0 at its own cell alone -/
def Dg : List Vc → List Nat → Prop
  | [], [] => True
  | l :: L, k :: K => l k ≠ 0 ∧ (∀ m ∈ L, m k = 0) ∧ (∀ d ∈ K, l d = 0) ∧ Dg L K
  | _, _ => False
theorem dg_len : ∀ {L : List Vc} {K : List Nat}, Dg L K → L.length = K.length
  | [], [], _ => rfl
  | _ :: L, _ :: K, h => by rw [List.length_cons, List.length_cons, dg_len h.2.2.2]
  | [], _ :: _, h => h.elim
  | _ :: _, [], h => h.elim
theorem sp_at {R : List Vc} {d : Nat} (h : ∀ r ∈ R, r d = 0) {x : Vc} (hx : Sp R x) : x d = 0 :=
  sp_ind (P := fun x => x d = 0) rfl (fun r hr c y hy => by show y d + c * r d = 0; rw [hy, h r hr]; grind) (fun x y e hx => by rw [← e]; exact hx) hx
theorem dg_zero : ∀ {L : List Vc} {K : List Nat} {y : Vc}, Dg L K → Sp L y → (∀ k ∈ K, y k = 0) → ∀ j, y j = 0
  | [], [], _, _, h, _ => h
  | l :: L, k :: K, y, ⟨h1, h2, h3, h4⟩, ⟨c, hs⟩, hk => by
    have e1 := sp_at h2 hs
    have e2 := hk k (List.mem_cons_self ..)
    have hc : c = 0 := by
      have : c * l k = 0 := by grind
      rcases Rat.mul_eq_zero.mp this with z | z
      · exact z
      · exact absurd z h1
    subst hc
    have hs2 : Sp L y := hs.to fun j => by grind
    exact dg_zero h4 hs2 fun d hd => hk d (List.mem_cons_of_mem _ hd)
  | [], _ :: _, _, h, _, _ => h.elim
  | _ :: _, [], _, h, _, _ => h.elim
theorem dg_snoc : ∀ {L : List Vc} {K : List Nat} {l : Vc} {k : Nat}, Dg L K → (∀ m ∈ L, m k = 0) → l k ≠ 0 → (∀ d ∈ K, l d = 0) → Dg (L ++ [l]) (K ++ [k])
  | [], [], l, k, _, _, h, _ => by
    show l k ≠ 0 ∧ (∀ m ∈ ([] : List Vc), m k = 0) ∧ (∀ d ∈ ([] : List Nat), l d = 0) ∧ True
    exact ⟨h, fun m hm => (List.not_mem_nil hm).elim, fun d hd => (List.not_mem_nil hd).elim, trivial⟩
  | m :: L, d :: K, l, k, ⟨a, b, c, e⟩, h1, h2, h3 => by
    refine ⟨a, fun x hx => ?_, fun x hx => ?_, dg_snoc e (fun x hx => h1 x (List.mem_cons_of_mem _ hx)) h2 fun x hx => h3 x (List.mem_cons_of_mem _ hx)⟩
    · rcases List.mem_append.mp hx with z | z
      · exact b x z
      · rw [List.mem_singleton.mp z]; exact h3 d (List.mem_cons_self ..)
    · rcases List.mem_append.mp hx with z | z
      · exact c x z
      · rw [List.mem_singleton.mp z]; exact h1 m (List.mem_cons_self ..)
  | [], _ :: _, _, _, h, _, _, _ => h.elim
  | _ :: _, [], _, _, h, _, _, _ => h.elim
/-- a multiple of a row and a multiple of the lead, 0 at the cell -/
def Red (l : Vc) (c : Nat) (r r' : Vc) : Prop := (∃ a b : Rat, a ≠ 0 ∧ ∀ j, r' j = a * r j - b * l j) ∧ r' c = 0
theorem dg_red {l : Vc} {c : Nat} : ∀ {L L' : List Vc} {K : List Nat}, Paired (Red l c) L L' → (∀ d ∈ K, l d = 0) → Dg L K → Dg L' K
  | _, _, [], .nil, _, h => h
  | _, _, k :: K, .cons (a := m) (b := m') (l₁ := L) (l₂ := L') ⟨⟨a, b, ha, e⟩, _⟩ t, hl, ⟨h1, h2, h3, h4⟩ => by
    have hk := hl k (List.mem_cons_self ..)
    refine ⟨fun z => ?_, fun m2 hm2 => ?_, fun d hd => ?_, dg_red t (fun d hd => hl d (List.mem_cons_of_mem _ hd)) h4⟩
    · rw [e, hk] at z
      have : a * m k = 0 := by grind
      rcases Rat.mul_eq_zero.mp this with y | y
      · exact ha y
      · exact h1 y
    · have : ∀ {A A' : List Vc}, Paired (Red l c) A A' → (∀ x ∈ A, x k = 0) → ∀ x ∈ A', x k = 0 := by
        intro A A' hp
        induction hp with
        | nil => exact fun _ x hx => by cases hx
        | cons h t ih =>
          obtain ⟨⟨a, b, ha, e⟩, _⟩ := h
          intro hA x hx
          rcases List.mem_cons.mp hx with z | z
          · rw [z, e, hk, hA _ (List.mem_cons_self ..)]; grind
          · exact ih (fun y hy => hA y (List.mem_cons_of_mem _ hy)) x z
      exact this t h2 m2 hm2
    · rw [e, hl d (List.mem_cons_of_mem _ hd), h3 d hd]; grind
  | _, _, [], .cons .., _, h => h.elim
  | _, _, _ :: _, .nil, _, h => h.elim
end DL

set_option Elab.async false
set_option linter.all false
set_option maxRecDepth 100000
set_option maxHeartbeats 4000000
/-! clearing rows: the state after each cell -/
namespace DL
open PySem L2
/-- o leads to r, but for a multiple other than 0 and a sum of leads -/
def Fr (L : List Vc) (r o : List Int) : Prop := ∃ (c : Rat) (y : Vc), c ≠ 0 ∧ Sp L y ∧ ∀ j, vi r j = c * vi o j + y j
structure CI (rows : List (List Int)) (done K : List Nat) (L : List Vc) (R S O : List (List Int)) : Prop where
  dg : Dg L K
  ro : Paired (Fr L) R O
  span : ∀ x, Sp (L ++ R.map vi) x ↔ Sp (rows.map vi) x
  spS : ∀ x, Sp L x ↔ Sp (S.map vi) x
  ks : S.length = K.length
  zero : ∀ r ∈ R, ∀ d ∈ done, r.getD d 0 = 0
  sub : ∀ k ∈ K, k ∈ done
  ind : Ind S
  mS : ∀ s ∈ S, s ∈ rows
  mO : ∀ o ∈ O, o ∈ rows
  gr : K = gre (Sp (rows.map vi)) [] done
theorem paired_mono {α β : Type} {F G : α → β → Prop} (h : ∀ a b, F a b → G a b) : ∀ {l : List α} {m : List β}, Paired F l m → Paired G l m
  | _, _, .nil => .nil
  | _, _, .cons a t => .cons (h _ _ a) (paired_mono h t)
theorem paired_split {α β : Type} {F : α → β → Prop} {r : α} : ∀ {R1 R2 : List α} {O : List β}, Paired F (R1 ++ r :: R2) O → ∃ O1 o O2, O = O1 ++ o :: O2 ∧ Paired F R1 O1 ∧ F r o ∧ Paired F R2 O2
  | [], R2, _, .cons h t => ⟨[], _, _, rfl, .nil, h, t⟩
  | x :: R1, R2, _, .cons h t => by
    obtain ⟨O1, o, O2, e, a, b, c⟩ := paired_split (R1 := R1) t
    exact ⟨_ :: O1, o, O2, by rw [e]; rfl, .cons h a, b, c⟩
theorem paired_app {α β : Type} {F : α → β → Prop} : ∀ {l l2 : List α} {m m2 : List β}, Paired F l m → Paired F l2 m2 → Paired F (l ++ l2) (m ++ m2)
  | _, _, _, _, .nil, k => k
  | _, _, _, _, .cons h t, k => .cons h (paired_app t k)
theorem paired_mem {α β : Type} {F : α → β → Prop} : ∀ {l : List α} {m : List β}, Paired F l m → ∀ b ∈ m, ∃ a ∈ l, F a b
  | _, _, .cons h t, b, hb => by
    rcases List.mem_cons.mp hb with e | e
    · exact ⟨_, List.mem_cons_self .., e ▸ h⟩
    · obtain ⟨a, ha, k⟩ := paired_mem t b e
      exact ⟨a, List.mem_cons_of_mem _ ha, k⟩
theorem paired_memL {α β : Type} {F : α → β → Prop} : ∀ {l : List α} {m : List β}, Paired F l m → ∀ a ∈ l, ∃ b ∈ m, F a b
  | _, _, .cons h t, a, ha => by
    rcases List.mem_cons.mp ha with e | e
    · exact ⟨_, List.mem_cons_self .., e ▸ h⟩
    · obtain ⟨b, hb, k⟩ := paired_memL t a e
      exact ⟨b, List.mem_cons_of_mem _ hb, k⟩
theorem ci_start {rows : List (List Int)} : CI rows [] [] [] rows [] rows where
  dg := trivial
  ro := by
    have : ∀ l : List (List Int), Paired (Fr []) l l := fun l => by
      induction l with
      | nil => exact .nil
      | cons a l ih => exact .cons ⟨1, fun _ => 0, by decide, fun _ => rfl, fun j => by grind⟩ ih
    exact this rows
  span := fun x => Iff.rfl
  spS := fun x => Iff.rfl
  ks := rfl
  zero := fun r _ d h => (List.not_mem_nil h).elim
  sub := fun k h => (List.not_mem_nil h).elim
  ind := ind_nil
  mS := fun s h => (List.not_mem_nil h).elim
  mO := fun _ h => h
  gr := rfl
section
variable {rows : List (List Int)} {done K : List Nat} {L L' : List Vc} {R S O R1 R2 R' : List (List Int)} {c : Nat} {l : List Int}
theorem CI.inV (I : CI rows done K L R S O) {x : Vc} (h : Sp (rows.map vi) x) (hz : ∀ d ∈ done, x d = 0) : Sp (R.map vi) x := by
  obtain ⟨y, z, hy, hz', e⟩ := sp_app.mp ((I.span x).mpr h)
  have z0 : ∀ d ∈ done, z d = 0 := fun d hd => sp_at (fun r hr => by
    obtain ⟨r', h', rfl⟩ := List.mem_map.mp hr
    exact vi_zero.mpr (I.zero r' h' d hd)) hz'
  have y0 := dg_zero I.dg hy fun k hk => by
    have h1 := hz k (I.sub k hk)
    have h2 := z0 k (I.sub k hk)
    have h3 := e k
    grind
  exact hz'.to fun j => by have := e j; have := y0 j; grind
theorem ci_skip (I : CI rows done K L R S O) (h : ∀ r ∈ R, r.getD c 0 = 0) : CI rows (done ++ [c]) K L R S O where
  dg := I.dg
  ro := I.ro
  span := I.span
  spS := I.spS
  ks := I.ks
  zero := fun r hr d hd => (List.mem_append.mp hd).elim (I.zero r hr d) fun z => by rw [List.mem_singleton.mp z]; exact h r hr
  sub := fun k hk => List.mem_append_left _ (I.sub k hk)
  ind := I.ind
  mS := I.mS
  mO := I.mO
  gr := by
    rw [gre_snoc, List.nil_append, ← I.gr, if_neg, List.append_nil]
    rintro ⟨x, h1, h2, h3⟩
    exact h3 (sp_at (fun r hr => by
      obtain ⟨r', h', rfl⟩ := List.mem_map.mp hr
      exact vi_zero.mpr (h r' h')) (I.inV h1 h2))
theorem red_span {l : Vc} {c : Nat} : ∀ {A A' : List Vc}, Paired (Red l c) A A' → ∀ x, Sp (A' ++ [l]) x ↔ Sp (A ++ [l]) x
  | _, _, .nil, _ => Iff.rfl
  | _, _, .cons (a := r) (b := r') (l₁ := A) (l₂ := A') ⟨⟨a, b, ha, e⟩, _⟩ t, x => by
    have ih := red_span t
    have ml : ∀ {B : List Vc}, Sp (B ++ [l]) l := fun {B} => sp_mem (List.mem_append_right _ (List.mem_singleton.mpr rfl))
    constructor
    · refine fun h => sp_le (fun q hq => ?_) h
      rcases List.mem_cons.mp hq with z | z
      · rw [z]
        exact (sp_sub (sp_mul a (sp_head (R := A ++ [l]) (r := r))) (sp_mul b (sp_cons ml))).to fun j => (e j).symm
      · exact sp_cons ((ih q).mp (sp_mem z))
    · refine fun h => sp_le (fun q hq => ?_) h
      rcases List.mem_cons.mp hq with z | z
      · rw [z]
        exact (sp_mul (1 / a) (sp_add (sp_head (R := A' ++ [l]) (r := r')) (sp_mul b (sp_cons ml)))).to fun j => by
          show 1 / a * (r' j + b * l j) = r j
          rw [e j]
          grind
      · exact sp_cons ((ih q).mpr (sp_mem z))
theorem red_fr {L' : List Vc} {r r' o l : List Int} {c : Nat} (hl : Sp L' (vi l)) (h : Red (vi l) c (vi r) (vi r')) (k : Fr L' r o) : Fr L' r' o := by
  obtain ⟨⟨a, b, ha, e⟩, _⟩ := h
  obtain ⟨d, y, hd, hy, e2⟩ := k
  exact ⟨a * d, fun j => a * y j - b * vi l j, fun z => (Rat.mul_eq_zero.mp z).elim ha hd, sp_sub (sp_mul a hy) (sp_mul b hl), fun j => by rw [e, e2]; grind⟩
theorem ci_take (I : CI rows done K L (R1 ++ l :: R2) S O) (hc : l.getD c 0 ≠ 0) (hL : Paired (Red (vi l) c) L L') (hR : Paired (fun r r' => Red (vi l) c (vi r) (vi r')) (R1 ++ R2) R') :
    ∃ o O', o ∈ rows ∧ CI rows (done ++ [c]) (K ++ [c]) (L' ++ [vi l]) R' (S ++ [o]) O' := by
  obtain ⟨O1, o, O2, rfl, p1, po, p2⟩ := paired_split I.ro
  have lz : ∀ d ∈ done, vi l d = 0 := fun d hd => vi_zero.mpr (I.zero l (List.mem_append_right _ (List.mem_cons_self ..)) d hd)
  have lc : vi l c ≠ 0 := fun z => hc (vi_zero.mp z)
  have hK : ∀ d ∈ K, vi l d = 0 := fun d hd => lz d (I.sub d hd)
  have sL : ∀ x, Sp (L' ++ [vi l]) x ↔ Sp (L ++ [vi l]) x := red_span hL
  have mem1 : Sp (L' ++ [vi l]) (vi l) := sp_mem (List.mem_append_right _ (List.mem_singleton.mpr rfl))
  have up : ∀ {x}, Sp L x → Sp (L' ++ [vi l]) x := fun {x} h => (sL x).mpr (sp_sub_of (fun r hr => List.mem_append_left _ hr) h)
  have frup : ∀ r o', Fr L r o' → Fr (L' ++ [vi l]) r o' := fun r o' ⟨d, y, h1, h2, h3⟩ => ⟨d, y, h1, up h2, h3⟩
  obtain ⟨d, y, hd, hy, e⟩ := po
  have oS : Sp (L ++ [vi l]) (vi o) := by
    have h1 : Sp (L ++ [vi l]) (vi l) := sp_mem (List.mem_append_right _ (List.mem_singleton.mpr rfl))
    have h2 : Sp (L ++ [vi l]) y := sp_sub_of (fun r hr => List.mem_append_left _ hr) hy
    exact (sp_mul (1 / d) (sp_sub h1 h2)).to fun j => by
      show 1 / d * (vi l j - y j) = vi o j
      rw [e j]
      grind
  have no : ¬ Sp (S.map vi) (vi o) := fun z => by
    have z1 := (I.spS _).mpr z
    have z2 : Sp L (vi l) := (sp_add (sp_mul d z1) hy).to fun j => (e j).symm
    exact lc (dg_zero I.dg z2 hK c)
  refine ⟨o, O1 ++ O2, I.mO o (List.mem_append_right _ (List.mem_cons_self ..)), ?_⟩
  have L'0 : ∀ m ∈ L', m c = 0 := fun m hm => by
    obtain ⟨r, _, h⟩ := paired_mem hL m hm
    exact h.2
  exact {
    dg := dg_snoc (dg_red hL hK I.dg) L'0 lc hK
    ro := by
      have q : Paired (Fr (L' ++ [vi l])) (R1 ++ R2) (O1 ++ O2) := paired_app (paired_mono frup p1) (paired_mono frup p2)
      have : ∀ {A B : List (List Int)} {A' : List (List Int)}, Paired (fun r r' => Red (vi l) c (vi r) (vi r')) A A' → Paired (Fr (L' ++ [vi l])) A B → Paired (Fr (L' ++ [vi l])) A' B := by
        intro A B A' h1
        induction h1 generalizing B with
        | nil => exact fun h => h
        | cons a t ih =>
          intro h
          cases h with
          | cons b t2 => exact .cons (red_fr mem1 a b) (ih t2)
      exact this hR q
    span := fun x => by
      have hR2 : Paired (Red (vi l) c) ((R1 ++ R2).map vi) (R'.map vi) := by
        have : ∀ {A A' : List (List Int)}, Paired (fun r r' => Red (vi l) c (vi r) (vi r')) A A' → Paired (Red (vi l) c) (A.map vi) (A'.map vi) := by
          intro A A' h
          induction h with
          | nil => exact .nil
          | cons a t ih => exact .cons a ih
        exact this hR
      have e1 := red_span (paired_app hL hR2) x
      rw [← I.span x]
      refine Iff.trans ?_ (e1.trans ?_)
      · exact sp_perm fun r => by simp only [List.mem_append, List.mem_singleton]; exact ⟨fun h => by rcases h with (h | h) | h <;> simp [h], fun h => by rcases h with (h | h) | h <;> simp [h]⟩
      · exact sp_perm fun r => by
          simp only [List.mem_append, List.map_append, List.map_cons, List.mem_cons, List.not_mem_nil, or_false]
          grind
    spS := fun x => by
      rw [sL, List.map_append]
      constructor
      · refine fun h => sp_le (fun q hq => ?_) h
        rcases List.mem_append.mp hq with z | z
        · exact sp_sub_of (fun r hr => List.mem_append_left _ hr) ((I.spS q).mp (sp_mem z))
        · rw [List.mem_singleton.mp z]
          have h1 : Sp (S.map vi ++ [o].map vi) (vi o) := sp_mem (List.mem_append_right _ (List.mem_singleton.mpr rfl))
          have h2 : Sp (S.map vi ++ [o].map vi) y := sp_sub_of (fun r hr => List.mem_append_left _ hr) ((I.spS y).mp hy)
          exact (sp_add (sp_mul d h1) h2).to fun j => (e j).symm
      · refine fun h => sp_le (fun q hq => ?_) h
        rcases List.mem_append.mp hq with z | z
        · exact sp_sub_of (fun r hr => List.mem_append_left _ hr) ((I.spS q).mpr (sp_mem z))
        · rw [show q = vi o from by simpa using z]
          exact oS
    ks := by rw [List.length_append, List.length_append, I.ks]; rfl
    zero := fun r hr d hd => by
      obtain ⟨r0, h0, ⟨⟨a, b, ha, er⟩, hz⟩⟩ := paired_mem hR r hr
      have h0' : r0 ∈ R1 ++ l :: R2 := (List.mem_append.mp h0).elim (fun z => List.mem_append_left _ z) fun z => List.mem_append_right _ (List.mem_cons_of_mem _ z)
      rcases List.mem_append.mp hd with z | z
      · refine vi_zero.mp ?_
        rw [er, vi_zero.mpr (I.zero r0 h0' d z), lz d z]
        grind
      · rw [List.mem_singleton.mp z]
        exact vi_zero.mp hz
    sub := fun k hk => (List.mem_append.mp hk).elim (fun z => List.mem_append_left _ (I.sub k z)) fun z => List.mem_append_right _ z
    ind := ind_snoc I.ind no
    mS := fun s hs => (List.mem_append.mp hs).elim (I.mS s) fun z => by rw [List.mem_singleton.mp z]; exact I.mO o (List.mem_append_right _ (List.mem_cons_self ..))
    mO := fun q hq => I.mO q ((List.mem_append.mp hq).elim (fun z => List.mem_append_left _ z) fun z => List.mem_append_right _ (List.mem_cons_of_mem _ z))
    gr := by
      rw [gre_snoc, List.nil_append, ← I.gr, if_pos]
      refine ⟨vi l, (I.span _).mp (sp_mem (List.mem_append_right _ (List.mem_map.mpr ⟨l, List.mem_append_right _ (List.mem_cons_self ..), rfl⟩))), lz, lc⟩ }
end
/-! ### how large the numbers are -/
def bnd (n M : Nat) : Nat := n * ((2 * n * M + 1) ^ (n - 1) * M)
theorem small_of {T : List (List Int)} {ps : List Nat} {M : Nat} {v : List Int} (hM : ∀ t ∈ T, ∀ j, (t.getD j 0).natAbs ≤ M) (hn : ps.length < T.length) (hi : Ind T) (hv : gl v = 1) (h1 : ∀ x, Sp (T.map vi) x → (∀ p ∈ ps, x p = 0) → ∃ m : Rat, ∀ j, x j = m * vi v j) (j : Nat) :
    (v.getD j 0).natAbs ≤ bnd T.length M := by
  obtain ⟨c, l1, ⟨x0, hx0, nx0⟩, hB, hz⟩ := siegel (T := T) (ps := ps) (M := M) (fun t ht p _ => hM t ht p) hn
  have nz : ∃ i, cmb c T i ≠ 0 := Classical.byContradiction fun z => nx0 (hi c l1 (fun i => Classical.byContradiction fun y => z ⟨i, y⟩) x0 hx0)
  obtain ⟨i0, hi0⟩ := nz
  obtain ⟨m, hm⟩ := h1 _ (sp_cmb c T) fun p hp => by
    show ((cmb c T p : Int) : Rat) = 0
    rw [hz p hp]; rfl
  have hm' : ∀ i, ((cmb c T i : Int) : Rat) = m * ((v.getD i 0 : Int) : Rat) := hm
  have m0 : m ≠ 0 := fun z => hi0 (by
    have := hm' i0
    rw [z] at this
    have h : ((cmb c T i0 : Int) : Rat) = 0 := by rw [this]; grind
    exact_mod_cast h)
  have mult : ∀ i, m.num * v.getD i 0 = cmb c T i * (m.den : Int) := fun i => by
    have h := hm' i
    have hd : ((m.den : Int) : Rat) ≠ 0 := by
      have := m.den_nz
      exact_mod_cast this
    have e : m * ((m.den : Int) : Rat) = (m.num : Rat) := by
      have := Rat.mkRat_eq_div m.num m.den
      rw [Rat.mkRat_self] at this
      have hd2 : (m.den : Rat) ≠ 0 := by exact_mod_cast m.den_nz
      have e3 : ((m.den : Int) : Rat) = (m.den : Rat) := rfl
      rw [e3]
      generalize (m.num : Rat) = A at this ⊢
      generalize (m.den : Rat) = D at this hd2 ⊢
      rw [this]
      grind
    have : (m.num : Rat) * ((v.getD i 0 : Int) : Rat) = ((cmb c T i : Int) : Rat) * ((m.den : Int) : Rat) := by
      rw [h, ← e]
      grind
    exact_mod_cast this
  have den1 : m.den = 1 := by
    have : m.den ∣ gl v := gl_dvd.mpr fun x hx => by
      obtain ⟨i, hi, rfl⟩ := List.mem_iff_getElem.mp hx
      have h := mult i
      rw [List.getD_eq_getElem?_getD, List.getElem?_eq_getElem hi, Option.getD_some] at h
      have hdv : (m.den : Int) ∣ m.num * v[i] := ⟨cmb c T i, by rw [h, Int.mul_comm]⟩
      have cop : Int.gcd (m.den : Int) m.num = 1 := by
        have := m.reduced
        rw [Int.gcd_comm]
        exact this
      have h3 := Int.dvd_gcd_mul_iff_dvd_mul.mpr hdv
      rw [cop] at h3
      simpa using h3
    rw [hv] at this
    exact Nat.dvd_one.mp this
  have fin := mult j
  rw [den1] at fin
  have n0 : m.num ≠ 0 := fun z => m0 (Rat.num_eq_zero.mp z)
  have h2 : (v.getD j 0).natAbs ≤ (cmb c T j).natAbs := by
    have : cmb c T j = m.num * v.getD j 0 := by rw [fin]; simp
    rw [this, Int.natAbs_mul]
    exact Nat.le_mul_of_pos_left _ (by omega)
  refine Nat.le_trans h2 (Nat.le_trans (cmb_bound c T hB fun t ht => hM t ht j) ?_)
  unfold bnd
  refine Nat.mul_le_mul_left _ (Nat.mul_le_mul_right _ (Nat.pow_le_pow_right (Nat.succ_pos _) (by omega)))
end DL

set_option Elab.async false
set_option linter.all false
set_option maxRecDepth 100000
set_option maxHeartbeats 4000000
/-! what the program's clearing gives -/
namespace DL
open PySem L2
/-- without a common divisor, the first number above 0; or zeros -/
def Lw (r : List Int) : Prop := (gl r = 1 ∧ ∃ z, fnz r = some z ∧ 0 < z) ∨ fnz r = none
theorem fnz_zero {r : List Int} (h : fnz r = none) (j : Nat) : r.getD j 0 = 0 := by
  rw [List.getD_eq_getElem?_getD]
  cases e : r[j]? with
  | none => rfl
  | some x => exact fnz_none h x (List.mem_of_getElem? e)
theorem lw_lowest (ns : List Int) : Lw (lowest ns) := by
  cases h : fnz ns with
  | none =>
    have : lowest ns = ns := by unfold lowest; rw [h]
    exact .inr (by rw [this, h])
  | some z =>
    obtain ⟨L, _⟩ := low_lowest h
    exact .inl ⟨L.one, L.pos⟩
theorem getD_mapZ {f : Int → Int} (hf : f 0 = 0) (l : List Int) (j : Nat) : (l.map f).getD j 0 = f (l.getD j 0) := by
  rw [List.getD_eq_getElem?_getD, List.getD_eq_getElem?_getD, List.getElem?_map]
  cases l[j]? with
  | none => exact hf.symm
  | some x => rfl
theorem lowest_mul (ns : List Int) : ∃ a : Rat, a ≠ 0 ∧ ∀ j, vi (lowest ns) j = a * vi ns j := by
  cases h : fnz ns with
  | none =>
    have : lowest ns = ns := by unfold lowest; rw [h]
    exact ⟨1, by decide, fun j => by rw [this]; grind⟩
  | some z =>
    obtain ⟨L, _⟩ := low_lowest h
    obtain ⟨d, hd, e⟩ := L.ex
    have dq : (d : Rat) ≠ 0 := fun y => hd (by exact_mod_cast y)
    refine ⟨1 / (d : Rat), fun y => ?_, fun j => ?_⟩
    · have : (1 : Rat) = 0 := by grind
      exact absurd this (by decide)
    · have : vi ns j = (d : Rat) * vi (lowest ns) j := by
        unfold vi
        rw [← Rat.intCast_mul]
        have h2 : ns.getD j 0 = ((lowest ns).map fun x => d * x).getD j 0 := by rw [← e]
        rw [h2, getD_mapZ (Int.mul_zero d)]
      rw [this]
      grind
def crs (row lead : List Int) (c : Nat) : List Int := (List.range (min row.length lead.length)).map fun i => row.getD i 0 * lead.getD c 0 - lead.getD i 0 * row.getD c 0
def lowd (row lead : List Int) (c : Nat) : List Int := lowest (crs row lead c)
theorem crs_len (row lead : List Int) (c : Nat) : (crs row lead c).length = min row.length lead.length := by unfold crs; rw [List.length_map, List.length_range]
theorem getD_ge {l : List Int} {j : Nat} (h : l.length ≤ j) : l.getD j 0 = 0 := by rw [List.getD_eq_getElem?_getD, List.getElem?_eq_none h]; rfl
theorem crs_at {row lead : List Int} {c n : Nat} (h1 : row.length = n) (h2 : lead.length = n) (j : Nat) : (crs row lead c).getD j 0 = row.getD j 0 * lead.getD c 0 - lead.getD j 0 * row.getD c 0 := by
  by_cases hj : j < n
  · unfold crs
    rw [h1, h2, Nat.min_self, List.getD_eq_getElem?_getD, List.getElem?_map, List.getElem?_range hj]
    rfl
  · rw [getD_ge (by rw [crs_len, h1, h2]; simp; omega), getD_ge (l := row) (j := j) (by omega), getD_ge (l := lead) (j := j) (by omega), Int.zero_mul, Int.zero_mul]
    rfl
theorem lowd_len {row lead : List Int} {c n : Nat} (h1 : row.length = n) (h2 : lead.length = n) : (lowd row lead c).length = n := by
  unfold lowd
  rw [lowest_len, crs_len, h1, h2, Nat.min_self]
theorem lowd_red {row lead : List Int} {c n : Nat} (h1 : row.length = n) (h2 : lead.length = n) (hc : lead.getD c 0 ≠ 0) : Red (vi lead) c (vi row) (vi (lowd row lead c)) := by
  obtain ⟨a, ha, e⟩ := lowest_mul (crs row lead c)
  have up : vi lead c ≠ 0 := fun z => hc (vi_zero.mp z)
  have at' : ∀ j, vi (lowd row lead c) j = a * vi lead c * vi row j - a * vi row c * vi lead j := fun j => by
    unfold lowd
    rw [e]
    have : vi (crs row lead c) j = vi row j * vi lead c - vi lead j * vi row c := by
      unfold vi
      rw [crs_at h1 h2, Rat.intCast_sub, Rat.intCast_mul, Rat.intCast_mul]
    rw [this]
    grind
  exact ⟨⟨a * vi lead c, a * vi row c, fun z => (Rat.mul_eq_zero.mp z).elim ha up, at'⟩, by rw [at']; grind⟩
def wout (rows : List (List Int)) (lead : List Int) (c : Nat) : List (List Int) := rows.map fun row => if row.getD c 0 = 0 then row else lowd row lead c
theorem wout_red {lead : List Int} {c n : Nat} (h2 : lead.length = n) (hc : lead.getD c 0 ≠ 0) : ∀ {rows : List (List Int)}, (∀ r ∈ rows, r.length = n) → Paired (fun r r' => Red (vi lead) c (vi r) (vi r')) rows (wout rows lead c)
  | [], _ => .nil
  | r :: rows, h => by
    refine .cons ?_ (wout_red h2 hc fun q hq => h q (List.mem_cons_of_mem _ hq))
    show Red (vi lead) c (vi r) (vi (if r.getD c 0 = 0 then r else lowd r lead c))
    split
    · rename_i z
      exact ⟨⟨1, 0, by decide, fun j => by grind⟩, vi_zero.mpr z⟩
    · exact lowd_red (h r (List.mem_cons_self ..)) h2 hc
def leadAt : List (List Int) → Nat → Option Nat
  | [], _ => none
  | r :: rs, c => if r.getD c 0 ≠ 0 then some 0 else (leadAt rs c).map (· + 1)
theorem leadAt_some : ∀ {rows : List (List Int)} {c k : Nat}, leadAt rows c = some k → k < rows.length ∧ (rows.getD k []).getD c 0 ≠ 0 ∧ rows = rows.take k ++ rows.getD k [] :: rows.drop (k + 1)
  | [], _, _, h => by cases h
  | r :: rs, c, k, h => by
    have h : (if r.getD c 0 ≠ 0 then some 0 else (leadAt rs c).map (· + 1)) = some k := h
    split at h
    · rename_i hr
      cases h
      exact ⟨Nat.succ_pos _, hr, rfl⟩
    · cases e : leadAt rs c with
      | none => rw [e] at h; cases h
      | some m =>
        rw [e] at h
        cases h
        obtain ⟨a, b, d⟩ := leadAt_some e
        exact ⟨Nat.succ_lt_succ a, b, congrArg (r :: ·) d⟩
theorem leadAt_none : ∀ {rows : List (List Int)} {c : Nat}, leadAt rows c = none → ∀ r ∈ rows, r.getD c 0 = 0
  | [], _, _, r, h => by cases h
  | r :: rs, c, h, q, hq => by
    have h : (if r.getD c 0 ≠ 0 then some 0 else (leadAt rs c).map (· + 1)) = none := h
    split at h
    · cases h
    · rename_i hr
      rcases List.mem_cons.mp hq with z | z
      · rw [z]; exact Classical.byContradiction hr
      · exact leadAt_none (by cases e : leadAt rs c with | none => rfl | some m => rw [e] at h; cases h) q z
theorem leadAt_at : ∀ {rows : List (List Int)} {c k : Nat}, k < rows.length → (∀ j, j < k → (rows.getD j []).getD c 0 = 0) → (rows.getD k []).getD c 0 ≠ 0 → leadAt rows c = some k
  | [], _, _, h, _, _ => absurd h (Nat.not_lt_zero _)
  | r :: rs, c, 0, _, _, h => if_pos h
  | r :: rs, c, k + 1, h1, h2, h3 => by
    show (if r.getD c 0 ≠ 0 then some 0 else (leadAt rs c).map (· + 1)) = _
    rw [if_neg (fun z => z (h2 0 (Nat.succ_pos _))), leadAt_at (k := k) (by simpa using h1) (fun j hj => h2 (j + 1) (by omega)) h3]
    rfl
theorem leadAt_all : ∀ {rows : List (List Int)} {c : Nat}, (∀ j, j < rows.length → (rows.getD j []).getD c 0 = 0) → leadAt rows c = none
  | [], _, _ => rfl
  | r :: rs, c, h => by
    show (if r.getD c 0 ≠ 0 then some 0 else (leadAt rs c).map (· + 1)) = _
    rw [if_neg (fun z => z (h 0 (Nat.succ_pos _))), leadAt_all fun j hj => h (j + 1) (Nat.succ_lt_succ hj)]
    rfl
structure Cst where
  K : List Int
  L : List (List Int)
  R : List (List Int)
def clStep (s : Cst) (c : Int) : Cst := match leadAt s.R c.toNat with
  | none => s
  | some k => ⟨s.K ++ [c], wout s.L (s.R.getD k []) c.toNat ++ [s.R.getD k []], wout (s.R.take k ++ s.R.drop (k + 1)) (s.R.getD k []) c.toNat⟩
def clr (rows : List (List Int)) (cells : List Int) : Cst := cells.foldl clStep ⟨[], [], rows⟩
theorem clr_snoc (rows : List (List Int)) (cells : List Int) (c : Int) : clr rows (cells ++ [c]) = clStep (clr rows cells) c := by
  unfold clr
  rw [List.foldl_append]
  rfl
structure CO (rows : List (List Int)) (n : Nat) (cells : List Int) (s : Cst) (S O : List (List Int)) : Prop where
  ci : CI rows (cells.map Int.toNat) (s.K.map Int.toNat) (s.L.map vi) s.R S O
  len : ∀ r ∈ s.L ++ s.R, r.length = n
  lw : ∀ r ∈ s.L ++ s.R, Lw r
  cnt : s.R.length + s.K.length = rows.length
  kl : s.L.length = s.K.length
  ksub : ∀ k ∈ s.K, k ∈ cells
theorem wout_mem {rows : List (List Int)} {lead : List Int} {c n : Nat} (h1 : ∀ r ∈ rows, r.length = n) (h2 : lead.length = n) (h3 : ∀ r ∈ rows, Lw r) : ∀ r ∈ wout rows lead c, r.length = n ∧ Lw r := fun r hr => by
  obtain ⟨q, hq, rfl⟩ := List.mem_map.mp hr
  split
  · exact ⟨h1 q hq, h3 q hq⟩
  · exact ⟨lowd_len (h1 q hq) h2, lw_lowest _⟩
theorem clr_co {rows : List (List Int)} {n : Nat} (hl : ∀ r ∈ rows, r.length = n) (hw : ∀ r ∈ rows, Lw r) (cells : List Int) : ∃ S O, CO rows n cells (clr rows cells) S O := by
  induction cells using snoc_ind with
  | nil => exact ⟨[], rows, ci_start, by simpa [clr] using hl, by simpa [clr] using hw, by simp [clr], rfl, fun k h => (List.not_mem_nil h).elim⟩
  | snoc cells c ih =>
    obtain ⟨S, O, C⟩ := ih
    rw [clr_snoc]
    generalize clr rows cells = s at C ⊢
    have em : (cells ++ [c]).map Int.toNat = cells.map Int.toNat ++ [c.toNat] := by rw [List.map_append]; rfl
    unfold clStep
    split
    · rename_i h
      exact ⟨S, O, by rw [em]; exact ci_skip C.ci (leadAt_none h), C.len, C.lw, C.cnt, C.kl, fun k hk => List.mem_append_left _ (C.ksub k hk)⟩
    · rename_i k h
      obtain ⟨h1, h2, h3⟩ := leadAt_some h
      generalize hld : s.R.getD k [] = lead at h2 h3 ⊢
      generalize hA : s.R.take k = A at h3 ⊢
      generalize hB : s.R.drop (k + 1) = B at h3 ⊢
      have mR : ∀ r ∈ A ++ B, r ∈ s.R := fun r hr => by
        rw [h3]
        exact (List.mem_append.mp hr).elim (fun z => List.mem_append_left _ z) fun z => List.mem_append_right _ (List.mem_cons_of_mem _ z)
      have mR' : ∀ r ∈ A ++ B, r ∈ s.L ++ s.R := fun r hr => List.mem_append_right _ (mR r hr)
      have ml : lead ∈ s.L ++ s.R := List.mem_append_right _ (by rw [h3]; exact List.mem_append_right _ (List.mem_cons_self ..))
      have ll := C.len lead ml
      have C' := C.ci
      rw [h3] at C'
      have rL : Paired (Red (vi lead) c.toNat) (s.L.map vi) ((wout s.L lead c.toNat).map vi) := by
        have : ∀ {P Q : List (List Int)}, Paired (fun r r' => Red (vi lead) c.toNat (vi r) (vi r')) P Q → Paired (Red (vi lead) c.toNat) (P.map vi) (Q.map vi) := by
          intro P Q h
          induction h with
          | nil => exact .nil
          | cons a t ih => exact .cons a ih
        exact this (wout_red ll h2 fun r hr => C.len r (List.mem_append_left _ hr))
      obtain ⟨o, O', ho, I⟩ := ci_take C' h2 rL (wout_red ll h2 fun r hr => C.len r (mR' r hr))
      have lA := congrArg List.length h3
      rw [List.length_append, List.length_cons] at lA
      have m1 := wout_mem (rows := s.L) (c := c.toNat) (fun r hr => C.len r (List.mem_append_left _ hr)) ll fun r hr => C.lw r (List.mem_append_left _ hr)
      have m2 := wout_mem (rows := A ++ B) (c := c.toNat) (fun r hr => C.len r (mR' r hr)) ll fun r hr => C.lw r (mR' r hr)
      have all : ∀ r ∈ (wout s.L lead c.toNat ++ [lead]) ++ wout (A ++ B) lead c.toNat, r.length = n ∧ Lw r := fun r hr => by
        rcases List.mem_append.mp hr with z | z
        · rcases List.mem_append.mp z with y | y
          · exact m1 r y
          · rw [List.mem_singleton.mp y]; exact ⟨ll, C.lw lead ml⟩
        · exact m2 r z
      refine ⟨S ++ [o], O', ?_, fun r hr => (all r hr).1, fun r hr => (all r hr).2, ?_, ?_, fun q hq => ?_⟩
      · show CI rows ((cells ++ [c]).map Int.toNat) ((s.K ++ [c]).map Int.toNat) ((wout s.L lead c.toNat ++ [lead]).map vi) _ _ _
        rw [em, List.map_append, List.map_append]
        exact I
      · show (wout (A ++ B) lead c.toNat).length + (s.K ++ [c]).length = _
        have := C.cnt
        unfold wout
        rw [List.length_map, List.length_append, List.length_append, List.length_singleton]
        omega
      · show (wout s.L lead c.toNat ++ [lead]).length = (s.K ++ [c]).length
        unfold wout
        rw [List.length_append, List.length_map, List.length_append, C.kl]
        rfl
      · rcases List.mem_append.mp hq with z | z
        · exact List.mem_append_left _ (C.ksub q z)
        · exact List.mem_append_right _ z
/-! ### sizes -/
theorem bnd_mono {n m M : Nat} (h : n ≤ m) : bnd n M ≤ bnd m M := by
  unfold bnd
  refine Nat.mul_le_mul h (Nat.mul_le_mul_right _ ?_)
  refine Nat.le_trans (Nat.pow_le_pow_left (m := 2 * m * M + 1) (by have := Nat.mul_le_mul_right M (Nat.mul_le_mul_left 2 h); omega) _) (Nat.pow_le_pow_right (Nat.succ_pos _) (by omega))
theorem dg_one : ∀ {L : List Vc} {K : List Nat} {l : Vc}, Dg L K → l ∈ L → ∃ ps : List Nat, ps.length + 1 = K.length ∧ ∀ x, Sp L x → (∀ p ∈ ps, x p = 0) → ∃ m : Rat, ∀ j, x j = m * l j
  | l0 :: L, k :: K, l, ⟨h1, h2, h3, h4⟩, h => by
    by_cases e : l = l0
    · subst e
      refine ⟨K, rfl, fun x ⟨c, hs⟩ hz => ⟨c, fun j => ?_⟩⟩
      have := dg_zero h4 hs fun d hd => by
        show x d - c * l d = 0
        rw [hz d hd, h3 d hd]; grind
      have := this j
      grind
    · obtain ⟨ps, hl, hp⟩ := dg_one h4 ((List.mem_cons.mp h).resolve_left e)
      refine ⟨k :: ps, by rw [List.length_cons, List.length_cons, hl], fun x ⟨c, hs⟩ hz => ?_⟩
      have e1 := sp_at h2 hs
      have e2 := hz k (List.mem_cons_self ..)
      have hc : c = 0 := by
        have : c * l0 k = 0 := by grind
        exact (Rat.mul_eq_zero.mp this).resolve_right h1
      subst hc
      exact hp x (hs.to fun j => by grind) fun p hp' => hz p (List.mem_cons_of_mem _ hp')
  | [], _, _, _, h => (List.not_mem_nil h).elim
  | _ :: _, [], _, h, _ => h.elim
section
variable {rows : List (List Int)} {done K : List Nat} {L : List Vc} {R S O : List (List Int)} {M n : Nat}
theorem small_rest (I : CI rows done K L R S O) (hM : ∀ t ∈ rows, ∀ j, (t.getD j 0).natAbs ≤ M) {r : List Int} (hr : r ∈ R) (hg : gl r = 1) (j : Nat) : (r.getD j 0).natAbs ≤ bnd (K.length + 1) M := by
  obtain ⟨o, ho, c, y, hc, hy, e⟩ := paired_memL I.ro r hr
  have rK : ∀ k ∈ K, vi r k = 0 := fun k hk => vi_zero.mpr (I.zero r hr k (I.sub k hk))
  have nz : ¬ Sp (S.map vi) (vi o) := fun z => by
    have z1 : Sp L (vi r) := (sp_add (sp_mul c ((I.spS _).mpr z)) hy).to fun j => (e j).symm
    have z2 := dg_zero I.dg z1 rK
    have : gl r = 0 := by
      have h0 : ∀ x ∈ r, x = 0 := fun x hx => by
        obtain ⟨i, hi, rfl⟩ := List.mem_iff_getElem.mp hx
        have := vi_zero.mp (z2 i)
        rwa [List.getD_eq_getElem?_getD, List.getElem?_eq_getElem hi, Option.getD_some] at this
      have : (0 : Nat) ∣ gl r := gl_dvd.mpr fun x hx => by rw [h0 x hx]; exact Int.dvd_refl _
      exact Nat.zero_dvd.mp this
    omega
  have iT := ind_snoc I.ind nz
  have lT : (S ++ [o]).length = K.length + 1 := by rw [List.length_append, I.ks]; rfl
  have := small_of (T := S ++ [o]) (ps := K) (M := M) (v := r) (fun t ht => hM t ((List.mem_append.mp ht).elim (I.mS t) fun z => by rw [List.mem_singleton.mp z]; exact I.mO o ho)) (by rw [lT]; exact Nat.lt_succ_self _) iT hg (fun x hx hz => by
    rw [List.map_append] at hx
    obtain ⟨a, b, ha, hb, ex⟩ := sp_app.mp hx
    obtain ⟨d, hd⟩ := hb
    have hb' : ∀ i, b i = d * vi o i := fun i => by have := hd i; grind
    have inL : Sp L (fun i => x i - d / c * vi r i) := (sp_sub ((I.spS a).mpr ha) (sp_mul (d / c) hy)).to fun i => by
      rw [ex i, hb' i, e i]; grind
    have z := dg_zero I.dg inL fun k hk => by
      show x k - d / c * vi r k = 0
      rw [hz k hk, rK k hk]; grind
    exact ⟨d / c, fun i => by have := z i; grind⟩) j
  rwa [lT] at this
theorem small_lead (I : CI rows done K L R S O) (hM : ∀ t ∈ rows, ∀ j, (t.getD j 0).natAbs ≤ M) {l : List Int} (hl : vi l ∈ L) (hg : gl l = 1) (j : Nat) : (l.getD j 0).natAbs ≤ bnd K.length M := by
  obtain ⟨ps, h1, h2⟩ := dg_one I.dg hl
  have := small_of (T := S) (ps := ps) (M := M) (v := l) (fun t ht => hM t (I.mS t ht)) (by rw [I.ks]; omega) I.ind hg (fun x hx hz => h2 x ((I.spS x).mpr hx) hz) j
  rwa [I.ks] at this
theorem small_all {cells : List Int} {s : Cst} (C : CO rows n cells s S O) (hM : ∀ t ∈ rows, ∀ j, (t.getD j 0).natAbs ≤ M) : ∀ r ∈ s.L ++ s.R, ∀ j, (r.getD j 0).natAbs ≤ bnd rows.length M := fun r hr j => by
  rcases C.lw r hr with ⟨hg, _⟩ | hz
  · have cn := C.cnt
    rcases List.mem_append.mp hr with h | h
    · exact Nat.le_trans (small_lead C.ci hM (List.mem_map.mpr ⟨r, h, rfl⟩) hg j) (bnd_mono (by rw [List.length_map]; omega))
    · have := List.length_pos_of_mem h
      exact Nat.le_trans (small_rest C.ci hM h hg j) (bnd_mono (by rw [List.length_map]; omega))
  · rw [fnz_zero hz j]
    exact Nat.zero_le _
end
end DL

set_option Elab.async false
set_option linter.all false
set_option maxRecDepth 100000
set_option maxHeartbeats 4000000
/-! frames; what the law's own clearing counts -/
namespace DL
open PySem L2
def vq (l : List Rat) : Vc := fun j => l.getD j 0
theorem getD_mapQ (l : List Int) (j : Nat) : (l.map fun n : Int => (n : Rat)).getD j 0 = ((l.getD j 0 : Int) : Rat) := by
  rw [List.getD_eq_getElem?_getD, List.getD_eq_getElem?_getD, List.getElem?_map]
  cases l[j]? with
  | none => rfl
  | some x => rfl
theorem vq_int (l : List Int) : vq (l.map fun n : Int => (n : Rat)) = vi l := funext fun j => getD_mapQ l j
theorem tops_mul (qs : List Rat) : ∃ a : Rat, a ≠ 0 ∧ ∀ j, vi (tops qs) j = a * vq qs j := by
  refine ⟨(((lcmD qs : Nat) : Int) : Rat), lcmQ_ne qs, fun j => ?_⟩
  unfold vi vq
  by_cases hj : j < qs.length
  · rw [tops_at hj, topq_is (lcmD_dvd (by rw [List.getD_eq_getElem?_getD, List.getElem?_eq_getElem hj]; exact List.getElem_mem _))]
    grind
  · rw [getD_ge (by rw [tops_len]; omega), List.getD_eq_getElem?_getD, List.getElem?_eq_none (by omega)]
    show ((0 : Int) : Rat) = _ * (0 : Rat)
    grind
theorem prim_mul (qs : List Rat) : ∃ a : Rat, a ≠ 0 ∧ ∀ j, vi (prim qs) j = a * vq qs j := by
  obtain ⟨a, ha, h1⟩ := lowest_mul (tops qs)
  obtain ⟨b, hb, h2⟩ := tops_mul qs
  exact ⟨a * b, fun z => (Rat.mul_eq_zero.mp z).elim ha hb, fun j => by
    unfold prim
    rw [h1, h2]; grind⟩
theorem prim_span (rows : List (List Rat)) (x : Vc) : Sp ((rows.map prim).map vi) x ↔ Sp (rows.map vq) x := by
  constructor
  · refine sp_le fun r hr => ?_
    obtain ⟨q, hq, rfl⟩ := List.mem_map.mp hr
    obtain ⟨l, hl, rfl⟩ := List.mem_map.mp hq
    obtain ⟨a, ha, e⟩ := prim_mul l
    exact (sp_mul a (sp_mem (List.mem_map.mpr ⟨l, hl, rfl⟩))).to fun j => (e j).symm
  · refine sp_le fun r hr => ?_
    obtain ⟨l, hl, rfl⟩ := List.mem_map.mp hr
    obtain ⟨a, ha, e⟩ := prim_mul l
    exact (sp_mul (1 / a) (sp_mem (List.mem_map.mpr ⟨prim l, List.mem_map.mpr ⟨l, hl, rfl⟩, rfl⟩))).to fun j => by
      show 1 / a * vi (prim l) j = vq l j
      rw [e j]
      grind
theorem lw_prim (qs : List Rat) : Lw (prim qs) := lw_lowest _
/-- the cells 0, 1, .. -/
def upto (n : Nat) : List Int := (List.range n).map fun i : Nat => (i : Int)
theorem upto_nat (n : Nat) : (upto n).map Int.toNat = List.range n := by
  unfold upto
  rw [List.map_map]
  exact (List.map_congr_left fun i _ => rfl).trans (List.map_id _)
def frameZ (rows : List (List Int)) (n : Nat) : List (List Int) := (clr rows (upto n)).L
def frameQ (rows : List (List Rat)) (n : Nat) : List (List Int) := frameZ (rows.map prim) n
/-- a frame of the tables V of n cells -/
structure FO (F : List (List Int)) (n : Nat) (V : Vc → Prop) : Prop where
  len : ∀ r ∈ F, r.length = n
  lw : ∀ r ∈ F, Lw r
  dg : Dg (F.map vi) (gre V [] (List.range n))
  span : ∀ x, Sp (F.map vi) x ↔ V x
theorem zero_len {R : List (List Int)} {n : Nat} (hl : ∀ r ∈ R, r.length = n) (hz : ∀ r ∈ R, ∀ d ∈ List.range n, r.getD d 0 = 0) : ∀ r ∈ R, ∀ j, vi r j = 0 := fun r hr j => vi_zero.mpr (by
  by_cases h : j < n
  · exact hz r hr j (List.mem_range.mpr h)
  · exact getD_ge (by rw [hl r hr]; omega))
theorem frameZ_fo {rows : List (List Int)} {n : Nat} (hl : ∀ r ∈ rows, r.length = n) (hw : ∀ r ∈ rows, Lw r) : FO (frameZ rows n) n (Sp (rows.map vi)) := by
  obtain ⟨S, O, C⟩ := clr_co hl hw (upto n)
  have I := C.ci
  rw [upto_nat] at I
  refine ⟨fun r hr => C.len r (List.mem_append_left _ hr), fun r hr => C.lw r (List.mem_append_left _ hr), ?_, fun x => ?_⟩
  · have := I.dg
    rwa [I.gr] at this
  · rw [← I.span x]
    refine ⟨fun h => sp_sub_of (fun r hr => List.mem_append_left _ hr) h, fun h => ?_⟩
    refine sp_le (fun r hr => ?_) h
    rcases List.mem_append.mp hr with z | z
    · exact sp_mem z
    · obtain ⟨q, hq, rfl⟩ := List.mem_map.mp z
      exact sp_zero (zero_len (fun r hr => C.len r (List.mem_append_right _ hr)) I.zero q hq)
theorem FO.congr {F : List (List Int)} {n : Nat} {V V' : Vc → Prop} (h : FO F n V) (e : ∀ x, V x ↔ V' x) : FO F n V' :=
  ⟨h.len, h.lw, by rw [← gre_congr e (List.range n) (p := []) (p' := []) fun _ => Iff.rfl]; exact h.dg, fun x => (h.span x).trans (e x)⟩
theorem frameQ_fo {rows : List (List Rat)} {n : Nat} (hl : ∀ r ∈ rows, r.length = n) : FO (frameQ rows n) n (Sp (rows.map vq)) :=
  (frameZ_fo (rows := rows.map prim) (fun r hr => by obtain ⟨q, hq, rfl⟩ := List.mem_map.mp hr; rw [prim_len]; exact hl q hq) (fun r hr => by obtain ⟨q, hq, rfl⟩ := List.mem_map.mp hr; exact lw_prim q)).congr (prim_span rows)
theorem frameZ_small {rows : List (List Int)} {n M : Nat} (hl : ∀ r ∈ rows, r.length = n) (hw : ∀ r ∈ rows, Lw r) (hM : ∀ t ∈ rows, ∀ j, (t.getD j 0).natAbs ≤ M) : ∀ r ∈ frameZ rows n, ∀ j, (r.getD j 0).natAbs ≤ bnd rows.length M := fun r hr => by
  obtain ⟨S, O, C⟩ := clr_co hl hw (upto n)
  exact small_all C hM r (List.mem_append_left _ hr)
theorem FO.count {F : List (List Int)} {n : Nat} {V : Vc → Prop} (h : FO F n V) : F.length = (gre V [] (List.range n)).length := by
  have := dg_len h.dg
  rwa [List.length_map] at this
/-! ### the law's own clearing -/
def lcl (row lead : List Int) (c : Nat) : List Int :=
  let made := (List.range row.length).map fun k => row.getD k 0 * lead.getD c 0 - lead.getD k 0 * row.getD c 0
  if gl made = 0 then made else made.map fun x => x.fdiv (gl made : Nat)
def lmade (row lead : List Int) (c : Nat) : List Int := (List.range row.length).map fun k => row.getD k 0 * lead.getD c 0 - lead.getD k 0 * row.getD c 0
theorem lmade_at {row lead : List Int} {c n : Nat} (h1 : row.length = n) (h2 : lead.length = n) (j : Nat) : (lmade row lead c).getD j 0 = row.getD j 0 * lead.getD c 0 - lead.getD j 0 * row.getD c 0 := by
  have : lmade row lead c = crs row lead c := by unfold lmade crs; rw [h1, h2, Nat.min_self]
  rw [this]
  exact crs_at h1 h2 j
theorem lcl_len (row lead : List Int) (c : Nat) : (lcl row lead c).length = row.length := by
  unfold lcl
  dsimp only
  split <;> simp
theorem gl_div {ns : List Int} (h : gl ns ≠ 0) : (∀ j, vi (ns.map fun x => x.fdiv (gl ns : Nat)) j = 1 / (((gl ns : Nat) : Int) : Rat) * vi ns j) ∧ gl (ns.map fun x => x.fdiv (gl ns : Nat)) = 1 := by
  have hg : ((gl ns : Nat) : Int) ≠ 0 := by omega
  have e2 : ns = (ns.map fun x => x.fdiv (gl ns : Nat)).map fun x => ((gl ns : Nat) : Int) * x := by
    rw [List.map_map]
    refine (List.map_id ns).symm.trans (List.map_congr_left fun x hx => ?_)
    obtain ⟨t, ht⟩ := (gl_dvd (d := gl ns) (ns := ns)).mp (Nat.dvd_refl _) x hx
    show x = ((gl ns : Nat) : Int) * x.fdiv (gl ns : Nat)
    rw [ht, Int.mul_fdiv_cancel_left _ hg]
  have hq : (((gl ns : Nat) : Int) : Rat) ≠ 0 := fun z => hg (by exact_mod_cast z)
  constructor
  · intro j
    have : vi ns j = (((gl ns : Nat) : Int) : Rat) * vi (ns.map fun x => x.fdiv (gl ns : Nat)) j := by
      unfold vi
      rw [← Rat.intCast_mul]
      have h2 : ns.getD j 0 = ((ns.map fun x => x.fdiv (gl ns : Nat)).map fun x => ((gl ns : Nat) : Int) * x).getD j 0 := by rw [← e2]
      rw [h2, getD_mapZ (f := fun x => ((gl ns : Nat) : Int) * x) (Int.mul_zero _)]
    rw [this]
    grind
  · have h3 := gl_mulI (k := ((gl ns : Nat) : Int)) (ns := ns.map fun x => x.fdiv (gl ns : Nat))
    rw [← e2] at h3
    have h4 : (((gl ns : Nat) : Int)).natAbs = gl ns := by omega
    rw [h4] at h3
    exact (Nat.eq_of_mul_eq_mul_left (by omega : 0 < gl ns) (by rw [Nat.mul_one]; exact h3)).symm
theorem gl_zero {ns : List Int} (h : gl ns = 0) (j : Nat) : ns.getD j 0 = 0 := by
  rw [List.getD_eq_getElem?_getD]
  cases e : ns[j]? with
  | none => rfl
  | some x =>
    have := (gl_dvd (d := gl ns) (ns := ns)).mp (Nat.dvd_refl _) x (List.mem_of_getElem? e)
    rw [h] at this
    exact Int.zero_dvd.mp this
theorem lcl_red {row lead : List Int} {c n : Nat} (h1 : row.length = n) (h2 : lead.length = n) (hc : lead.getD c 0 ≠ 0) : Red (vi lead) c (vi row) (vi (lcl row lead c)) ∧ (gl (lcl row lead c) = 1 ∨ ∀ j, (lcl row lead c).getD j 0 = 0) := by
  have up : vi lead c ≠ 0 := fun z => hc (vi_zero.mp z)
  have hm : ∀ j, vi (lmade row lead c) j = vi row j * vi lead c - vi lead j * vi row c := fun j => by
    unfold vi
    rw [lmade_at h1 h2, Rat.intCast_sub, Rat.intCast_mul, Rat.intCast_mul]
  have e : lcl row lead c = if gl (lmade row lead c) = 0 then lmade row lead c else (lmade row lead c).map fun x => x.fdiv (gl (lmade row lead c) : Nat) := rfl
  rw [e]
  by_cases hg : gl (lmade row lead c) = 0
  · rw [if_pos hg]
    exact ⟨⟨⟨vi lead c, vi row c, up, fun j => by rw [hm]; grind⟩, by rw [hm]; grind⟩, .inr fun j => gl_zero hg j⟩
  · rw [if_neg hg]
    obtain ⟨k1, k2⟩ := gl_div hg
    have hq : (1 : Rat) / (((gl (lmade row lead c) : Nat) : Int) : Rat) ≠ 0 := fun z => by
      have hq : (((gl (lmade row lead c) : Nat) : Int) : Rat) ≠ 0 := fun z => hg (by exact_mod_cast z)
      have : (1 : Rat) = 0 := by grind
      exact absurd this (by decide)
    generalize (1 : Rat) / (((gl (lmade row lead c) : Nat) : Int) : Rat) = g at k1 hq
    exact ⟨⟨⟨g * vi lead c, g * vi row c, fun z => (Rat.mul_eq_zero.mp z).elim hq up, fun j => by rw [k1, hm]; grind⟩, by rw [k1, hm]; grind⟩, .inl k2⟩
/-- the law's state: how many, the rows left -/
def lkStep (s : Nat × List (List Int)) (c : Nat) : Nat × List (List Int) := match leadAt s.2 c with
  | none => s
  | some k => (s.1 + 1, (s.2.take k ++ s.2.drop (k + 1)).map fun row => lcl row (s.2.getD k []) c)
def lk (rows : List (List Int)) (i : Nat) : Nat × List (List Int) := (List.range i).foldl lkStep (0, rows)
theorem lk_succ (rows : List (List Int)) (i : Nat) : lk rows (i + 1) = lkStep (lk rows i) i := by
  unfold lk
  rw [List.range_succ, List.foldl_append]
  rfl
structure LO (rows : List (List Int)) (n i : Nat) (s : Nat × List (List Int)) (K : List Nat) (L : List Vc) (S O : List (List Int)) : Prop where
  ci : CI rows (List.range i) K L s.2 S O
  k : s.1 = K.length
  len : ∀ r ∈ s.2, r.length = n
  lw : ∀ r ∈ s.2, gl r = 1 ∨ (∀ j, r.getD j 0 = 0) ∨ r ∈ rows
  cnt : s.2.length + K.length = rows.length
theorem lk_lo {rows : List (List Int)} {n : Nat} (hl : ∀ r ∈ rows, r.length = n) : ∀ i, ∃ K L S O, LO rows n i (lk rows i) K L S O
  | 0 => ⟨[], [], [], rows, ci_start, rfl, hl, fun r h => .inr (.inr h), rfl⟩
  | i + 1 => by
    obtain ⟨K, L, S, O, C⟩ := lk_lo hl i
    rw [lk_succ]
    generalize lk rows i = s at C ⊢
    unfold lkStep
    split
    · rename_i h
      exact ⟨K, L, S, O, by rw [List.range_succ]; exact ci_skip C.ci (leadAt_none h), C.k, C.len, C.lw, C.cnt⟩
    · rename_i k h
      obtain ⟨h1, h2, h3⟩ := leadAt_some h
      generalize hld : s.2.getD k [] = lead at h2 h3 ⊢
      generalize hA : s.2.take k = A at h3 ⊢
      generalize hB : s.2.drop (k + 1) = B at h3 ⊢
      have mR : ∀ r ∈ A ++ B, r ∈ s.2 := fun r hr => by
        rw [h3]
        exact (List.mem_append.mp hr).elim (fun z => List.mem_append_left _ z) fun z => List.mem_append_right _ (List.mem_cons_of_mem _ z)
      have ml : lead ∈ s.2 := by rw [h3]; exact List.mem_append_right _ (List.mem_cons_self ..)
      have ll := C.len lead ml
      have C' := C.ci
      rw [h3] at C'
      have rL : Paired (Red (vi lead) i) L (L.map fun m => fun j => vi lead i * m j - m i * vi lead j) := by
        have up : vi lead i ≠ 0 := fun z => h2 (vi_zero.mp z)
        have : ∀ P : List Vc, Paired (Red (vi lead) i) P (P.map fun m => fun j => vi lead i * m j - m i * vi lead j) := fun P => by
          induction P with
          | nil => exact .nil
          | cons m P ih => exact .cons ⟨⟨vi lead i, m i, up, fun j => rfl⟩, by show vi lead i * m i - m i * vi lead i = 0; grind⟩ ih
        exact this L
      have rR : Paired (fun r r' => Red (vi lead) i (vi r) (vi r')) (A ++ B) ((A ++ B).map fun row => lcl row lead i) := by
        have : ∀ P : List (List Int), (∀ r ∈ P, r.length = n) → Paired (fun r r' => Red (vi lead) i (vi r) (vi r')) P (P.map fun row => lcl row lead i) := fun P hP => by
          induction P with
          | nil => exact .nil
          | cons m P ih => exact .cons (lcl_red (hP m (List.mem_cons_self ..)) ll h2).1 (ih fun r hr => hP r (List.mem_cons_of_mem _ hr))
        exact this _ fun r hr => C.len r (mR r hr)
      obtain ⟨o, O', ho, I⟩ := ci_take C' h2 rL rR
      have lA := congrArg List.length h3
      rw [List.length_append, List.length_cons] at lA
      refine ⟨K ++ [i], _, S ++ [o], O', by rw [List.range_succ]; exact I, by rw [List.length_append, C.k]; rfl, fun r hr => ?_, fun r hr => ?_, ?_⟩
      · obtain ⟨q, hq, rfl⟩ := List.mem_map.mp hr
        rw [lcl_len]
        exact C.len q (mR q hq)
      · obtain ⟨q, hq, rfl⟩ := List.mem_map.mp hr
        rcases (lcl_red (C.len q (mR q hq)) ll h2).2 with z | z
        · exact .inl z
        · exact .inr (.inl z)
      · have := C.cnt
        show ((A ++ B).map _).length + (K ++ [i]).length = _
        rw [List.length_map, List.length_append, List.length_append, List.length_singleton]
        omega
/-! rows cut down to some cells -/
end DL

set_option Elab.async false
set_option linter.all false
set_option maxRecDepth 100000
set_option maxHeartbeats 4000000
/-! what the clearing's steps ask and give -/
namespace DL
open PySem L2
theorem getD_memI {l : List Int} {i : Nat} (h : i < l.length) : l.getD i 0 ∈ l := by rw [List.getD_eq_getElem?_getD, List.getElem?_eq_getElem h]; exact List.getElem_mem _
theorem getD_memL {α : Type} {l : List (List α)} {i : Nat} (h : i < l.length) : l.getD i [] ∈ l := by rw [List.getD_eq_getElem?_getD, List.getElem?_eq_getElem h]; exact List.getElem_mem _
theorem crs_lc {row lead : List Int} {c : Nat} : List.map (fun i : Nat => rInt (row.getD i 0 * lead.getD c 0 - lead.getD i 0 * row.getD c 0)) (List.filter (fun _ => true) (List.range (min row.length lead.length))) = List.map rInt (crs row lead c) := by
  rw [List.filter_eq_self.mpr (fun _ _ => rfl)]
  unfold crs
  rw [List.map_map]
  rfl
theorem low_m {x y : Int} (h : Lg x < 4000) (k : Lg y < 4000) : Lg x + Lg y < 1000000 := by omega
theorem crs_lg {row lead : List Int} {c : Nat} (h : ∀ x ∈ row, Lg x < 4000) (k : ∀ x ∈ lead, Lg x < 4000) : ∀ x ∈ crs row lead c, Lg x < 8990 := fun x hx => by
  have at0 : ∀ {l : List Int} {j : Nat}, (∀ x ∈ l, Lg x < 4000) → Lg (l.getD j 0) < 4000 := fun {l j} q => by
    by_cases hj : j < l.length
    · exact q _ (getD_memI hj)
    · rw [getD_ge (by omega)]; decide
  obtain ⟨i, _, rfl⟩ := List.mem_map.mp hx
  have a := at0 (j := i) h
  have b := at0 (j := c) h
  have d := at0 (j := i) k
  have e := at0 (j := c) k
  have m1 := lg_mul (row.getD i 0) (lead.getD c 0)
  have m2 := lg_mul (lead.getD i 0) (row.getD c 0)
  have := lg_sub (row.getD i 0 * lead.getD c 0) (lead.getD i 0 * row.getD c 0)
  omega
def RowOk (n : Nat) (r : List Int) : Prop := r.length = n ∧ ∀ x ∈ r, Lg x < 4000
def wo1 (lead : List Int) (c : Nat) (row : List Int) : List Int := if row.getD c 0 = 0 then row else lowd row lead c
theorem wo1_t {lead row : List Int} {c : Nat} (h : decide (row.getD c 0 = 0) = true) : row = wo1 lead c row := (if_pos (of_decide_eq_true h)).symm
theorem wo1_f {lead row : List Int} {c : Nat} (h : decide (row.getD c 0 = 0) = false) : lowd row lead c = wo1 lead c row := (if_neg (of_decide_eq_false h)).symm
theorem range_map_getD {α β : Type} {xs : List α} {d : α} {f : α → β} : (List.range xs.length).map (fun i => f (xs.getD i d)) = xs.map f := by
  apply List.ext_getElem?
  intro j
  rw [List.getElem?_map, List.getElem?_map]
  by_cases h : j < xs.length
  · rw [List.getElem?_range h, List.getElem?_eq_getElem h, Option.map_some, Option.map_some, List.getD_eq_getElem?_getD, List.getElem?_eq_getElem h]
    rfl
  · rw [List.getElem?_eq_none (by simp; omega), List.getElem?_eq_none (by omega)]
    rfl
theorem lc_map {α β : Type} {xs : List α} {d : α} {f : α → β} : List.map (fun i : Nat => f (xs.getD i d)) (List.filter (fun _ => true) (List.range xs.length)) = List.map f xs := by
  rw [List.filter_eq_self.mpr (fun _ _ => rfl)]
  exact range_map_getD
structure ClrOk (n : Nat) (rows : List (List Int)) (cells : List Int) : Prop where
  n1 : n ≤ 1000
  n2 : rows.length ≤ 1000
  n3 : cells.length ≤ 1000
  inn : ∀ c ∈ cells, 0 ≤ c ∧ c < n
  ok : ∀ i, i ≤ cells.length → ∀ r ∈ (clr rows (cells.take i)).L ++ (clr rows (cells.take i)).R, RowOk n r
  cnt : ∀ i, i ≤ cells.length → (clr rows (cells.take i)).L.length ≤ 1000 ∧ (clr rows (cells.take i)).R.length ≤ 1000 ∧ (clr rows (cells.take i)).K.length ≤ 1000
theorem clr_take {rows : List (List Int)} {cells : List Int} {i : Nat} (hi : i < cells.length) : clr rows (cells.take (i + 1)) = clStep (clr rows (cells.take i)) (cells.getD i 0) := by
  have e : cells.take (i + 1) = cells.take i ++ [cells.getD i 0] := by
    rw [List.take_add_one, List.getElem?_eq_getElem hi, List.getD_eq_getElem?_getD, List.getElem?_eq_getElem hi]
    rfl
  rw [e, clr_snoc]
theorem cl_f {rows : List (List Int)} {cells : List Int} {i : Nat} (hi : i < cells.length) (hn : (!((leadAt (clr rows (cells.take i)).R (cells.getD i 0).toNat).map fun k : Nat => (k : Int)).isNone) = false) : clr rows (cells.take (i + 1)) = clr rows (cells.take i) := by
  rw [clr_take hi]
  generalize clr rows (cells.take i) = s at hn ⊢
  unfold clStep
  cases h : leadAt s.R (cells.getD i 0).toNat with
  | none => rfl
  | some k => rw [h] at hn; cases hn
section
variable {rows : List (List Int)} {cells : List Int} {i n : Nat}
abbrev atO (s : Cst) (c : Int) : Option Int := (leadAt s.R c.toNat).map fun k : Nat => (k : Int)
theorem cl_t (hi : i < cells.length) (hn : (!(atO (clr rows (cells.take i)) (cells.getD i 0)).isNone) = true) :
    clr rows (cells.take (i + 1)) = ⟨(clr rows (cells.take i)).K ++ [cells.getD i 0], wout (clr rows (cells.take i)).L ((clr rows (cells.take i)).R.getD ((atO (clr rows (cells.take i)) (cells.getD i 0)).getD 0).toNat []) (cells.getD i 0).toNat ++ [(clr rows (cells.take i)).R.getD ((atO (clr rows (cells.take i)) (cells.getD i 0)).getD 0).toNat []],
      wout ((clr rows (cells.take i)).R.take ((atO (clr rows (cells.take i)) (cells.getD i 0)).getD 0).toNat ++ (clr rows (cells.take i)).R.drop ((atO (clr rows (cells.take i)) (cells.getD i 0)).getD 0 + 1).toNat) ((clr rows (cells.take i)).R.getD ((atO (clr rows (cells.take i)) (cells.getD i 0)).getD 0).toNat []) (cells.getD i 0).toNat⟩ := by
  rw [clr_take hi]
  generalize clr rows (cells.take i) = s at hn ⊢
  unfold atO at hn ⊢
  cases h : leadAt s.R (cells.getD i 0).toNat with
  | none => rw [h] at hn; cases hn
  | some k =>
    show clStep s (cells.getD i 0) = ⟨_, wout s.L (s.R.getD ((k : Int)).toNat []) _ ++ [s.R.getD ((k : Int)).toNat []], wout (s.R.take ((k : Int)).toNat ++ s.R.drop ((k : Int) + 1).toNat) (s.R.getD ((k : Int)).toNat []) _⟩
    have e1 : ((k : Int)).toNat = k := rfl
    have e2 : ((k : Int) + 1).toNat = k + 1 := by omega
    rw [e1, e2]
    unfold clStep
    rw [h]
/-- the index that was found -/
theorem at_lt {s : Cst} {c : Int} (hn : (!((leadAt s.R c.toNat).map fun k : Nat => (k : Int)).isNone) = true) : 0 ≤ ((leadAt s.R c.toNat).map fun k : Nat => (k : Int)).getD 0 ∧ (((leadAt s.R c.toNat).map fun k : Nat => (k : Int)).getD 0).toNat < s.R.length := by
  cases h : leadAt s.R c.toNat with
  | none => rw [h] at hn; cases hn
  | some k =>
    obtain ⟨h1, _⟩ := leadAt_some h
    exact ⟨Int.natCast_nonneg k, h1⟩
end
theorem la_more {rows : List (List Int)} {c i : Nat} (hj : ∀ j, j < i → (rows.getD j []).getD c 0 = 0) (h : (rows.getD i []).getD c 0 = 0) : ∀ j, j < i + 1 → (rows.getD j []).getD c 0 = 0 := fun j hj' => by
  by_cases e : j = i
  · rw [e]; exact h
  · exact hj j (by omega)
theorem nn_t {b : Bool} (h : (!b) = true) : b = false := by cases b <;> first | rfl | cases h
theorem wout_len (rows : List (List Int)) (lead : List Int) (c : Nat) : (wout rows lead c).length = rows.length := List.length_map _
theorem wout_lc {K : PySem.W.Frag} {rows : List (List Int)} {lead : List Int} {c : Nat} : List.map (fun i : Nat => rRowS K (wo1 lead c (rows.getD i []))) (List.filter (fun _ => true) (List.range rows.length)) = List.map (fun l => rSeq K (List.map rInt l)) (wout rows lead c) :=
  (lc_map (f := fun r => rRowS K (wo1 lead c r))).trans (by unfold wout; rw [List.map_map]; rfl)
theorem cl_w1 {n : Nat} {s : Cst} {c : Int} (hn : n ≤ 1000) (hin : 0 ≤ c ∧ c < n) (hok : ∀ r ∈ s.L ++ s.R, RowOk n r) (hct : s.L.length ≤ 1000 ∧ s.R.length ≤ 1000 ∧ s.K.length ≤ 1000) {k : Nat} (hk : k < s.R.length) : (0 ≤ c ∧ c < n ∧ n ≤ 1000) ∧ s.L.length ≤ 1000 ∧ (∀ r ∈ s.L, RowOk n r) ∧ RowOk n (s.R.getD k []) :=
  ⟨⟨hin.1, hin.2, hn⟩, hct.1, fun r hr => hok r (List.mem_append_left _ hr), hok _ (List.mem_append_right _ (getD_memL hk))⟩
theorem cl_w2 {n : Nat} {s : Cst} {c : Int} (hn : n ≤ 1000) (hin : 0 ≤ c ∧ c < n) (hok : ∀ r ∈ s.L ++ s.R, RowOk n r) (hct : s.L.length ≤ 1000 ∧ s.R.length ≤ 1000 ∧ s.K.length ≤ 1000) {k m : Nat} (hk : k < s.R.length) (hm : m = k + 1) : (0 ≤ c ∧ c < n ∧ n ≤ 1000) ∧ (s.R.take k ++ s.R.drop m).length ≤ 1000 ∧ (∀ r ∈ s.R.take k ++ s.R.drop m, RowOk n r) ∧ RowOk n (s.R.getD k []) :=
  ⟨⟨hin.1, hin.2, hn⟩, by rw [List.length_append, List.length_take, List.length_drop]; omega, fun r hr => hok r (List.mem_append_right _ ((List.mem_append.mp hr).elim List.mem_of_mem_take List.mem_of_mem_drop)), hok _ (List.mem_append_right _ (getD_memL hk))⟩
end DL

set_option Elab.async false
set_option linter.all false
set_option maxRecDepth 100000
set_option maxHeartbeats 4000000
/-! names, cells, frames as the program makes them -/
namespace DL
open PySem L2
def lettersT : Str := "abcdefghijklmnopqrstuvwxyz"
def digitsT : Str := "0123456789"
def nmS (c : Nat) : Bool := decide (c ∈ lettersT.cps.toList) || decide (c ∈ digitsT.cps.toList)
def isNm (x : Str) : Bool := decide (1 ≤ x.cps.toList.length) && decide (x.cps.toList.length ≤ 12) && decide (x.cps.toList.getD 0 0 ∈ lettersT.cps.toList) && x.cps.toList.all nmS
theorem strLen (x : Str) : (x.length : Nat) = x.cps.toList.length := (Array.length_toList ..).symm
theorem nm_f {x : Str} {b : Bool} (h : (!(decide ((1 : Int) ≤ (x.length : Nat)) && decide (((x.length : Nat) : Int) ≤ 12)) || b) = true) (hb : b = !decide (x.cps.toList.getD 0 0 ∈ lettersT.cps.toList)) : isNm x = false := by
  subst hb
  unfold isNm
  rw [strLen] at h
  generalize x.cps.toList = l at h ⊢
  by_cases h1 : 1 ≤ l.length
  · by_cases h2 : l.length ≤ 12
    · have a : decide ((1 : Int) ≤ (l.length : Nat)) = true := decide_eq_true (by omega)
      have c : decide (((l.length : Nat) : Int) ≤ 12) = true := decide_eq_true (by omega)
      rw [a, c] at h
      cases hd : decide (l.getD 0 0 ∈ lettersT.cps.toList) with
      | true => rw [hd] at h; cases h
      | false => rw [Bool.and_false, Bool.false_and]
    · rw [decide_eq_false h2, Bool.and_false, Bool.false_and, Bool.false_and]
  · rw [decide_eq_false h1, Bool.false_and, Bool.false_and, Bool.false_and]
theorem nm_t {x : Str} {b : Bool} (h : (!(decide ((1 : Int) ≤ (x.length : Nat)) && decide (((x.length : Nat) : Int) ≤ 12)) || b) = false) (hb : b = !decide (x.cps.toList.getD 0 0 ∈ lettersT.cps.toList)) : x.cps.toList.all nmS = isNm x := by
  subst hb
  unfold isNm
  rw [strLen] at h
  generalize x.cps.toList = l at h ⊢
  cases a : decide ((1 : Int) ≤ (l.length : Nat)) with
  | false => rw [a] at h; cases h
  | true =>
    cases c : decide (((l.length : Nat) : Int) ≤ 12) with
    | false => rw [a, c] at h; cases h
    | true =>
      cases hd : decide (l.getD 0 0 ∈ lettersT.cps.toList) with
      | false => rw [a, c, hd] at h; cases h
      | true =>
        have a2 := of_decide_eq_true a
        have c2 := of_decide_eq_true c
        rw [decide_eq_true (by omega : 1 ≤ l.length), decide_eq_true (by omega : l.length ≤ 12)]
        rfl
theorem nm_len {x : Str} (h : (decide ((1 : Int) ≤ (x.length : Nat)) && decide (((x.length : Nat) : Int) ≤ 12)) = true) : 1 ≤ x.cps.toList.length ∧ x.length ≤ 12 := by
  rw [Bool.and_eq_true] at h
  have a := of_decide_eq_true h.1
  have b := of_decide_eq_true h.2
  rw [← strLen]
  omega
theorem nm_lc {x : Str} : List.map (fun i : Nat => rBl (nmS (x.cps.toList.getD i 0))) (List.filter (fun _ => true) (List.range x.cps.toList.length)) = List.map rBl (x.cps.toList.map nmS) :=
  (lc_map (f := fun c => rBl (nmS c))).trans (by rw [List.map_map]; rfl)
theorem nm_all {x : Str} : (x.cps.toList.map nmS).all (fun b => b) = x.cps.toList.all nmS := by rw [List.all_map]; rfl
def namesOk (xs : List Str) : Bool := xs.all isNm && decide xs.Nodup
def badC (n : Nat) (cells : List Int) : Option Int := cells.find? fun c => !(decide (0 ≤ c) && decide (c < n))
/-! frames -/
def PrimOk (qs : List Rat) : Prop := ∃ n, (∀ q ∈ qs, Sz n q) ∧ qs.length * (n + 1) + n < 8900 ∧ qs.length ≤ 1000
structure FrOk (n : Nat) (rows : List (List Rat)) : Prop where
  n1 : n ≤ 1000
  n2 : rows.length ≤ 1000
  pr : ∀ r ∈ rows, PrimOk r
  cl : ClrOk n (rows.map prim) (upto n)
theorem upto_lc {n : Nat} : List.map (fun i : Nat => rInt (i : Nat)) (List.range ((n : Int)).toNat) = List.map rInt (upto n) := by
  unfold upto
  rw [List.map_map]
  rfl
theorem prim_lc {K : PySem.W.Frag} {rows : List (List Rat)} : List.map (fun i : Nat => rLst K ((prim (rows.getD i [])).map rInt)) (List.filter (fun _ => true) (List.range rows.length)) = List.map (fun l => rLst K (List.map rInt l)) (rows.map prim) :=
  (lc_map (f := fun r => rLst K ((prim r).map rInt))).trans (by rw [List.map_map]; rfl)
theorem rep_flat {n : Nat} {r : Rep} : (List.replicate n [r]).flatten = List.replicate n r := by
  induction n with
  | zero => rfl
  | succ n ih => rw [List.replicate_succ, List.flatten_cons, ih, List.replicate_succ]; rfl
end DL

set_option Elab.async false
set_option linter.all false
set_option maxRecDepth 100000
set_option maxHeartbeats 4000000
namespace DL
open PySem L2
theorem nn_f {b : Bool} (h : (!b) = false) : b = true := by cases b <;> first | rfl | cases h
theorem nm_le {x : Str} {b : Bool} (h : (!(decide ((1 : Int) ≤ (x.length : Nat)) && decide (((x.length : Nat) : Int) ≤ 12)) || b) = false) : x.cps.toList.length ≤ 12 := by
  rw [← strLen]
  cases a : (decide ((1 : Int) ≤ (x.length : Nat)) && decide (((x.length : Nat) : Int) ≤ 12)) with
  | false => rw [a] at h; cases h
  | true => exact (nm_len a).2
theorem nmj_more {xs : List Str} {i : Nat} (hj : ∀ j, j < i → isNm (xs.getD j default) = true) (h : (!isNm (xs.getD i default)) = false) : ∀ j, j < i + 1 → isNm (xs.getD j default) = true := fun j hj' => by
  by_cases e : j = i
  · rw [e]; exact nn_f h
  · exact hj j (by omega)
theorem nm_scan {xs : List Str} (h : xs.length ≤ 1000) : xs.length + 1 < scanBound := by unfold scanBound; omega
theorem nmo_a {xs : List Str} {i : Nat} (hi : i < xs.length) (h : (!isNm (xs.getD i default)) = true) : namesOk xs = false := by
  have h2 : isNm (xs.getD i default) = false := nn_t h
  unfold namesOk
  have : xs.all isNm = false := by
    cases e : xs.all isNm with
    | false => rfl
    | true =>
      have := List.all_eq_true.mp e _ (DL.getD_mem (d := (default : Str)) hi)
      rw [h2] at this
      cases this
  rw [this]; rfl
theorem nmo_b {xs : List Str} (h : ((dd xs).length : Int) < (xs.length : Nat)) : namesOk xs = false := by
  unfold namesOk
  rw [decide_eq_false (dd_lt.mp (by omega)), Bool.and_false]
theorem nmo_c {xs : List Str} (hj : ∀ j, j < xs.length → isNm (xs.getD j default) = true) (h : ¬ ((dd xs).length : Int) < (xs.length : Nat)) : ¬ namesOk xs = false := fun z => by
  unfold namesOk at z
  have a : xs.all isNm = true := List.all_eq_true.mpr fun x hx => by
    obtain ⟨i, hi, rfl⟩ := List.mem_iff_getElem.mp hx
    have := hj i hi
    rwa [List.getD_eq_getElem?_getD, List.getElem?_eq_getElem hi, Option.getD_some] at this
  have b : xs.Nodup := Classical.byContradiction fun n => h (by have := dd_lt.mpr n; omega)
  rw [a, decide_eq_true b] at z
  cases z
theorem fr_len {n : Nat} {rows : List (List Rat)} (h : FrOk n rows) : (frameQ rows n).length ≤ 1000 := by
  have := (h.cl.cnt (upto n).length (Nat.le_refl _)).1
  rwa [List.take_length] at this
section
variable {b : Bk} {cells : List Int} {c : Int}
/-- the leads' own numbers are not 0 -/
def RuleOk (b : Bk) (cells : List Int) : Prop := ¬ (badC b.size cells).isSome = true → ∀ i, i < min (clr b.frame (sset cells)).K.length (clr b.frame (sset cells)).L.length → ((clr b.frame (sset cells)).L.getD i []).getD ((clr b.frame (sset cells)).K.getD i 0).toNat 0 ≠ 0
variable {n i : Nat} {rows : List (List Int)}
end
end DL

set_option Elab.async false
set_option linter.all false
set_option maxRecDepth 100000
set_option maxHeartbeats 4000000
/-! books are made -/
namespace DL
open PySem PySem.Spec PyProof.Rows L2
def lensOk (n : Nat) (rows : List (List Rat)) : Bool := rows.all fun r => decide (r.length = n)
structure BookOk (names : List Str) (rows : List (List Rat)) : Prop where
  n1 : names.length ≤ 1000
  nl : ∀ x ∈ names, x.length ≤ 100000
  fr : (1 ≤ names.length ∧ names.length ≤ 16) → lensOk names.length rows = true → FrOk names.length rows
theorem bk_f {n : Nat} (h : (!(decide ((1 : Int) ≤ (n : Nat)) && decide (((n : Nat) : Int) ≤ 16))) = true) : ¬ (1 ≤ n ∧ n ≤ 16) := fun z => by
  rw [decide_eq_true (by omega : (1 : Int) ≤ (n : Nat)), decide_eq_true (by omega : ((n : Nat) : Int) ≤ 16)] at h
  cases h
theorem bk_t {n : Nat} (h : (!(decide ((1 : Int) ≤ (n : Nat)) && decide (((n : Nat) : Int) ≤ 16))) = false) : 1 ≤ n ∧ n ≤ 16 := by
  have := nn_f h
  rw [Bool.and_eq_true] at this
  have a := of_decide_eq_true this.1
  have b := of_decide_eq_true this.2
  omega
theorem lens_bad {n i : Nat} {rows : List (List Rat)} (hi : i < rows.length) (h : ¬ (rows.getD i []).length = n) : lensOk n rows = false := by
  cases e : lensOk n rows with
  | false => rfl
  | true =>
    have := List.all_eq_true.mp e _ (getD_memL hi)
    exact absurd (of_decide_eq_true this) h
theorem lens_ok {n : Nat} {rows : List (List Rat)} (h : ∀ j, j < rows.length → (rows.getD j []).length = n) : lensOk n rows = true := List.all_eq_true.mpr fun r hr => by
  obtain ⟨i, hi, rfl⟩ := List.mem_iff_getElem.mp hr
  have := h i hi
  rw [List.getD_eq_getElem?_getD, List.getElem?_eq_getElem hi, Option.getD_some] at this
  exact decide_eq_true this
theorem lens_more {n i : Nat} {rows : List (List Rat)} (hj : ∀ j, j < i → (rows.getD j []).length = n) (h : (rows.getD i []).length = n) : ∀ j, j < i + 1 → (rows.getD j []).length = n := fun j hj' => by
  by_cases e : j = i
  · rw [e]; exact h
  · exact hj j (by omega)
def toQ (l : List Int) : List Rat := l.map fun n : Int => (n : Rat)
theorem ll2n_eq {K : PySem.W.Frag} {xs : List (List Int)} : (xs.map fun l => rLst K (l.map rInt)) = (xs.map toQ).map fun l => rLst K (l.map (rNum K)) := by
  rw [List.map_map]
  refine List.map_congr_left fun l _ => ?_
  show rLst K _ = rLst K ((toQ l).map (rNum K))
  unfold toQ
  rw [List.map_map]
  refine congrArg _ (List.map_congr_left fun n _ => ?_)
  show rInt n = rNum K (n : Rat)
  unfold rNum
  rw [if_pos (Rat.den_intCast ..), Rat.num_intCast]
theorem de_ll2n {X : L2.Cx} {Γ : List Sl} {e : PySem.Expr} {xs : List (List Int)} (h : DE X Γ e (rLst X.K (xs.map fun l => rLst X.K (l.map rInt)))) : DE X Γ e (rLst X.K ((xs.map toQ).map fun l => rLst X.K (l.map (rNum X.K)))) := h.to (by rw [ll2n_eq])
theorem bk_out {names : List Str} {rows : List (List Rat)} {a b : Addr} {l : List Rep} (h1 : 1 ≤ names.length ∧ names.length ≤ 16) (h2 : namesOk names = true) (h3 : lensOk names.length rows = true) :
    (if ¬ (1 ≤ names.length ∧ names.length ≤ 16) then OutI.err a else if namesOk names = false then .err b else if lensOk names.length rows = false then .err a else .ok l) = .ok l :=
  (if_neg (fun z => z h1)).trans ((if_neg (by rw [h2]; exact Bool.noConfusion)).trans (if_neg (by rw [h3]; exact Bool.noConfusion)))
end DL

set_option Elab.async false
set_option linter.all false
set_option maxRecDepth 100000
set_option maxHeartbeats 4000000
/-! books made of whole rows -/
namespace DL
open PySem PySem.Spec PyProof.Rows L2
theorem bnd_mono2 {n m M M' : Nat} (h : n ≤ m) (k : M ≤ M') : bnd n M ≤ bnd m M' := by
  refine Nat.le_trans (bnd_mono h) ?_
  unfold bnd
  refine Nat.mul_le_mul_left _ (Nat.mul_le_mul (Nat.pow_le_pow_left (Nat.succ_le_succ (Nat.mul_le_mul_left _ k)) _) k)
theorem lowest_leA (ns : List Int) (j : Nat) : ((lowest ns).getD j 0).natAbs ≤ (ns.getD j 0).natAbs := by
  cases h : fnz ns with
  | none =>
    have : lowest ns = ns := by unfold lowest; rw [h]
    rw [this]
    exact Nat.le_refl _
  | some z =>
    obtain ⟨d, hd, e⟩ := (low_lowest h).1.ex
    have h2 : ns.getD j 0 = d * (lowest ns).getD j 0 := by
      have h2 : ns.getD j 0 = ((lowest ns).map fun x => d * x).getD j 0 := by rw [← e]
      rw [h2, getD_mapZ (Int.mul_zero d)]
    rw [h2, Int.natAbs_mul]
    exact Nat.le_mul_of_pos_left _ (by omega)
theorem toQ_den {l : List Int} {q : Rat} (h : q ∈ toQ l) : q.den = 1 ∧ q.num ∈ l := by
  obtain ⟨x, hx, rfl⟩ := List.mem_map.mp h
  exact ⟨Rat.den_intCast .., by rw [Rat.num_intCast]; exact hx⟩
theorem lcmD_one : ∀ {qs : List Rat}, (∀ q ∈ qs, q.den = 1) → lcmD qs = 1 := fun {qs} h => by
  induction qs using snoc_ind with
  | nil => rfl
  | snoc qs q ih =>
    unfold lcmD at ih ⊢
    rw [List.foldl_append, ih fun x hx => h x (List.mem_append_left _ hx)]
    show Nat.lcm 1 q.den = 1
    rw [h q (List.mem_append_right _ (List.mem_singleton.mpr rfl))]
    rfl
theorem tops_toQ (l : List Int) : tops (toQ l) = l := by
  unfold tops
  rw [lcmD_one fun q hq => (toQ_den hq).1]
  unfold toQ
  rw [List.map_map]
  refine (List.map_congr_left fun x _ => ?_).trans (List.map_id l)
  show topq 1 (x : Rat) = x
  unfold topq
  rw [Rat.num_intCast, Rat.den_intCast]
  show x * Int.fdiv 1 1 = x
  rw [show Int.fdiv 1 1 = 1 from rfl, Int.mul_one]
theorem prim_toQ (l : List Int) : prim (toQ l) = lowest l := by unfold prim; rw [tops_toQ]
theorem toQ_len (l : List Int) : (toQ l).length = l.length := List.length_map _
theorem toQ_vq (rows : List (List Int)) : (rows.map toQ).map vq = rows.map vi := by
  rw [List.map_map]
  exact List.map_congr_left fun l _ => vq_int l
theorem mem_getD0 {l : List Int} {x : Int} (h : x ∈ l) : ∃ j, x = l.getD j 0 := by
  obtain ⟨i, hi, rfl⟩ := List.mem_iff_getElem.mp h
  exact ⟨i, by rw [List.getD_eq_getElem?_getD, List.getElem?_eq_getElem hi]; rfl⟩
theorem clrOk_of {n M e : Nat} {rows : List (List Int)} {cells : List Int} (hn : n ≤ 1000) (hl : ∀ r ∈ rows, r.length = n) (hw : ∀ r ∈ rows, Lw r) (hM : ∀ t ∈ rows, ∀ j, (t.getD j 0).natAbs ≤ M) (hr : rows.length ≤ 1000) (hc : cells.length ≤ 1000) (hin : ∀ c ∈ cells, 0 ≤ c ∧ c < (n : Int)) (e0 : 0 < e) (he : e ≤ 4000) (hb : bnd rows.length M < 2 ^ e) : ClrOk n rows cells where
  n1 := hn
  n2 := hr
  n3 := hc
  inn := hin
  ok := fun i _ r h => by
    obtain ⟨S, O, C⟩ := clr_co hl hw (cells.take i)
    refine ⟨C.len r h, fun x hx => ?_⟩
    obtain ⟨j, rfl⟩ := mem_getD0 hx
    exact Nat.lt_of_lt_of_le (lg_b (small_all C hM r h j) hb e0) he
  cnt := fun i _ => by
    obtain ⟨S, O, C⟩ := clr_co hl hw (cells.take i)
    have h1 := C.cnt
    have h2 := C.kl
    omega
/-- whole rows, few and small -/
structure Dw (n M : Nat) (rows : List (List Int)) : Prop where
  n1 : 1 ≤ n
  n2 : n ≤ 16
  m : rows.length ≤ 16
  len : ∀ r ∈ rows, r.length = n
  sm : ∀ r ∈ rows, ∀ j, (r.getD j 0).natAbs ≤ M
  bM : M < 2 ^ 200
  b1 : bnd rows.length M < 2 ^ 3900
  b2 : bnd rows.length (bnd rows.length M) < 2 ^ 3900
section
variable {n M : Nat} {rows : List (List Int)} {cells : List Int}
theorem Dw.prim (D : Dw n M rows) : (∀ r ∈ (rows.map toQ).map prim, r.length = n) ∧ (∀ r ∈ (rows.map toQ).map prim, Lw r) ∧ ∀ r ∈ (rows.map toQ).map prim, ∀ j, (r.getD j 0).natAbs ≤ M := by
  refine ⟨fun r hr => ?_, fun r hr => ?_, fun r hr j => ?_⟩
  all_goals
    obtain ⟨q, hq, rfl⟩ := List.mem_map.mp hr
    obtain ⟨l, hl, rfl⟩ := List.mem_map.mp hq
  · rw [prim_len, toQ_len]; exact D.len l hl
  · exact lw_prim _
  · rw [prim_toQ]; exact Nat.le_trans (lowest_leA l j) (D.sm l hl j)
theorem Dw.pr (D : Dw n M rows) : ∀ r ∈ rows.map toQ, PrimOk r := fun r hr => by
  obtain ⟨l, hl, rfl⟩ := List.mem_map.mp hr
  refine ⟨200, fun q hq => ?_, ?_, ?_⟩
  · obtain ⟨a, b⟩ := toQ_den hq
    obtain ⟨j, e⟩ := mem_getD0 b
    refine ⟨?_, by rw [a]; decide⟩
    rw [e]
    exact Nat.le_of_lt (lg_b (D.sm l hl j) D.bM (by decide))
  · rw [toQ_len, D.len l hl]; have := D.n2; omega
  · rw [toQ_len, D.len l hl]; have := D.n2; omega
theorem upto_len (n : Nat) : (upto n).length = n := by unfold upto; rw [List.length_map, List.length_range]
theorem upto_mem {n : Nat} {c : Int} : c ∈ upto n ↔ 0 ≤ c ∧ c < (n : Int) := by
  unfold upto
  rw [List.mem_map]
  constructor
  · rintro ⟨i, hi, rfl⟩
    have := List.mem_range.mp hi
    omega
  · exact fun h => ⟨c.toNat, List.mem_range.mpr (by omega), by omega⟩
theorem Dw.fr (D : Dw n M rows) : FrOk n (rows.map toQ) where
  n1 := by have := D.n2; omega
  n2 := by rw [List.length_map]; have := D.m; omega
  pr := D.pr
  cl := clrOk_of (M := M) (e := 3900) (by have := D.n2; omega) D.prim.1 D.prim.2.1 D.prim.2.2 (by rw [List.length_map, List.length_map]; have := D.m; omega) (by rw [upto_len]; have := D.n2; omega) (fun c hc => upto_mem.mp hc) (by decide) (by decide) (by rw [List.length_map, List.length_map]; exact D.b1)
abbrev frm (n : Nat) (rows : List (List Int)) : List (List Int) := frameQ (rows.map toQ) n
theorem Dw.fo (D : Dw n M rows) : FO (frm n rows) n (Sp (rows.map vi)) := by
  have := frameQ_fo (rows := rows.map toQ) (n := n) fun r hr => by
    obtain ⟨l, hl, rfl⟩ := List.mem_map.mp hr
    rw [toQ_len]; exact D.len l hl
  rwa [toQ_vq] at this
theorem Dw.fsm (D : Dw n M rows) : ∀ r ∈ frm n rows, ∀ j, (r.getD j 0).natAbs ≤ bnd rows.length M := by
  have := frameZ_small (n := n) D.prim.1 D.prim.2.1 D.prim.2.2
  rwa [List.length_map, List.length_map] at this
/-! what the clearing tells -/
variable {s : Cst} {S O F : List (List Int)} {V : Vc → Prop}
/-- sums of multiples by the leads -/
def sumQ : List (List Int) → List Nat → Vc → Nat → Rat
  | l :: L, k :: K, x, c => vi l c / vi l k * x k + sumQ L K x c
  | _, _, _, _ => 0
theorem dg_sum : ∀ {L : List (List Int)} {K : List Nat} (x : Vc), Dg (L.map vi) K → ∃ z, Sp (L.map vi) z ∧ (∀ k ∈ K, z k = x k) ∧ ∀ c, z c = sumQ L K x c
  | [], [], x, _ => ⟨fun _ => 0, fun _ => rfl, fun k h => (List.not_mem_nil h).elim, fun c => rfl⟩
  | l :: L, k :: K, x, ⟨h1, h2, h3, h4⟩ => by
    obtain ⟨z, a, b, e⟩ := dg_sum x h4
    have zk : z k = 0 := sp_at h2 a
    refine ⟨fun j => z j + x k / vi l k * vi l j, ⟨x k / vi l k, a.to fun j => by grind⟩, fun d hd => ?_, fun c => ?_⟩
    · show z d + x k / vi l k * vi l d = x d
      rcases List.mem_cons.mp hd with y | y
      · rw [y, zk]; grind
      · rw [b d y, h3 d y]; grind
    · show z c + x k / vi l k * vi l c = vi l c / vi l k * x k + sumQ L K x c
      rw [e c]
      grind
  | [], _ :: _, _, h => h.elim
  | _ :: _, [], _, h => h.elim
theorem dg_get : ∀ {L : List (List Int)} {K : List Nat} {i : Nat}, Dg (L.map vi) K → i < K.length → (L.getD i []).getD (K.getD i 0) 0 ≠ 0
  | l :: L, k :: K, 0, h, _ => fun z => h.1 (vi_zero.mpr z)
  | l :: L, k :: K, i + 1, h, hi => dg_get (L := L) (K := K) (i := i) h.2.2.2 (by simpa using hi)
  | [], [], i, _, hi => absurd hi (Nat.not_lt_zero _)
  | [], _ :: _, _, h, _ => h.elim
  | _ :: _, [], _, h, _ => h.elim
theorem getD_mapT (K : List Int) (i : Nat) : (K.map Int.toNat).getD i 0 = (K.getD i 0).toNat := by
  rw [List.getD_eq_getElem?_getD, List.getD_eq_getElem?_getD, List.getElem?_map]
  cases K[i]? <;> rfl
end
end DL

set_option Elab.async false
set_option linter.all false
set_option maxRecDepth 100000
set_option maxHeartbeats 4000000
/-! the rows that the law of settled cells draws; what it finds in them -/
namespace DL
open PySem PySem.Spec PyProof.Rows L2
section
variable {ds : List Int} {n many k j : Nat}
end
/-! the rows -/
theorem small_getD {r : List Int} {M : Nat} (h : ∀ x ∈ r, x.natAbs ≤ M) (j : Nat) : (r.getD j 0).natAbs ≤ M := by
  by_cases hj : j < r.length
  · exact h _ (getD_memI hj)
  · rw [getD_ge (by omega)]; exact Nat.zero_le _
/-! the law's own clearing, as it walks -/
def splS (c : Nat) (s : Option (List Int) × List (List Int)) (r : List Int) : Option (List Int) × List (List Int) := if s.1.isNone && !decide (r.getD c 0 = 0) then (some r, s.2) else (s.1, s.2 ++ [r])
def spl (R : List (List Int)) (c : Nat) : Option (List Int) × List (List Int) := R.foldl (splS c) (none, [])
theorem spl_step {R : List (List Int)} {c i : Nat} (h : i < R.length) : spl (R.take (i + 1)) c = splS c (spl (R.take i) c) (R.getD i []) := by
  unfold spl
  rw [take_snoc (d := []) h, List.foldl_append]
  rfl
theorem spl_is (R : List (List Int)) (c : Nat) : spl R c = match leadAt R c with
  | none => (none, R)
  | some k => (some (R.getD k []), R.take k ++ R.drop (k + 1)) := by
  have after : ∀ (B : List (List Int)) (r : List Int) (A : List (List Int)), B.foldl (splS c) (some r, A) = (some r, A ++ B) := fun B => by
    induction B with
    | nil => exact fun r A => by rw [List.append_nil]; rfl
    | cons b B ih =>
      intro r A
      rw [List.foldl_cons]
      have e : splS c (some r, A) b = (some r, A ++ [b]) := rfl
      rw [e, ih, List.append_assoc]
      rfl
  have before : ∀ (B A : List (List Int)), (∀ r ∈ B, r.getD c 0 = 0) → B.foldl (splS c) (none, A) = (none, A ++ B) := fun B => by
    induction B with
    | nil => exact fun A _ => by rw [List.append_nil]; rfl
    | cons b B ih =>
      intro A h
      rw [List.foldl_cons]
      have hb := h b (List.mem_cons_self ..)
      have e : splS c (none, A) b = (none, A ++ [b]) := by
        unfold splS
        exact if_neg fun z => by rw [decide_eq_true hb] at z; cases z
      rw [e, ih _ fun r hr => h r (List.mem_cons_of_mem _ hr), List.append_assoc]
      rfl
  unfold spl
  cases h : leadAt R c with
  | none => exact before R [] (leadAt_none h)
  | some k =>
    obtain ⟨h1, h2, h3⟩ := leadAt_some h
    have hz : ∀ r ∈ R.take k, r.getD c 0 = 0 := fun r hr => by
      obtain ⟨j, hj, rfl⟩ := List.mem_iff_getElem.mp hr
      refine Classical.byContradiction fun z => ?_
      have hj2 : j < k ∧ j < R.length := by rw [List.length_take] at hj; exact Nat.lt_min.mp hj
      rw [List.getElem_take] at z
      obtain ⟨m, hm, hm2, hm3⟩ : ∃ m, m < k ∧ (R.getD m []).getD c 0 ≠ 0 ∧ ∀ i, i < m → (R.getD i []).getD c 0 = 0 := by
        have hex : ∃ m, m < k ∧ (R.getD m []).getD c 0 ≠ 0 := ⟨j, hj2.1, by
          have e : R.getD j [] = R[j] := by rw [List.getD_eq_getElem?_getD, List.getElem?_eq_getElem hj2.2]; rfl
          rw [e]; exact z⟩
        obtain ⟨m, hm⟩ : ∃ m, (m < k ∧ (R.getD m []).getD c 0 ≠ 0) ∧ ∀ i, i < m → ¬ (i < k ∧ (R.getD i []).getD c 0 ≠ 0) := by
          refine Classical.byContradiction fun no => ?_
          have : ∀ m, ¬ (m < k ∧ (R.getD m []).getD c 0 ≠ 0) := fun m => by
            induction m using Nat.strongRecOn with
            | _ m ih => exact fun y => no ⟨m, y, ih⟩
          obtain ⟨m, y⟩ := hex
          exact this m y
        exact ⟨m, hm.1.1, hm.1.2, fun i hi => Classical.byContradiction fun y => hm.2 i hi ⟨by omega, y⟩⟩
      have := leadAt_at (by omega) hm3 hm2
      rw [h] at this
      cases this
      omega
    show _ = (some (R.getD k []), R.take k ++ R.drop (k + 1))
    generalize hld : R.getD k [] = lead at h2 h3 ⊢
    generalize hA : R.take k = A at h3 hz ⊢
    generalize hB : R.drop (k + 1) = B at h3 ⊢
    rw [h3, List.foldl_append, before A [] hz, List.foldl_cons, List.nil_append]
    have e : splS c (none, A) lead = (some lead, A) := by
      unfold splS
      exact if_pos (by rw [decide_eq_false h2]; rfl)
    rw [e, after]
theorem lk_t {rows : List (List Int)} {i : Nat} {l : List Int} (h : (spl (lk rows i).2 i).1 = some l) : lk rows (i + 1) = ((lk rows i).1 + 1, (spl (lk rows i).2 i).2.map fun row => lcl row l i) := by
  rw [lk_succ]
  rw [spl_is] at h ⊢
  generalize lk rows i = s at h ⊢
  unfold lkStep
  cases e : leadAt s.2 i with
  | none => rw [e] at h; cases h
  | some k =>
    rw [e] at h
    have h : some (s.2.getD k []) = some l := h
    cases h
    rfl
theorem lk_f {rows : List (List Int)} {i : Nat} (h : (spl (lk rows i).2 i).1 = none) : lk rows (i + 1) = lk rows i := by
  rw [lk_succ]
  rw [spl_is] at h
  generalize lk rows i = s at h ⊢
  unfold lkStep
  cases e : leadAt s.2 i with
  | none => rfl
  | some k => rw [e] at h; cases h
section
variable {K : PySem.W.Frag} {ds : List Int} {n many i : Nat}
end
theorem lc_mapI {xs : List Int} {g : Int → Int} : List.map (fun i : Nat => rInt (g (xs.getD i 0))) (List.filter (fun _ => true) (List.range xs.length)) = List.map rInt (xs.map g) := (lc_map (f := fun x => rInt (g x))).trans (by rw [List.map_map]; rfl)
theorem lc_mapL {K : PySem.W.Frag} {xs : List (List Int)} {g : List Int → List Int} : List.map (fun i : Nat => rLst K ((g (xs.getD i [])).map rInt)) (List.filter (fun _ => true) (List.range xs.length)) = List.map (fun l => rLst K (List.map rInt l)) (xs.map g) := (lc_map (f := fun x => rLst K ((g x).map rInt))).trans (by rw [List.map_map]; rfl)
end DL

set_option Elab.async false
set_option linter.all false
set_option maxRecDepth 100000
set_option maxHeartbeats 4000000
/-! the law's own clearing: what its steps ask -/
namespace DL
open PySem PySem.Spec PyProof.Rows L2
theorem lmade_lc {row lead : List Int} {c : Nat} : List.map (fun i : Nat => rInt (row.getD i 0 * lead.getD c 0 - lead.getD i 0 * row.getD c 0)) (List.filter (fun _ => true) (List.range ((row.length : Nat) : Int).toNat)) = List.map rInt (lmade row lead c) := by
  rw [List.filter_eq_self.mpr (fun _ _ => rfl)]
  unfold lmade
  rw [List.map_map]
  rfl
theorem lmade_len (row lead : List Int) (c : Nat) : (lmade row lead c).length = row.length := by unfold lmade; rw [List.length_map, List.length_range]
theorem lcl_t {row lead : List Int} {c : Nat} (h : decide (((gl (lmade row lead c) : Nat) : Int) = 0) = true) : lmade row lead c = lcl row lead c := by
  have h := of_decide_eq_true h
  have e : lcl row lead c = if gl (lmade row lead c) = 0 then lmade row lead c else (lmade row lead c).map fun x => x.fdiv (gl (lmade row lead c) : Nat) := rfl
  rw [e, if_pos (by omega)]
theorem lcl_f {row lead : List Int} {c : Nat} (h : decide (((gl (lmade row lead c) : Nat) : Int) = 0) = false) : (lmade row lead c).map (fun x => x.fdiv (gl (lmade row lead c) : Nat)) = lcl row lead c := by
  have h := of_decide_eq_false h
  have e : lcl row lead c = if gl (lmade row lead c) = 0 then lmade row lead c else (lmade row lead c).map fun x => x.fdiv (gl (lmade row lead c) : Nat) := rfl
  rw [e, if_neg (by omega)]
theorem gl_lgT {l : List Int} {i m : Nat} (h : ∀ j, Lg (l.getD j 0) < m) (hm : 0 < m) : Lg ((gl (l.take i) : Nat) : Int) < m := by
  by_cases z : ∀ x ∈ l.take i, x = 0
  · have : gl (l.take i) = 0 := by
      have : (0 : Nat) ∣ gl (l.take i) := gl_dvd.mpr fun x hx => by rw [z x hx]; exact Int.dvd_refl _
      exact Nat.zero_dvd.mp this
    rw [this]
    exact hm
  · obtain ⟨x, hx, hx0⟩ : ∃ x, x ∈ l.take i ∧ x ≠ 0 := Classical.byContradiction fun no => z fun x hx => Classical.byContradiction fun y => no ⟨x, hx, y⟩
    have h1 := (gl_dvd (d := gl (l.take i)) (ns := l.take i)).mp (Nat.dvd_refl _) x hx
    obtain ⟨j, e⟩ := mem_getD0 (List.mem_of_mem_take hx)
    have h2 : (gl (l.take i)) ≤ x.natAbs := Nat.le_of_dvd (by omega) (by have := Int.natAbs_dvd_natAbs.mpr h1; rwa [Int.natAbs_natCast] at this)
    have h3 : Lg ((gl (l.take i) : Nat) : Int) ≤ Lg x := lg_le (by rw [Int.natAbs_natCast]; exact h2)
    have := h j
    rw [← e] at this
    omega
/-! the count -/
structure RkOk (n : Nat) (rows : List (List Int)) (lot : List Int) : Prop where
  d : Dw n 288 rows
  m : rows.length < 6
  l : lot.length ≤ 40
  inn : ∀ c ∈ lot, 0 ≤ c ∧ c < (n : Int)
section
variable {n i : Nat} {rows : List (List Int)} {lot : List Int}
theorem spl_sub {R : List (List Int)} {c m : Nat} (hm : m ≤ R.length) : (∀ r ∈ (spl (R.take m) c).2, r ∈ R) ∧ (spl (R.take m) c).2.length ≤ m ∧ ∀ l, (spl (R.take m) c).1 = some l → l ∈ R ∧ l.getD c 0 ≠ 0 := by
  induction m with
  | zero =>
    rw [List.take_zero]
    exact ⟨fun r h => (List.not_mem_nil h).elim, Nat.le_refl _, fun l h => by cases h⟩
  | succ m ih =>
    obtain ⟨a, b, d⟩ := ih (by omega)
    have hr := getD_memL (l := R) (i := m) (by omega)
    rw [spl_step (by omega)]
    unfold splS
    split
    · rename_i hz
      refine ⟨a, by show (spl (R.take m) c).2.length ≤ m + 1; omega, fun l h => ?_⟩
      cases h
      refine ⟨hr, fun z => ?_⟩
      rw [decide_eq_true z, Bool.not_true, Bool.and_false] at hz
      cases hz
    · refine ⟨fun r h => ?_, ?_, d⟩
      · rcases List.mem_append.mp h with z | z
        · exact a r z
        · rw [List.mem_singleton.mp z]; exact hr
      · show ((spl (R.take m) c).2 ++ [R.getD m []]).length ≤ _
        rw [List.length_append]
        show _ + 1 ≤ _
        omega
theorem spl_t {R : List (List Int)} {c m : Nat} (hm : m < R.length) (h : ((spl (R.take m) c).1.isNone && !decide ((R.getD m []).getD c 0 = 0)) = true) : spl (R.take (m + 1)) c = (some (R.getD m []), (spl (R.take m) c).2) := by
  rw [spl_step hm]
  exact if_pos h
theorem spl_f {R : List (List Int)} {c m : Nat} (hm : m < R.length) (h : ((spl (R.take m) c).1.isNone && !decide ((R.getD m []).getD c 0 = 0)) = false) : spl (R.take (m + 1)) c = ((spl (R.take m) c).1, (spl (R.take m) c).2 ++ [R.getD m []]) := by
  rw [spl_step hm]
  exact if_neg fun z => Bool.false_ne_true (h.symm.trans z)
theorem spl_all {R : List (List Int)} {c : Nat} : spl (R.take R.length) c = spl R c := by rw [List.take_length]
theorem isNone_f {α : Type} {o : Option α} {d : α} (h : o.isNone = false) : o = some (o.getD d) := by cases o with | none => cases h | some x => rfl
theorem isNone_t {α : Type} {o : Option α} (h : o.isNone = true) : o = none := by cases o with | none => rfl | some x => cases h
theorem spl_in {R : List (List Int)} {c : Nat} : (∀ r ∈ (spl R c).2, r ∈ R) ∧ ∀ l, (spl R c).1 = some l → l ∈ R := by
  have h := spl_sub (R := R) (c := c) (Nat.le_refl _)
  rw [spl_all] at h
  exact ⟨h.1, fun l hl => (h.2.2 l hl).1⟩
end
end DL

set_option Elab.async false
set_option linter.all false
set_option maxRecDepth 100000
set_option maxHeartbeats 4000000
/-! the free cells as the law finds them, and as the program does -/
namespace DL
open PySem PySem.Spec PyProof.Rows L2
structure FfOk (n : Nat) (rows : List (List Int)) : Prop where
  d : Dw n 288 rows
  m : rows.length < 6
section
variable {n i : Nat} {rows : List (List Int)} {lot : List Int}
/-! the program's -/
end
end DL

set_option Elab.async false
set_option linter.all false
set_option maxRecDepth 100000
set_option maxHeartbeats 4000000
/-! the factors of a settled cell -/
namespace DL
open PySem PySem.Spec PyProof.Rows L2
structure RlOk (names : List Str) (rows : List (List Int)) (lot : List Int) : Prop where
  d : Dw names.length 288 rows
  m : rows.length < 6
  inn : ∀ c ∈ lot, 0 ≤ c ∧ c < (names.length : Int)
  l : lot.length < 63
abbrev bkR (names : List Str) (rows : List (List Int)) : Bk := ⟨names, frm names.length rows⟩
section
variable {names : List Str} {rows : List (List Int)} {lot : List Int} {c : Nat}
variable {i j : Nat}
end
end DL

set_option Elab.async false
set_option linter.all false
set_option maxRecDepth 100000
set_option maxHeartbeats 4000000
/-! refusals of cells -/
namespace DL
open PySem PySem.Spec PyProof.Rows L2
structure NcOk (b : Bk) (cells : List Int) : Prop where
  l : cells.length < 63
  ok : ¬ (badC b.size cells).isSome = true → ClrOk b.size b.frame (sset cells)
  sz : b.size ≤ 1000
  ru : RuleOk b cells
structure NcBad (b : Bk) (cells : List Int) (c d x : Int) : Prop where
  ok : NcOk b cells
  d0 : 0 ≤ d
  d3 : d ≤ 3
  bad : badC b.size cells = some x ∨ (d = 3 ∧ badC b.size cells = none ∧ ¬ (0 ≤ c ∧ c < (b.size : Int)) ∧ x = c)
section
variable {b : Bk} {cells : List Int} {c d x k : Int}
end
end DL

set_option Elab.async false
set_option linter.all false
set_option maxRecDepth 100000
set_option maxHeartbeats 4000000
namespace DL
open PySem PySem.Spec PyProof.Rows L2
structure BsOk (names : List Str) (lot : List Int) : Prop where
  n1 : 1 ≤ names.length
  n2 : names.length ≤ 16
  nm : namesOk names = true
  nl : ∀ x ∈ names, x.length ≤ 100000
  inn : ∀ c ∈ lot, 0 ≤ c ∧ c < (names.length : Int)
  l : lot.length < 63
section
variable {names : List Str} {lot : List Int} {c n : Nat}
/-! all tables -/
/-! zeros alone -/
end
end DL

set_option Elab.async false
set_option linter.all false
set_option maxRecDepth 100000
set_option maxHeartbeats 4000000
/-! the law of settled cells as a whole -/
namespace DL
open PySem PySem.Spec PyProof.Rows L2
section
variable {names : List Str} {rows : List (List Int)} {lot : List Int} {c : Nat}
end
/-! what is drawn -/
def nameK (k : Nat) : Str := ("c" : Str) ++ ((toString ((k : Nat) : Int) : String) : Str)
theorem nameK_len : ∀ k : Nat, k < 17 → ("c" : Str).length + ((toString ((k : Nat) : Int) : String) : Str).length ≤ 10 := by decide +kernel
def namesL (n : Nat) : List Str := (List.range n).map nameK
theorem namesL_ok : ∀ n : Nat, n < 17 → namesOk (namesL n) = true ∧ (namesL n).all (fun x => decide (x.length ≤ 100000)) = true := by decide +kernel
end DL

set_option Elab.async false
set_option linter.all false
set_option maxRecDepth 100000
set_option maxHeartbeats 4000000
/-! enumerate of a row, a list or a tuple -/
namespace DL
open PySem PySem.Spec PyProof.Rows L2
theorem draws_sq {prog : Program} {w : World} {A : Around} (hh : A.handled = none) (t : Bool) (it l : Addr) (hne : l ≠ it) (items : Array Value) :
    Draws prog w A it [it, l] items.size (fun i v => items[i]? = some v) (fun i h => IsSqI t h it l i ∧ IsSq t h l items) where
  live := fun _ _ st => let ⟨o, ho, _⟩ := st.1.ob; ⟨o, ho⟩
  frame := fun _ _ _ st hk => ⟨st.1.keep fun o e => hk it (by simp) o e, st.2.keep fun o e => hk l (by simp) o e⟩
  item := fun i s Q E hi st hQ => by
    refine sq_next st.1 st.2 (x := items[i]) (by simp [hi]) fun h' hit' hs' => ?_
    exact hQ _ h' s.toks (by simp [hi]) ⟨hit', st.2.keep fun o e => hs'.extBut _ _ hne e⟩ hs'
  done := fun s Q E st hE => sq_stop hh st.1 st.2 (by simp) hE
theorem en_meets (t : Bool) (l : Addr) (items : Array Value) : Meets (Builtin.«enumerate.__new__» ⟨[.type "enumerate", .ref l], []⟩) (fun _ R s => IsSq t s.heap l items ∧
      R (.ok (.ret (.ref (s.heap.push (itObj t l)).objs.size))) { s with heap := (s.heap.push (itObj t l)).push { cls := .type "enumerate", data := .fields #[.none, .bool false, .ref s.heap.objs.size, rawInt 0, .none, .none] } }) :=
  .of_wp fun prog w A R s h => by
    obtain ⟨hp, g, d, tk, os⟩ := s
    obtain ⟨ha, h⟩ := h
    have hsub := sub_enumerate
    cases t
    · have ia : Heap.IsList (Shared.heap ⟨hp, g, d, tk, os⟩) l items := ha
      wp_walk using wpAny_pyIter_list ia
      refine wpAny_stack_any fun st => wpAny_pure ?_
      split
      · rename_i c _ _ _ _ _
        cases (c == Value.type "enumerate")
        · wp_walk using wpAny_pyIter_list ia
          exact ⟨_, rfl, h⟩
        · wp_walk using wpAny_pyIter_list ia
          exact ⟨_, rfl, h⟩
      · wp_walk using wpAny_pyIter_list ia
        exact ⟨_, rfl, h⟩
    · have ia : Heap.IsTuple (Shared.heap ⟨hp, g, d, tk, os⟩) l items := ha
      wp_walk using wpAny_pyIter_tuple ia
      refine wpAny_stack_any fun st => wpAny_pure ?_
      split
      · rename_i c _ _ _ _ _
        cases (c == Value.type "enumerate")
        · wp_walk using wpAny_pyIter_tuple ia
          exact ⟨_, rfl, h⟩
        · wp_walk using wpAny_pyIter_tuple ia
          exact ⟨_, rfl, h⟩
      · wp_walk using wpAny_pyIter_tuple ia
        exact ⟨_, rfl, h⟩
theorem en_made {P : Program} {w : World} {A : Around} {E : Value → Shared → Prop} {s : Shared} {t : Bool} {l : Addr} {items : Array Value} {Q : Value → Shared → Prop} (hL : IsSq t s.heap l items)
    (h : ∀ h', IsEnum h' (s.heap.objs.size + 1) s.heap.objs.size 0 .none → IsSqI t h' s.heap.objs.size l 0 → h'.objs.size = s.heap.objs.size + 2 →
      (∀ b o, s.heap.get? b = some o → h'.get? b = some o) → Q (.ref (s.heap.objs.size + 1)) { s with heap := h' }) :
    wpAny (model P w) A (call (.type "enumerate") [.ref l]) Q E s := by
  refine callType_new F.called_enumerate (by decide) (F.typeCall_enumerate_1 _) (F.newCall_enumerate_1 _) (fun obj => F.args_object_init_2 obj _) F.entry_enumerate_new (en_meets t l items) ⟨hL, ?_⟩
  have hz : (s.heap.push (itObj t l)).objs.size = s.heap.objs.size + 1 := Heap.size_push ..
  show _ ∧ _
  rw [hz]
  have he : IsEnum ((s.heap.push (itObj t l)).push { cls := .type "enumerate", data := .fields #[.none, .bool false, .ref s.heap.objs.size, rawInt 0, .none, .none] }) (s.heap.objs.size + 1) s.heap.objs.size 0 .none := by
    have := Heap.get?_push_size (s.heap.push (itObj t l)) (o := { cls := .type "enumerate", data := .fields #[.none, .bool false, .ref s.heap.objs.size, rawInt 0, .none, .none] }) rfl
    rw [hz] at this; exact this
  exact ⟨⟨_, he, rfl⟩, h _ he (isSqI_new (Heap.get?_push_of_some _ (Heap.get?_push_size _ (by cases t <;> rfl)))) (by rw [Heap.size_push, hz]) fun b o x => Heap.get?_push_of_some _ (Heap.get?_push_of_some _ x)⟩
/-- the row at a as it stands at each turn, each item in a new pair -/
def IteB (t : Bool) (K : PySem.W.Frag) (a : Addr) : It :=
  ⟨fun i H => ∃ (xs : List V) (x : V), SqB t K H a xs ∧ xs[i]? = some x, fun i H v H' => ∃ T x, v = .ref T ∧ H T = none ∧ H' = upd H T (.tup [.int (i : Nat), x]) ∧ ∀ xs, SqB t K H a xs → xs[i]? = some x, fun i H => ∃ xs : List V, SqB t K H a xs ∧ xs.length ≤ i⟩
theorem turn_en {P : Program} {w : World} {K : PySem.W.Frag} {elts : List Expr} {kk : Nat} {tpos : Pos} {t : Bool} (a e it : Addr) (hei : e ≠ it) (hea : a ≠ e) (hia : a ≠ it) :
    Turn P w K (.Tuple elts kk tpos) (IteB t K a) [e, it] e (fun i h => (∃ old, IsEnum h e it ((i : Nat) : Int) old) ∧ IsSqI t h it a i) where
  mem := by simp
  obj := fun i h st b hb => by
    obtain ⟨⟨old, he⟩, hi⟩ := st
    have e' : b = e ∨ b = it := by simpa using hb
    rcases e' with z | z
    · rw [z]; exact ⟨_, he, fun v q => nomatch q⟩
    · rw [z]; exact hi.ob
  keep := fun i h h' st k => let ⟨⟨old, he⟩, hi⟩ := st; ⟨⟨old, k e (by simp) _ he⟩, hi.keep fun o q => k it (by simp) o q⟩
  item := by
    intro X hP hw hK hc i pins s σ H E I hf st hg
    subst hP hw hK
    obtain ⟨⟨old, he⟩, hit⟩ := st
    obtain ⟨xs, x, hq, hx⟩ := hg
    obtain ⟨its, rv, p, hz⟩ := inv_sq I hq
    obtain ⟨u, hu, ru⟩ := rv.get hx
    have hel : e < s.heap.objs.size := Heap.lt_size he
    have hil : it < s.heap.objs.size := by obtain ⟨_, q, _⟩ := hit.ob; exact Heap.lt_size q
    have hlt : i < its.toArray.size := by
      have := (List.getElem?_eq_some_iff.mp hu).1
      simpa using this
    refine wpAny_pyNext_enum_itemD (draws_sq (A := X.A.in1) (I.ok.hd hc) t it a hia its.toArray) he ⟨hit, p⟩ hlt hei (fun z => by
      have : e = it ∨ e = a := by simpa using z
      exact this.elim hei fun y => hea y.symm) fun y h' tk hy ho hit' hT hsz hk => ?_
    have hyu : y = u := by
      have h1 : its.toArray[i]? = some y := hy
      rw [List.getElem?_toArray, hu] at h1
      exact (Option.some.inj h1).symm
    subst hyu
    refine ⟨_, rfl, wpAny_letOwnedTupleGo_enum (s := { s with heap := h', toks := tk + 1 }) ho fun h'' he' sb => ?_⟩
    have hT2 : h''.get? s.heap.objs.size = some { cls := .type "tuple", data := .seq #[.int i tk, y] } := (sb.2 _ (Nat.ne_of_gt hel)).trans hT
    have new : ObjOk X.prog X.w (upd H s.heap.objs.size (.tup [.int (i : Nat), x])) h'' s.heap.objs.size (.tup [.int (i : Nat), x]) :=
      ⟨by show 2 ≤ sizeLine; decide, [.int i tk, y], .cons ⟨_, rfl⟩ (.cons ru .nil), ⟨_, hT2, rfl, _, rfl⟩⟩
    have I1 : Inv X pins σ (upd H s.heap.objs.size (.tup [.int (i : Nat), x])) { s with heap := h'', toks := tk + 1 } :=
      I.turnedNew (ch := [e, it]) (fun b ob hb q => (sb.2 b (fun z => hb (by simp [z]))).trans (hk b ob (fun z => hb (by simp [z])) (fun z => hb (by simp [z])) q)) hf (Nat.le_refl _) new
    refine ⟨.ref s.heap.objs.size, _, I1, rfl, ⟨_, x, rfl, I.hok.fresh (Nat.le_refl _), rfl, fun ys hy => by rw [sq_inj I hy hq]; exact hx⟩, ⟨⟨y, ?_⟩, hit'.1.keep fun o q => (sb.2 it (Ne.symm hei)).trans q⟩, fun b hb => ?_⟩
    · have e1 : ((i + 1 : Nat) : Int) = (i : Int) + 1 := by omega
      rw [e1]; exact he'
    · have hb' : b < s.heap.objs.size := by
        have e' : b = e ∨ b = it := by simpa using hb
        rcases e' with z | z
        · rw [z]; exact hel
        · rw [z]; exact hil
      rw [upd_ne (Nat.ne_of_lt hb')]
      exact (hf b hb).1
  done := by
    intro X hP hw hK hc i pins s σ H E I hf st hg
    subst hP hw hK
    obtain ⟨⟨old, he⟩, hit⟩ := st
    obtain ⟨xs, hq, hx⟩ := hg
    obtain ⟨its, rv, p, hz⟩ := inv_sq I hq
    obtain ⟨f0, f1, f2, f3, f4, f5⟩ := hf it (by simp)
    have hl := rv.length
    have hT : s.TypeIs (.ref e) "enumerate" := ⟨_, he, rfl⟩
    unfold pyNext
    refine wpAny_bind (wpAny_attempt (wpAny_callSpecial?_slot (name := Str.ofString "__next__") hT F.slot_enumerate_next
      (wpAny_call_entry F.slot_enumerate_next hT F.entry_enumerate_next ?_ (F.args_enumerate_next_1 _))))
    show wpAny _ _ (field (.ref e) 2 >>= _) _ _ _
    refine wpAny_bind (wpAny_field he rfl (x := .ref it) rfl ?_)
    refine wpAny_bind (sq_stop (I.ok.hd hc) hit p (by simp; omega) fun h' x he' hx' => ?_)
    obtain ⟨o, ho, hc'⟩ := hx'
    refine wpAny_bind (wpAny_isInstance (T := "StopIteration") (b := true) ⟨o, ho, hc'⟩ isSubtype_stop ?_)
    exact wpAny_pure ⟨rfl, I.turned (t' := s.toks) (fun b o hb q => he' b o hb q) f0 f1 f3 f4 f5⟩
  self := fun A i s Q E st h => let ⟨⟨_, he⟩, _⟩ := st; wpAny_pyIter_enum he h
theorem pi_en {X : Cx} {e : Expr} {ta : TA} {p pos tpos : Pos} {elts : List Expr} {kk : Nat} (hg : Gl X "enumerate") (hm : X.mg "enumerate" = none) (ha : PA X [e] ta) (hs : starEach [e] X.env = [(false, eval e X.env)] := by rfl) :
    PI X (.Tuple elts kk tpos) (.Call (.Name "enumerate" p) [e] [] pos) (fun σ H R => ta σ H fun vs H1 => ∃ a xs t, vs = [.ref a] ∧ SqB t X.K H1 a xs ∧ R (IteB t X.K a) H1) := by
  refine ⟨fun pins s σ H R I h => ?_⟩
  refine Call_ (ld_blt I hg hm boot_enumerate (PyProof.Rows.callWith_type1 (thn (ha.run pos pins s σ H _ I h) fun us s1 ⟨vs, H1, I1, r1, q1⟩ => ?_) hs rfl))
  obtain ⟨a, xs, t, ex, hq, q⟩ := q1
  subst ex
  cases r1 with
  | cons r rr =>
    cases rr
    cases r
    obtain ⟨its, rv, p', hz⟩ := inv_sq I1 hq
    refine en_made p' fun h' he hit hsz2 hk => wpAny_pyIter_enum he ?_
    have I2 : Inv X pins σ H1 { s1 with heap := h' } := I1.kept (t' := s1.toks) hk
    refine ⟨s1.heap.objs.size + 1, [s1.heap.objs.size + 1, s1.heap.objs.size], _, _, H1, rfl, I2, turn_en a (s1.heap.objs.size + 1) s1.heap.objs.size (Nat.succ_ne_self _) (Nat.ne_of_lt (Nat.lt_succ_of_lt hz)) (Nat.ne_of_lt hz), ⟨⟨.none, he⟩, hit⟩, fun b hb => ?_, q⟩
    have e' : b = s1.heap.objs.size + 1 ∨ b = s1.heap.objs.size := by simpa using hb
    have hle : s1.heap.objs.size ≤ b := by
      rcases e' with z | z
      · rw [z]; exact Nat.le_add_right _ _
      · rw [z]; exact Nat.le_refl _
    exact I1.fpOk hle (I1.hok.fresh hle)
section
variable {X : Cx} {N : List Str} {sc : Scope} {k j : Nat} {Γ : List Sl} {tg it : Expr} {es : List Expr} {l : List Rep} {pos p : Pos} {α : Type} {R : α → Rep} {xs : List α}
theorem sr_enumS {jj : Nat} {tpos : Pos} (B : BX X N sc k) (hm : X.mg "enumerate" = none) (h : DE X Γ it (rSeq X.K l)) (hg : sc.names.lookup ("enumerate" : Str) = some NameKind.globalImplicit) (hs : starEach [it] X.env = [(false, eval it X.env)] := by rfl) :
    SR X Γ (.Tuple es jj tpos) (.Call (.Name "enumerate" p) [it] [] pos) l.length (fun i => rTup X.K [rInt (i : Nat), l.getD i rNon]) := fun F0 H0 F H σ en R q => by
  have hgl : Gl X "enumerate" := by
    show X.env.scope.names.lookup _ = _
    rw [B.hsc]
    exact hg
  refine .of (pi_en hgl hm (pa_cons pe_ev pa_nil hs) hs) (h F0 H0 F H σ en _ fun v F1 H1 g hv => ?_)
  obtain ⟨p, vs, rfl, hsq, hl⟩ := hv
  obtain ⟨t, hsq⟩ := hsq.b
  refine ⟨p, vs, t, rfl, hsq.mono g.s, q _ F1 H1 g ⟨fun i H2 s hi => ⟨vs, hsq.mono s, ?_⟩, fun i H2 s hi => ?_, fun i F2 H2 x H' s s2 hi hy => ?_⟩⟩
  · rw [← hl.len]
    exact hi
  · have i1 : i < vs.length := hl.len ▸ hi
    exact ⟨vs, vs[i], hsq.mono s, List.getElem?_eq_getElem i1⟩
  · obtain ⟨T, y, rfl, nT, rfl, f1⟩ := hy
    obtain ⟨r1, e1, k1⟩ := hl.got (f1 vs (SqB.mono s2 (hsq.mono s)))
    refine ⟨_, .new s2 nT, T, _, rfl, SqT.of upd_same, ?_⟩
    have sn : Same F2 (upd F2 T (.tup [.int (i : Nat), y])) := same_new (s2.free nT)
    refine .cons rfl (.cons ?_ .nil)
    rw [List.getD_eq_getElem?_getD, e1]
    exact r1.mono (s.trans sn) k1
theorem sr_enumA {jj : Nat} {tpos : Pos} (d : α) (B : BX X N sc k) (hm : X.mg "enumerate" = none) (h : DE X Γ it (rSeq X.K (xs.map R))) (hg : sc.names.lookup ("enumerate" : Str) = some NameKind.globalImplicit) (hs : starEach [it] X.env = [(false, eval it X.env)] := by rfl) :
    SR X Γ (.Tuple es jj tpos) (.Call (.Name "enumerate" p) [it] [] pos) xs.length (fun i => rTup X.K [rInt (i : Nat), R (xs.getD i d)]) := by
  have z := sr_enumS (es := es) (jj := jj) (tpos := tpos) (p := p) (pos := pos) B hm h hg hs
  rw [List.length_map] at z
  exact z.to fun i hi => by rw [getD_map d hi]
end
end DL

set_option Elab.async false
set_option linter.all false
set_option maxRecDepth 100000
set_option maxHeartbeats 4000000
/-! zip of three rows, each a list or a tuple -/
namespace DL
open PySem PySem.Spec PyProof.Rows L2
theorem begins_sq (t : Bool) (l : Addr) (items : Array Value) : Begins (.ref l) (itObj t l) fun h => IsSq t h l items := by
  cases t with
  | false => exact begins_list l items
  | true => exact begins_tuple l items
def It3 (t u v : Bool) (K : PySem.W.Frag) (a b c : Addr) (n1 n2 n3 : Nat) : It :=
  ⟨fun i H => ∃ (xs ys zs : List V), SqB t K H a xs ∧ SqB u K H b ys ∧ SqB v K H c zs ∧ xs.length = n1 ∧ ys.length = n2 ∧ zs.length = n3 ∧ i < min (min n1 n2) n3,
    fun i H w H' => ∃ T x y z, w = .ref T ∧ H T = none ∧ H' = upd H T (.tup [x, y, z]) ∧ (∀ xs, SqB t K H a xs → xs[i]? = some x) ∧ (∀ ys, SqB u K H b ys → ys[i]? = some y) ∧ ∀ zs, SqB v K H c zs → zs[i]? = some z,
    fun i H => (∃ xs ys zs : List V, SqB t K H a xs ∧ SqB u K H b ys ∧ SqB v K H c zs ∧ xs.length = n1 ∧ ys.length = n2 ∧ zs.length = n3) ∧ min (min n1 n2) n3 ≤ i⟩
theorem turn_z3 {P : Program} {w : World} {K : PySem.W.Frag} {elts : List Expr} {kk : Nat} {tpos : Pos} {t u v : Bool} {a b c z TI TO i1 i2 i3 : Addr} {n1 n2 n3 : Nat} (S : ZipSep3 z TI TO i1 i2 i3 [i1, a] [i2, b] [i3, c]) (ha : a ≠ i1) (hb : b ≠ i2) (hc3 : c ≠ i3) :
    Turn P w K (.Tuple elts kk tpos) (It3 t u v K a b c n1 n2 n3) [z, TI, TO, i1, i2, i3] z (fun i h => IsZip h z TI TO .none ∧ IsTupOf3 h TI (.ref i1) (.ref i2) (.ref i3) ∧ (∃ x y q, IsTupOf3 h TO x y q) ∧ IsSqI t h i1 a i ∧ IsSqI u h i2 b i ∧ IsSqI v h i3 c i ∧ i ≤ min (min n1 n2) n3) where
  mem := by simp
  obj := fun i h ⟨hz, hTI, ⟨x, y, q, hTO⟩, h1, h2, h3, _⟩ d hd => by
    have e' : d = z ∨ d = TI ∨ d = TO ∨ d = i1 ∨ d = i2 ∨ d = i3 := by simpa using hd
    rcases e' with q | q | q | q | q | q <;> subst q
    · exact ⟨_, hz, fun v q => nomatch q⟩
    · exact ⟨_, hTI, fun v q => nomatch q⟩
    · exact ⟨_, hTO, fun v q => nomatch q⟩
    · exact h1.ob
    · exact h2.ob
    · exact h3.ob
  keep := fun i h h' ⟨hz, hTI, ⟨x, y, q, hTO⟩, h1, h2, h3, hi⟩ k => ⟨k z (by simp) _ hz, k TI (by simp) _ hTI, ⟨x, y, q, k TO (by simp) _ hTO⟩, h1.keep fun o q => k i1 (by simp) o q, h2.keep fun o q => k i2 (by simp) o q, h3.keep fun o q => k i3 (by simp) o q, hi⟩
  item := by
    intro X hP hw hK hc i pins s σ H E I hf st hg
    subst hP hw hK
    obtain ⟨hz, hTI, ⟨x0, y0, z0, hTO⟩, h1, h2, h3, _⟩ := st
    obtain ⟨xs, ys, zs, qx, qy, qz, lx, ly, lz', hi⟩ := hg
    obtain ⟨its, rv, p, _⟩ := inv_sq I qx
    obtain ⟨its2, rv2, p2, _⟩ := inv_sq I qy
    obtain ⟨its3, rv3, p3, _⟩ := inv_sq I qz
    have l1 := rv.length
    have l2 := rv2.length
    have l3 := rv3.length
    have lz : z < s.heap.objs.size := Heap.lt_size hz
    have hx : xs[i]? = some (xs[i]'(by omega)) := List.getElem?_eq_getElem _
    have hy : ys[i]? = some (ys[i]'(by omega)) := List.getElem?_eq_getElem _
    have hq : zs[i]? = some (zs[i]'(by omega)) := List.getElem?_eq_getElem _
    generalize xs[i]'(by omega) = x at hx
    generalize ys[i]'(by omega) = y at hy
    generalize zs[i]'(by omega) = q at hq
    obtain ⟨a1, hu, ra⟩ := rv.get hx
    obtain ⟨a2, hu2, rb⟩ := rv2.get hy
    obtain ⟨a3, hu3, rc⟩ := rv3.get hq
    refine wpAny_pyNext_zipD3_item S (draws_sq (A := X.A.in1) (I.ok.hd hc) t i1 a ha its.toArray) (draws_sq (A := X.A.in1) (I.ok.hd hc) u i2 b hb its2.toArray) (draws_sq (A := X.A.in1) (I.ok.hd hc) v i3 c hc3 its3.toArray) hz hTI hTO ⟨h1, p⟩ ⟨h2, p2⟩ ⟨h3, p3⟩ (by simp; omega) (by simp; omega) (by simp; omega)
      fun b1 b2 b3 h' tk e1 e2 e3 z' to' j1 j2 j3 pn sz kp => ⟨_, rfl, wpAny_letOwnedTupleGo_zip (s := { s with heap := h', toks := tk }) z' fun h2' z2' sb => ?_⟩
    have eb1 : b1 = a1 := by
      have h0 : its.toArray[i]? = some b1 := e1
      rw [List.getElem?_toArray, hu] at h0
      exact (Option.some.inj h0).symm
    have eb2 : b2 = a2 := by
      have h0 : its2.toArray[i]? = some b2 := e2
      rw [List.getElem?_toArray, hu2] at h0
      exact (Option.some.inj h0).symm
    have eb3 : b3 = a3 := by
      have h0 : its3.toArray[i]? = some b3 := e3
      rw [List.getElem?_toArray, hu3] at h0
      exact (Option.some.inj h0).symm
    subst eb1 eb2 eb3
    have pn2 : IsTupOf3 h2' s.heap.objs.size b1 b2 b3 := (sb.2 _ (Nat.ne_of_gt lz)).trans pn
    have new : ObjOk X.prog X.w (upd H s.heap.objs.size (.tup [x, y, q])) h2' s.heap.objs.size (.tup [x, y, q]) := ⟨by show 3 ≤ sizeLine; decide, [b1, b2, b3], .cons ra (.cons rb (.cons rc .nil)), ⟨_, pn2, rfl, _, rfl⟩⟩
    have no : ∀ {d : Addr}, d ∉ [z, TI, TO, i1, i2, i3] → d ≠ z ∧ d ≠ TO ∧ d ≠ i1 ∧ d ≠ i2 ∧ d ≠ i3 := fun hd => by simp at hd; exact ⟨hd.1, hd.2.2.1, hd.2.2.2.1, hd.2.2.2.2.1, hd.2.2.2.2.2⟩
    have I1 : Inv X pins σ (upd H s.heap.objs.size (.tup [x, y, q])) { s with heap := h2', toks := tk } :=
      I.turnedNew (t' := tk) (ch := [z, TI, TO, i1, i2, i3]) (fun d o hb' q' => by
        obtain ⟨c1, c2, c3, c4, c5⟩ := no hb'
        exact (sb.2 d c1).trans (kp d o c1 c2 c3 c4 c5 q')) hf (Nat.le_refl _) new
    refine ⟨.ref s.heap.objs.size, _, I1, rfl, ⟨_, x, y, q, rfl, I.hok.fresh (Nat.le_refl _), rfl, fun l hl => by rw [sq_inj I hl qx]; exact hx, fun l hl => by rw [sq_inj I hl qy]; exact hy, fun l hl => by rw [sq_inj I hl qz]; exact hq⟩, ⟨z2', ?_, ⟨b1, b2, b3, ?_⟩, ?_, ?_, ?_, by omega⟩, fun d hd => ?_⟩
    · exact (sb.2 _ S.TIz).trans (kp _ _ S.TIz S.TITO S.TIi1 S.TIi2 S.TIi3 hTI)
    · exact (sb.2 _ S.TOz).trans to'
    · exact j1.1.keep fun o q => (sb.2 _ S.zi1.symm).trans q
    · exact j2.1.keep fun o q => (sb.2 _ S.zi2.symm).trans q
    · exact j3.1.keep fun o q => (sb.2 _ S.zi3.symm).trans q
    · have lc : d < s.heap.objs.size := by
        have e' : d = z ∨ d = TI ∨ d = TO ∨ d = i1 ∨ d = i2 ∨ d = i3 := by simpa using hd
        rcases e' with q | q | q | q | q | q <;> subst q
        · exact lz
        · exact Heap.lt_size hTI
        · exact Heap.lt_size hTO
        · obtain ⟨_, e1, _⟩ := h1.ob; exact Heap.lt_size e1
        · obtain ⟨_, e2, _⟩ := h2.ob; exact Heap.lt_size e2
        · obtain ⟨_, e3, _⟩ := h3.ob; exact Heap.lt_size e3
      rw [upd_ne (Nat.ne_of_lt lc)]
      exact (hf d hd).1
  done := by
    intro X hP hw hK hc i pins s σ H E I hf st hg
    subst hP hw hK
    obtain ⟨hz, hTI, ⟨x0, y0, z0, hTO⟩, h1, h2, h3, hi⟩ := st
    obtain ⟨⟨xs, ys, zs, qx, qy, qz, lx, ly, lz'⟩, hend⟩ := hg
    obtain ⟨its, rv, p, _⟩ := inv_sq I qx
    obtain ⟨its2, rv2, p2, _⟩ := inv_sq I qy
    obtain ⟨its3, rv3, p3, _⟩ := inv_sq I qz
    have l1 := rv.length
    have l2 := rv2.length
    have l3 := rv3.length
    refine wpAny_pyNext_zipD3_end S (draws_sq (A := X.A.in1) (I.ok.hd hc) t i1 a ha its.toArray) (draws_sq (A := X.A.in1) (I.ok.hd hc) u i2 b hb its2.toArray) (draws_sq (A := X.A.in1) (I.ok.hd hc) v i3 c hc3 its3.toArray) hz hTI hTO ⟨h1, p⟩ ⟨h2, p2⟩ ⟨h3, p3⟩ (by simp; omega) (by simp; omega) (by simp; omega) (by simp; omega)
      fun h' tk kp => ⟨rfl, I.turnedL (t' := tk) (ch := [z, TI, TO, i1, i2, i3]) (fun d o hb' q => ?_) hf⟩
    simp at hb'
    exact kp d o hb'.1 hb'.2.2.1 hb'.2.2.2.1 hb'.2.2.2.2.1 hb'.2.2.2.2.2 q
  self := fun A i s Q E st h => wpAny_pyIter_zip st.1 h
theorem z3_sep {N a b c : Addr} (h1 : a < N) (h2 : b < N) (h3 : c < N) : ZipSep3 (N + 5) (N + 3) (N + 4) N (N + 1) (N + 2) [N, a] [N + 1, b] [N + 2, c] :=
  zip_sep3 (fp1 := [a]) (fp2 := [b]) (fp3 := [c]) (fun d hd => by rw [List.mem_singleton.mp hd]; exact h1) (fun d hd => by rw [List.mem_singleton.mp hd]; exact h2) (fun d hd => by rw [List.mem_singleton.mp hd]; exact h3)
theorem pi_z3 {X : Cx} {e e2 e3 : Expr} {ta : TA} {p pos tpos : Pos} {elts : List Expr} {kk : Nat} (hg : Gl X "zip") (hm : X.mg "zip" = none) (ha : PA X [e, e2, e3] ta)
    (hs : starEach [e, e2, e3] X.env = (false, eval e X.env) :: starEach [e2, e3] X.env := by rfl) (hpl : (backTo pos (starEach [e2, e3] X.env)).any (·.1) = false := by rfl) :
    PI X (.Tuple elts kk tpos) (.Call (.Name "zip" p) [e, e2, e3] [] pos) (fun σ H R => ta σ H fun vs H1 => ∃ a b c xs ys zs t u v, vs = [.ref a, .ref b, .ref c] ∧ SqB t X.K H1 a xs ∧ SqB u X.K H1 b ys ∧ SqB v X.K H1 c zs ∧ R (It3 t u v X.K a b c xs.length ys.length zs.length) H1) := by
  refine ⟨fun pins s σ H R I h => Call_ (ld_blt I hg hm PyProof.Rows.boot_zip (PyProof.Rows.callWith_type1 (thn (ha.run pos pins s σ H _ I h) fun us s1 ⟨vs, H1, I1, r1, a, b, c, xs, ys, zs, t, u, v, ex, qx, qy, qz, q⟩ => ?_) hs hpl))⟩
  subst ex
  cases r1 with
  | cons ra rr =>
    cases rr with
    | cons rb rr =>
      cases rr with
      | cons rc rr =>
        cases rr
        cases ra
        cases rb
        cases rc
        obtain ⟨its, rv, p1, l1⟩ := inv_sq I1 qx
        obtain ⟨its2, rv2, p2, l2⟩ := inv_sq I1 qy
        obtain ⟨its3, rv3, p3, l3⟩ := inv_sq I1 qz
        refine zip_begins3 (begins_sq t a its.toArray) (begins_sq u b its2.toArray) (begins_sq v c its3.toArray) p1 p2 p3 fun h' hz hTI hTO g1 g2 g3 sz kp => wpAny_pyIter_zip hz ?_
        have S := z3_sep l1 l2 l3
        refine ⟨_, [s1.heap.objs.size + 5, s1.heap.objs.size + 3, s1.heap.objs.size + 4, s1.heap.objs.size, s1.heap.objs.size + 1, s1.heap.objs.size + 2], _, _, H1, rfl, I1.kept (t' := s1.toks) kp,
          turn_z3 (n1 := xs.length) (n2 := ys.length) (n3 := zs.length) S (Nat.ne_of_lt l1) (Nat.ne_of_lt (Nat.lt_succ_of_lt l2)) (Nat.ne_of_lt (Nat.lt_succ_of_lt (Nat.lt_succ_of_lt l3))), ⟨hz, hTI, ⟨_, _, _, hTO⟩, isSqI_new g1, isSqI_new g2, isSqI_new g3, Nat.zero_le _⟩, fun d hd => ?_, q⟩
        have hle : s1.heap.objs.size ≤ d := by
          simp only [List.mem_cons, List.not_mem_nil, or_false] at hd
          rcases hd with e | e | e | e | e | e <;> rw [e]
          · exact Nat.le_add_right _ _
          · exact Nat.le_add_right _ _
          · exact Nat.le_add_right _ _
          · exact Nat.le_refl _
          · exact Nat.le_add_right _ _
          · exact Nat.le_add_right _ _
        exact I1.fpOk hle (I1.hok.fresh hle)
section
variable {X : Cx} {N : List Str} {sc : Scope} {k j : Nat} {Γ : List Sl} {tg it it2 it3 : Expr} {es : List Expr} {l l2 l3 : List Rep} {pos p : Pos} {α β γ : Type} {R : α → Rep} {R2 : β → Rep} {R3 : γ → Rep} {xs : List α} {ys : List β} {zs : List γ}
theorem sr_zip3 {jj : Nat} {tpos : Pos} (B : BX X N sc k) (hm : X.mg "zip" = none) (h : DE X Γ it (rSeq X.K l)) (h2 : DE X Γ it2 (rSeq X.K l2)) (h3 : DE X Γ it3 (rSeq X.K l3)) (hg : sc.names.lookup ("zip" : Str) = some NameKind.globalImplicit)
    (hs : starEach [it, it2, it3] X.env = (false, eval it X.env) :: starEach [it2, it3] X.env := by rfl) (hs2 : starEach [it2, it3] X.env = (false, eval it2 X.env) :: starEach [it3] X.env := by rfl) (hs3 : starEach [it3] X.env = (false, eval it3 X.env) :: starEach [] X.env := by rfl) (hpl : (backTo pos (starEach [it2, it3] X.env)).any (·.1) = false := by rfl) :
    SR X Γ (.Tuple es jj tpos) (.Call (.Name "zip" p) [it, it2, it3] [] pos) (min (min l.length l2.length) l3.length) (fun i => rTup X.K [l.getD i rNon, l2.getD i rNon, l3.getD i rNon]) := fun F0 H0 F H σ en R q => by
  have hgl : Gl X "zip" := by
    show X.env.scope.names.lookup _ = _
    rw [B.hsc]
    exact hg
  refine .of (pi_z3 hgl hm (pa_cons pe_ev (pa_cons pe_ev (pa_cons pe_ev pa_nil hs3) hs2) hs) hs hpl) (h F0 H0 F H σ en _ fun v F1 H1 g hv => h2 F0 H0 F1 H1 σ (en.grow g) _ fun v2 F3 H3 g3 hv2 => h3 F0 H0 F3 H3 σ (en.grow (g.trans g3)) _ fun v3 F4 H4 g4 hv3 => ?_)
  obtain ⟨p, vs, rfl, hsq, hl⟩ := hv
  obtain ⟨p2, vs2, rfl, hsq2, hl2⟩ := hv2
  obtain ⟨p3, vs3, rfl, hsq3, hl3⟩ := hv3
  obtain ⟨t, hsq⟩ := ((hsq.mono g3.f).mono g4.f).b
  obtain ⟨u, hsq2⟩ := (hsq2.mono g4.f).b
  obtain ⟨w, hsq3⟩ := hsq3.b
  have hl := (hl.mono g3.f).mono g4.f
  have hl2 := hl2.mono g4.f
  have e1 := hl.len
  have e2 := hl2.len
  have e3 := hl3.len
  refine ⟨p, p2, p3, vs, vs2, vs3, t, u, w, rfl, hsq.mono g4.s, hsq2.mono g4.s, hsq3.mono g4.s, q _ F4 H4 ((g.trans g3).trans g4) ⟨fun i H2 s hi => ⟨⟨vs, vs2, vs3, hsq.mono s, hsq2.mono s, hsq3.mono s, rfl, rfl, rfl⟩, ?_⟩, fun i H2 s hi => ⟨vs, vs2, vs3, hsq.mono s, hsq2.mono s, hsq3.mono s, rfl, rfl, rfl, ?_⟩, fun i F2 H2 x H' s s2 hi hy => ?_⟩⟩
  · omega
  · omega
  · obtain ⟨T, y1, y2, y3, rfl, nT, rfl, f1, f2, f3⟩ := hy
    obtain ⟨r1, q1, k1⟩ := hl.got (f1 vs (SqB.mono s2 (hsq.mono s)))
    obtain ⟨r2, q2, k2⟩ := hl2.got (f2 vs2 (SqB.mono s2 (hsq2.mono s)))
    obtain ⟨r3, q3, k3⟩ := hl3.got (f3 vs3 (SqB.mono s2 (hsq3.mono s)))
    refine ⟨_, .new s2 nT, T, _, rfl, SqT.of upd_same, ?_⟩
    have sn : Same F2 (upd F2 T (.tup [y1, y2, y3])) := same_new (s2.free nT)
    rw [List.getD_eq_getElem?_getD, List.getD_eq_getElem?_getD, List.getD_eq_getElem?_getD, q1, q2, q3]
    exact .cons (r1.mono (s.trans sn) k1) (.cons (r2.mono (s.trans sn) k2) (.cons (r3.mono (s.trans sn) k3) .nil))
theorem sr_zip3M {jj : Nat} {tpos : Pos} (d : α) (d2 : β) (d3 : γ) (B : BX X N sc k) (hm : X.mg "zip" = none) (h : DE X Γ it (rSeq X.K (xs.map R))) (h2 : DE X Γ it2 (rSeq X.K (ys.map R2))) (h3 : DE X Γ it3 (rSeq X.K (zs.map R3))) (hg : sc.names.lookup ("zip" : Str) = some NameKind.globalImplicit)
    (hs : starEach [it, it2, it3] X.env = (false, eval it X.env) :: starEach [it2, it3] X.env := by rfl) (hs2 : starEach [it2, it3] X.env = (false, eval it2 X.env) :: starEach [it3] X.env := by rfl) (hs3 : starEach [it3] X.env = (false, eval it3 X.env) :: starEach [] X.env := by rfl) (hpl : (backTo pos (starEach [it2, it3] X.env)).any (·.1) = false := by rfl) :
    SR X Γ (.Tuple es jj tpos) (.Call (.Name "zip" p) [it, it2, it3] [] pos) (min (min xs.length ys.length) zs.length) (fun i => rTup X.K [R (xs.getD i d), R2 (ys.getD i d2), R3 (zs.getD i d3)]) := by
  have z := sr_zip3 (es := es) (jj := jj) (tpos := tpos) (p := p) (pos := pos) B hm h h2 h3 hg hs hs2 hs3 hpl
  rw [List.length_map, List.length_map, List.length_map] at z
  exact z.to fun i hi => by rw [getD_map d (by omega), getD_map d2 (by omega), getD_map d3 (by omega)]
end
end DL

set_option Elab.async false
set_option linter.all false
set_option maxRecDepth 100000
set_option maxHeartbeats 4000000
/-! a list of one's own is lent: what is made of it and holds no list stays -/
namespace DL
open PySem PySem.Spec PyProof.Rows L2
/-- it does not hold by a list -/
def LFr (r : Rep) : Prop := ∀ (F : Hp) (p : Addr) (ws : List V) (v : V), F p = some (.lst ws) → r.P F v → r.P (del F p) v
theorem lfr_int {n : Int} : LFr (rInt n) := fun _ _ _ _ _ h => h
theorem lfr_rl {F : Hp} {p : Addr} {ws : List V} (hp : F p = some (.lst ws)) : ∀ {rs : List Rep} {vs : List V}, (∀ r ∈ rs, LFr r) → RL F rs vs → RL (del F p) rs vs
  | _, _, _, .nil => .nil
  | _, _, h, .cons a t => .cons (h _ List.mem_cons_self _ _ _ _ hp a) (lfr_rl hp (fun r hr => h r (List.mem_cons_of_mem _ hr)) t)
theorem lfr_tup {K : PySem.W.Frag} {rs : List Rep} (h : ∀ r ∈ rs, LFr r) : LFr (rTup K rs) := fun F p ws v hp ⟨a, vs, e, hq, hl⟩ => by
  refine ⟨a, vs, e, ?_, lfr_rl hp h hl⟩
  rcases hq with z | z
  · left
    by_cases ha : a = p
    · subst ha
      unfold Rd at z ⊢
      rw [hp] at z
      rcases z with z | ⟨o, z⟩ <;> cases z
    · unfold Rd at z ⊢
      rw [del_ne ha]
      exact z
  · exact .inr z
theorem lfr_num {K : PySem.W.Frag} {q : Rat} : LFr (rNum K q) := by
  unfold rNum
  split
  · exact lfr_int
  · refine lfr_tup fun r hr => ?_
    rcases List.mem_cons.mp hr with z | z
    · rw [z]; exact lfr_int
    · rw [List.mem_singleton.mp z]; exact lfr_int
theorem lfr_nums {K : PySem.W.Frag} {qs : List Rat} : ∀ r ∈ qs.map (rNum K), LFr r := fun r hr => by
  obtain ⟨n, _, rfl⟩ := List.mem_map.mp hr
  exact lfr_num
section
variable {X : L2.Cx} {F0 H0 F H : Hp} {σ : L2.St} {Γ : List Sl} {e : Expr} {i : Nat} {l l' : List Rep} {r : Rep}
theorem En.lendF {K : PySem.W.Frag} (e : En F0 H0 F H σ Γ) (h : Γ[i]? = some (.ow l)) : ∃ (p : Addr) (vs : List V), F p = none ∧ Same F (upd F p (.lst vs)) ∧ En F0 H0 (upd F p (.lst vs)) H σ (Γ.set i (.im (rLst K l))) := by
  obtain ⟨p, vs, h1, h2, h3, h4, h5⟩ := e.ow h
  have s1 : Same F (upd F p (.lst vs)) := same_new h2
  have s2 : Same (upd F p (.lst vs)) H := fun b o z => by
    by_cases hb : b = p
    · subst hb
      rw [upd_same] at z
      rw [h3, ← z]
    · rw [upd_ne hb] at z
      exact e.gr.s b o z
  have nn : ∀ {j : Nat} {q : Addr} {m : List Rep}, j ≠ i → Γ[j]? = some (.ow m) → σ[j]? = some (some (.ref q)) → q ≠ p := fun {j q m} hj k1 k2 z => hj (e.sep j i p m l k1 h (z ▸ k2) h1)
  refine ⟨p, vs, h2, s1, ?_⟩
  exact {
    gr := ⟨e.gr.f.trans s1, e.gr.h, s2, fun a ha z => by
      have hp : a ≠ p := fun y => ha (y ▸ h5)
      rw [upd_ne hp]
      exact e.gr.n a ha z⟩
    len := by simpa using e.len
    ok := fun j s x k1 k2 => by
      rcases get_set k1 with ⟨rfl, rfl⟩ | ⟨n, k1⟩
      · rw [h1] at k2
        cases k2
        exact ⟨.ref p, rfl, p, vs, rfl, SqL.of upd_same, h4.mono s1⟩
      · have q := e.ok j s x k1 k2
        cases s with
        | any => trivial
        | im r =>
          obtain ⟨v, a, b⟩ := q
          exact ⟨v, a, r.mono s1 b⟩
        | ow m =>
          obtain ⟨p2, ws2, a, b, c, d⟩ := q
          subst a
          refine ⟨p2, ws2, rfl, ?_, c, d.mono s1⟩
          rw [upd_ne (nn (Ne.symm n) k1 k2)]
          exact b
    own := fun j q m k1 k2 => by
      rcases get_set k1 with ⟨_, z⟩ | ⟨n, k1⟩
      · cases z
      · exact e.own j q m k1 k2
    sep := fun j k q m m' k1 k1' k2 k2' => by
      rcases get_set k1 with ⟨_, z⟩ | ⟨n, k1⟩
      · cases z
      rcases get_set k1' with ⟨_, z⟩ | ⟨n', k1'⟩
      · cases z
      exact e.sep j k q m m' k1 k1' k2 k2' }
theorem gr_unlend {F2 H2 : Hp} {p : Addr} {vs : List V} (hp : F p = none) (g : Gr (upd F p (.lst vs)) H F2 H2) : Gr F H (del F2 p) H2 :=
  ⟨fun b o z => by
    have n : b ≠ p := fun y => by rw [y, hp] at z; cases z
    rw [del_ne n]
    exact g.f b o (by rw [upd_ne n]; exact z), g.h, fun b o z => by
    by_cases n : b = p
    · rw [n, del_same] at z; cases z
    · rw [del_ne n] at z; exact g.s b o z, fun a ha z => by
    by_cases n : a = p
    · rw [n]; exact del_same
    · rw [del_ne n]
      exact g.n a ha (by rw [upd_ne n]; exact z)⟩
theorem dl_lendF (i : Nat) (hΓ : Γ[i]? = some (.ow l)) (hr : ∀ r ∈ l', LFr r) (h : DL X (Γ.set i (.im (rLst X.K l))) e l') : DL X Γ e l' := fun F0 H0 F H σ en Q q => by
  obtain ⟨p, vs, hp, s1, en'⟩ := en.lendF (K := X.K) hΓ
  refine h F0 H0 _ H σ en' Q fun p2 vs2 F2 H2 g h1 h2 h3 h4 => ?_
  have fp : F2 p = some (.lst vs) := g.f p _ upd_same
  refine q p2 vs2 (del F2 p) H2 (gr_unlend hp g) h1 ?_ h3 (lfr_rl fp hr h4)
  by_cases n : p2 = p
  · rw [n]; exact del_same
  · rw [del_ne n]; exact h2
end
/-! a test that raises -/
section
variable {X : L2.Cx} {F0 H0 : Hp} {Γ : List Sl} {e a c : Expr} {C : Addr} {W : WX} {pos : Pos} {body orelse st : List Stmt} {D : Ends} {fs : List (Str × V)}
def EXT (X : L2.Cx) (Γ : List Sl) (e : Expr) (C : Addr) (W : WX) : Prop := ∀ F0 H0 F H σ, En F0 H0 F H σ Γ → (∀ H', Same H H' → W (.ref C) none σ H') → ∀ Q : Bool → Hp → Prop, TV X e σ H Q
theorem ext_val (h : EX X Γ e C W) (he : ∀ whole, isTrue e X.env whole = (do let v ← whole; standAt e.pos; holding [v] (truthy v)) := by intro _; rfl) : EXT X Γ e C W := fun F0 H0 F H σ en w Q => .of (pt_val pe_ev he) (h F0 H0 F H σ en w _)
theorem ext_not (h : EXT X Γ a C W) : EXT X Γ (.UnaryOp .Not a pos) C W := fun F0 H0 F H σ en w Q => .of (pt_not pt_ev) (h F0 H0 F H σ en w _)
theorem go_ifE (hc : EXT X Γ c C W) (h : ∀ F H σ, En F0 H0 F H σ Γ → ∀ H', Same H H' → W (.ref C) none σ H') : GO X F0 H0 (.If c body orelse pos :: st) D Γ := fun F H σ en =>
  .of (pss_cons (ps_if pt_ev (pss_ev (st := body)) (pss_ev (st := orelse))) (pss_ev (st := st))) (hc F0 H0 F H σ en (h F H σ en) _)
variable {N : List Str} {sc : Scope} {k i : Nat} {x : Str}
theorem go_setE {tpos : Pos} (B : BX X N sc k) (he : EX X Γ e C W) (hN : N[i]? = some x) (hx : LocX X sc x) (h : ∀ F H σ, En F0 H0 F H σ Γ → ∀ H', Same H H' → W (.ref C) none σ H') (hs : swapsWith e (some (.Name x tpos)) pos.line X.env = pure false := by rfl) :
    GO X F0 H0 (.Assign [.Name x tpos] e pos :: st) D Γ := fun F H σ en => by
  have hf : X.fn x = true ∨ X.env.scope.names.lookup x = some .local := by
    rcases hx with hx | hx
    · exact .inr (by rw [B.hsc]; exact hx)
    · exact .inl hx.2
  have hx : Loc sc x := hx.elim .inl fun z => .inr z.1
  exact .of (pss_cons (ps_set (i := i) (by rw [B.hN]; exact B.nd) (by rw [B.hN]; exact hN) (by rw [B.hsc]; exact hx) pe_ev hs hf) (pss_ev (st := st))) (he F0 H0 F H σ en (h F H σ en) _)
end
end DL

set_option Elab.async false
set_option linter.all false
set_option maxRecDepth 100000
set_option maxHeartbeats 4000000
/-! a tuple whose second item raises; a number or a list of numbers -/
namespace DL
open PySem PySem.Spec PyProof.Rows L2
section
variable {X : L2.Cx} {Γ : List Sl} {e : PySem.Expr} {C : Addr} {W : WX}
theorem ex_tupS {s : Str} {j x1 : Nat} {p1 pos : Pos} (h : EX X Γ e C W) (hs : starEach [e] X.env = (false, eval e X.env) :: starEach [] X.env := by exact rfl) :
    EX X Γ (.Tuple [.Constant (.str s) j p1, e] x1 pos) C W := fun F0 H0 F H σ en w Q =>
  .of (pe_tup (pa_cons pe_str (pa_cons pe_ev pa_nil hs) rfl)) (h F0 H0 F H σ en w _)
end
section
variable {X Y : L2.Cx} {Γ : List Sl} {N : List Str} {sc : _} {i : Nat} {x : Str} {p pos : Pos} {b : PySem.Expr} {l : List Rep} {r : Rep}
theorem de_ixHS {n : Int} (B : BS Y N sc) (hΓ : Γ[i]? = some (.ow l)) (h : atI l n = some r) (hN : N[i]? = some x) (hv : Vis sc x) (hb : DE Y Γ b (rInt n)) (hs : PlainIx b := by exact fun _ _ => rfl) (hd : (x == ("__debug__" : Str)) = false := by decide) (hcd : (x == ("__classdict__" : Str)) = false := by decide) :
    DE Y Γ (.Subscript (.Name x p) b pos) r := fun F0 H0 F H σ en Q q => by
  obtain ⟨p, vs, h1', h2, h3, h4, h5⟩ := en.ow hΓ
  refine .of (pe_ix ix_list (pe_var (i := i) (B.hN ▸ hN) (B.hsc ▸ hv) hd hcd) pe_ev hs) ⟨_, h1', hb F0 H0 F H σ en _ fun v F' H' g hv => ?_⟩
  cases hv
  obtain ⟨v, k3, k4⟩ := h4.atI h
  exact ⟨p, vs, n, v, rfl, rfl, SqL.of (g.h _ _ h3), k3, q v F' H' g (r.mono g.f k4)⟩
end
/-- a number or a list of numbers -/
def rNL (K : PySem.W.Frag) : Rat ⊕ List Rat → Rep := fun x => Sum.elim (rNum K) (fun l => rLst K (l.map (rNum K))) x
section
variable {X : L2.Cx} {Γ : List Sl} {e : PySem.Expr}
theorem de_nlN {q : Rat} (h : DE X Γ e (rNum X.K q)) : DE X Γ e (rNL X.K (.inl q)) := h
theorem de_nlL {l : List Rat} (h : DE X Γ e (rLst X.K (l.map (rNum X.K)))) : DE X Γ e (rNL X.K (.inr l)) := h
theorem de_nl2n {x : Rat ⊕ List Rat} {q : Rat} (hx : x = .inl q) (h : DE X Γ e (rNL X.K x)) : DE X Γ e (rNum X.K q) := by subst hx; exact h
theorem de_nl2l {x : Rat ⊕ List Rat} {l : List Rat} (hx : x = .inr l) (h : DE X Γ e (rNL X.K x)) : DE X Γ e (rLst X.K (l.map (rNum X.K))) := by subst hx; exact h
end
end DL

set_option Elab.async false
set_option linter.all false
set_option maxRecDepth 100000
set_option maxHeartbeats 4000000
/-! max of two; a piece of a list -/
namespace DL
open PySem PySem.Spec PyProof.Rows L2
section
variable {X : Cx} {N : List Str} {sc : Scope} {k : Nat} {Γ : List Sl} {a b e : Expr} {pos p p2 : Pos} {n : Int}
theorem de_max2 {m : Int} (B : BX X N sc k) (hm : X.mg "max" = none) (ha : DE X Γ a (rInt m)) (hb : DE X Γ b (rInt n)) (hg : sc.names.lookup ("max" : Str) = some NameKind.globalImplicit)
    (he : starEach (a :: [b]) X.env = (false, eval a X.env) :: starEach [b] X.env := by rfl) (he2 : starEach (b :: []) X.env = (false, eval b X.env) :: starEach [] X.env := by rfl) (hpl : (backTo pos (starEach [b] X.env)).any (·.1) = false := by rfl) : DE X Γ (.Call (.Name "max" p) [a, b] [] pos) (rInt (max m n)) :=
  de_blt B (call_max2 B.calm) (fun F H vs s hv Q q => by
    obtain ⟨v, w, rfl, k1, k2⟩ := rl2 hv
    cases k1; cases k2
    exact ⟨m, n, rfl, q _ F H (.refl s) (by show V.int _ = V.int _; congr 1; split <;> omega)⟩) hm (by decide +kernel) (da_cons ha (da_cons hb da_nil he2) he) hg (he := he) (hpl := hpl)
theorem cutR_mid {α : Type} {xs : List α} {a b : Int} (h0 : 0 ≤ a) (h1 : a ≤ b) (h2 : b ≤ xs.length) : cutR xs (some a) (some b) = (xs.drop a.toNat).take (b - a).toNat := by
  obtain ⟨m, rfl⟩ : ∃ m : Nat, a = m := ⟨a.toNat, by omega⟩
  obtain ⟨q, rfl⟩ : ∃ m : Nat, b = m := ⟨b.toNat, by omega⟩
  unfold cutR
  rw [HT.sIx_nat, HT.sIx_nat, Nat.min_eq_left (by omega), Nat.min_eq_left (by omega), Int.toNat_natCast, show ((q : Int) - (m : Int)).toNat = q - m by omega]
theorem dl_mid {α : Type} {R : α → Rep} {xs : List α} {m n : Int} (h : DE X Γ e (rLst X.K (xs.map R))) (h0 : 0 ≤ m) (h1 : m ≤ n) (h2 : n ≤ xs.length) (ha : DE X Γ a (rInt m)) (hb : DE X Γ b (rInt n)) : DL X Γ (.Subscript e (.Slice (some a) (some b) none p2) pos) (((xs.drop m.toNat).take (n - m).toNat).map R) :=
  (dl_slice (lo := some a) (hi := some b) (ol := some m) (oh := some n) h ha hb).to (by rw [cutR_map, cutR_mid h0 h1 h2])
end
end DL

set_option Elab.async false
set_option linter.all false
set_option maxRecDepth 100000
set_option maxHeartbeats 4000000
/-! entries of a book; the table that has given values there -/
namespace DL
open PySem PySem.Spec PyProof.Rows L2
theorem ti2n_eq {K : PySem.W.Frag} {l : List Int} : l.map rInt = (toQ l).map (rNum K) := by
  unfold toQ
  rw [List.map_map]
  refine List.map_congr_left fun n _ => ?_
  show rInt n = rNum K (n : Rat)
  unfold rNum
  rw [if_pos (Rat.den_intCast ..), Rat.num_intCast]
section
variable {X : L2.Cx} {Γ : List Sl} {e : PySem.Expr} {l : List Int}
theorem de_ti2sn (h : DE X Γ e (rTup X.K (l.map rInt))) : DE X Γ e (rSeq X.K ((toQ l).map (rNum X.K))) := by
  rw [← ti2n_eq]
  exact h.sub sub_tseq
end
def pivL (F : List (List Int)) : List Int := F.map fun r => (suppI (toQ r)).getD 0 0
theorem piv_lc {F : List (List Int)} : List.map (fun i : Nat => rInt ((suppI (toQ (F.getD i []))).getD 0 0)) (List.filter (fun _ => true) (List.range F.length)) = List.map rInt (pivL F) :=
  (lc_map (f := fun r => rInt ((suppI (toQ r)).getD 0 0))).trans (by unfold pivL; rw [List.map_map]; rfl)
structure PvOk (b : Bk) : Prop where
  n : b.frame.length ≤ 1000
  l : ∀ r ∈ b.frame, r.length ≤ 1000
  s : ∀ r ∈ b.frame, 0 < (suppI (toQ r)).length
def tabN (F : List (List Int)) (vs : List Rat) (n : Nat) : Nat → List Rat
  | 0 => List.replicate n 0
  | i + 1 => zipM (· + ·) (tabN F vs n i) ((toQ (F.getD i [])).map fun q => q * (vs.getD i 0 / (((F.getD i []).getD ((pivL F).getD i 0).toNat 0 : Int) : Rat)))
abbrev tabL (F : List (List Int)) (vs : List Rat) (n : Nat) : List Rat := tabN F vs n F.length
theorem tabN_len {F : List (List Int)} {vs : List Rat} {n : Nat} (hl : ∀ r ∈ F, r.length = n) : ∀ i, i ≤ F.length → (tabN F vs n i).length = n
  | 0, _ => List.length_replicate ..
  | i + 1, h => by
    have := tabN_len (vs := vs) hl i (by omega)
    have hr := hl _ (getD_memL (l := F) (i := i) (by omega))
    show (zipM _ _ _).length = n
    unfold zipM
    rw [List.length_map, List.length_range, this, List.length_map, toQ_len, hr]
    exact Nat.min_self n
structure TbOk (b : Bk) (vs : List Rat) : Prop where
  p : PvOk b
  n : b.size ≤ 1000
  len : ∀ r ∈ b.frame, r.length = b.size
  pv : ∀ i, i < b.frame.length → 0 ≤ (pivL b.frame).getD i 0 ∧ (pivL b.frame).getD i 0 < (b.size : Int) ∧ (b.frame.getD i []).getD ((pivL b.frame).getD i 0).toNat 0 ≠ 0
  s1 : ∀ r ∈ b.frame, ∀ x ∈ r, Sz 1000 (x : Rat)
  s2 : ∀ v ∈ vs, Sz 4000 v
  s3 : ∀ i, i < b.frame.length → Sz 2000 (vs.getD i 0 / (((b.frame.getD i []).getD ((pivL b.frame).getD i 0).toNat 0 : Int) : Rat))
  s4 : ∀ i, i < b.frame.length → ∀ x ∈ b.frame.getD i [], Sz 3000 ((x : Rat) * (vs.getD i 0 / (((b.frame.getD i []).getD ((pivL b.frame).getD i 0).toNat 0 : Int) : Rat)))
  s5 : ∀ i, i ≤ b.frame.length → ∀ q ∈ tabN b.frame vs b.size i, Sz 3000 q
def isTab (b : Bk) (qs : List Rat) : Bool := decide (tabL b.frame ((pivL b.frame).map fun k => qs.getD k.toNat 0) b.size = qs)
theorem pivL_len (F : List (List Int)) : (pivL F).length = F.length := List.length_map _
theorem tb_ok {b : Bk} {vs : List Rat} (hp : PvOk b ∧ (vs.length = b.frame.length → TbOk b vs)) (hx : (!decide (((vs.length : Nat) : Int) = (((pivL b.frame).length : Nat) : Int))) = false) : vs.length = b.frame.length ∧ TbOk b vs := by
  have h1 := of_decide_eq_true (nn_f hx)
  have h2 := pivL_len b.frame
  have h3 : vs.length = b.frame.length := by omega
  exact ⟨h3, hp.2 h3⟩
theorem tb_no {b : Bk} {vs : List Rat} (hx : (!decide (((vs.length : Nat) : Int) = (((pivL b.frame).length : Nat) : Int))) = true) : ¬ vs.length = b.frame.length := fun z => by
  have h2 := pivL_len b.frame
  rw [decide_eq_true (by omega)] at hx
  cases hx
section
variable {b : Bk} {vs : List Rat} {i : Nat}
theorem TbOk.int (h : TbOk b vs) (hi : i < b.frame.length) : ∀ q ∈ toQ (b.frame.getD i []), Sz 1000 q := fun q hq => by
  obtain ⟨x, hx, rfl⟩ := List.mem_map.mp hq
  exact h.s1 _ (getD_memL hi) x hx
theorem TbOk.sc (h : TbOk b vs) (hi : i < b.frame.length) : ∀ q ∈ (toQ (b.frame.getD i [])).map (fun q => q * (vs.getD i 0 / (((b.frame.getD i []).getD ((pivL b.frame).getD i 0).toNat 0 : Int) : Rat))), Sz 3000 q := fun q hq => by
  obtain ⟨y, hy, rfl⟩ := List.mem_map.mp hq
  obtain ⟨x, hx, rfl⟩ := List.mem_map.mp hy
  exact h.s4 i hi x hx
theorem TbOk.row (h : TbOk b vs) (hi : i < b.frame.length) : (b.frame.getD i []).length = b.size := h.len _ (getD_memL hi)
theorem TbOk.ne (h : TbOk b vs) (hi : i < b.frame.length) : ¬ ((((b.frame.getD i []).getD ((pivL b.frame).getD i 0).toNat 0 : Int)) : Rat) = 0 := fun z => (h.pv i hi).2.2 (by exact_mod_cast z)
theorem TbOk.over (h : TbOk b vs) (hi : i < b.frame.length) (hv : vs.length = b.frame.length) : Sz 4000 (vs.getD i 0) ∧ Sz 4000 ((((b.frame.getD i []).getD ((pivL b.frame).getD i 0).toNat 0 : Int)) : Rat) :=
  ⟨h.s2 _ (DL.getD_mem (by omega)), (h.s1 _ (getD_memL hi) _ (getD_memI (by have := h.row hi; have := (h.pv i hi).1; have := (h.pv i hi).2.1; omega))).mono (by decide)⟩
theorem rep0_lcN {K : PySem.W.Frag} {n : Nat} : (List.replicate ((n : Int)).toNat [rNum K ((0 : Int) : Rat)]).flatten = List.map (rNum K) (List.replicate n (0 : Rat)) := by
  rw [rep_flat, List.map_replicate]
  rfl
end
theorem wh_lc {qs : List Rat} : List.map (fun i : Nat => rBl (decide ((qs.getD i 0).den = 1))) (List.filter (fun _ => true) (List.range qs.length)) = List.map rBl (qs.map fun q => decide (q.den = 1)) := (lc_map (f := fun q : Rat => rBl (decide (q.den = 1)))).trans (by rw [List.map_map]; rfl)
theorem wh_all {qs : List Rat} : (qs.map fun q => decide (q.den = 1)).all id = qs.all fun q => decide (q.den = 1) := by rw [List.all_map]; rfl
end DL

set_option Elab.async false
set_option linter.all false
set_option maxRecDepth 100000
set_option maxHeartbeats 4000000
/-! the entries are the greedy cells; a list is a table if it is a sum of multiples of the rows -/
namespace DL
open PySem PySem.Spec PyProof.Rows L2
section
variable {F : List (List Int)} {n : Nat} {V : Vc → Prop}
theorem gre_iff (V : Vc → Prop) : ∀ (n c : Nat), c ∈ gre V [] (List.range n) ↔ c < n ∧ Piv V (List.range c) c
  | 0, c => ⟨fun h => (List.not_mem_nil h).elim, fun h => absurd h.1 (Nat.not_lt_zero _)⟩
  | n + 1, c => by
    rw [List.range_succ, gre_snoc, List.nil_append, List.mem_append, gre_iff V n c]
    by_cases h : Piv V (List.range n) n
    · rw [if_pos h, List.mem_singleton]
      constructor
      · rintro (⟨a, b⟩ | e)
        · exact ⟨by omega, b⟩
        · subst e; exact ⟨Nat.lt_succ_self _, h⟩
      · rintro ⟨a, b⟩
        by_cases e : c = n
        · exact .inr e
        · exact .inl ⟨by omega, b⟩
    · rw [if_neg h]
      constructor
      · rintro (⟨a, b⟩ | e)
        · exact ⟨by omega, b⟩
        · exact (List.not_mem_nil e).elim
      · rintro ⟨a, b⟩
        by_cases e : c = n
        · subst e; exact absurd b h
        · exact .inl ⟨by omega, b⟩
/-- a row of a frame is 0 ahead of its own cell -/
theorem fo_head (f : FO F n V) {i : Nat} (hi : i < F.length) : ((gre V [] (List.range n)).getD i 0) < n ∧ vi (F.getD i []) ((gre V [] (List.range n)).getD i 0) ≠ 0 ∧ (∀ k ∈ gre V [] (List.range n), k ≠ (gre V [] (List.range n)).getD i 0 → vi (F.getD i []) k = 0) ∧ ∀ d, d < (gre V [] (List.range n)).getD i 0 → vi (F.getD i []) d = 0 := by
  have hl := f.count
  have hk : (gre V [] (List.range n)).getD i 0 ∈ gre V [] (List.range n) := by
    rw [List.getD_eq_getElem?_getD, List.getElem?_eq_getElem (by omega)]
    exact List.getElem_mem _
  have off : ∀ {L : List (List Int)} {K : List Nat} {i : Nat}, Dg (L.map vi) K → i < L.length → K.Nodup → ∀ k ∈ K, k ≠ K.getD i 0 → vi (L.getD i []) k = 0 := by
    intro L
    induction L with
    | nil => intro K i _ h; exact absurd h (Nat.not_lt_zero _)
    | cons l L ih =>
      intro K i hd h hn k hk ne
      cases K with
      | nil => exact hd.elim
      | cons k0 K =>
        have hn2 := List.nodup_cons.mp hn
        cases i with
        | zero =>
          rcases List.mem_cons.mp hk with e | e
          · exact absurd e ne
          · exact hd.2.2.1 k e
        | succ i =>
          rcases List.mem_cons.mp hk with e | e
          · rw [e]
            exact hd.2.1 _ (List.mem_map.mpr ⟨_, getD_memL (l := L) (i := i) (by simpa using h), rfl⟩)
          · exact ih hd.2.2.2 (by simpa using h) hn2.2 k e ne
  have nd : (gre V [] (List.range n)).Nodup := List.Nodup.sublist (gsub V (List.range n) []) List.nodup_range
  have o := off f.dg hi nd
  have hne : vi (F.getD i []) ((gre V [] (List.range n)).getD i 0) ≠ 0 := fun z => dg_get (i := i) f.dg (by omega) (vi_zero.mp z)
  have hlt := ((gre_iff V n _).mp hk).1
  refine ⟨hlt, hne, o, fun d => ?_⟩
  have inV : V (vi (F.getD i [])) := (f.span _).mp (sp_mem (List.mem_map.mpr ⟨_, getD_memL hi, rfl⟩))
  induction d using Nat.strongRecOn with
  | _ d ih =>
    intro hd
    refine Classical.byContradiction fun z => ?_
    have hp : Piv V (List.range d) d := ⟨_, inV, fun e he => ih e (List.mem_range.mp he) (by have := List.mem_range.mp he; omega), z⟩
    exact z (o d ((gre_iff V n d).mpr ⟨by omega, hp⟩) (by omega))
where
  gsub (V : Vc → Prop) : ∀ (cs prev : List Nat), (gre V prev cs).Sublist cs
    | [], _ => List.Sublist.refl _
    | d :: cs, prev => by
      show (if Piv V prev d then d :: gre V (prev ++ [d]) cs else gre V (prev ++ [d]) cs).Sublist _
      split
      · exact (gsub V cs _).cons₂ d
      · exact (gsub V cs _).cons d
theorem filter_head {n k : Nat} {p : Nat → Bool} (hk : k < n) (h0 : ∀ d, d < k → p d = false) (h1 : p k = true) : ∃ t, (List.range n).filter p = k :: t := by
  have e : n = k + (n - k - 1 + 1) := by omega
  rw [e, List.range_add, List.filter_append]
  have z : (List.range k).filter p = [] := List.filter_eq_nil_iff.mpr fun a ha => by rw [h0 a (List.mem_range.mp ha)]; exact Bool.false_ne_true
  rw [z, List.nil_append, List.range_succ_eq_map, List.map_cons, List.filter_cons_of_pos (by rw [Nat.add_zero]; exact h1)]
  exact ⟨_, by rw [Nat.add_zero]⟩
theorem supp_head2 {r : List Int} {k : Nat} (hk : k < r.length) (h0 : ∀ d, d < k → r.getD d 0 = 0) (h1 : r.getD k 0 ≠ 0) : 0 < (suppI (toQ r)).length ∧ (suppI (toQ r)).getD 0 0 = (k : Int) := by
  have g : ∀ d, (toQ r).getD d 0 = ((r.getD d 0 : Int) : Rat) := fun d => by
    unfold toQ
    exact getD_mapQ r d
  unfold suppI suppN
  obtain ⟨t, ht⟩ := filter_head (n := (toQ r).length) (k := k) (p := fun i => !decide ((toQ r).getD i 0 = 0)) (by rw [toQ_len]; exact hk) (fun d hd => by
    show (!decide ((toQ r).getD d 0 = 0)) = false
    rw [g, h0 d hd]; rfl) (by
    show (!decide ((toQ r).getD k 0 = 0)) = true
    rw [g, decide_eq_false (fun z => h1 (by exact_mod_cast z))]; rfl)
  rw [ht]
  exact ⟨Nat.succ_pos _, rfl⟩
theorem piv_eq (f : FO F n V) {i : Nat} (hi : i < F.length) : (pivL F).getD i 0 = (((gre V [] (List.range n)).getD i 0 : Nat) : Int) ∧ 0 < (suppI (toQ (F.getD i []))).length := by
  obtain ⟨h1, h2, _, h4⟩ := fo_head f hi
  have hr := f.len _ (getD_memL hi)
  have := supp_head2 (r := F.getD i []) (k := (gre V [] (List.range n)).getD i 0) (by omega) (fun d hd => vi_zero.mp (h4 d hd)) (fun z => h2 (vi_zero.mpr z))
  refine ⟨?_, this.1⟩
  rw [← this.2]
  unfold pivL
  rw [List.getD_eq_getElem?_getD, List.getElem?_map, List.getElem?_eq_getElem hi, List.getD_eq_getElem?_getD (l := F), List.getElem?_eq_getElem hi]
  rfl
theorem piv_nat (f : FO F n V) : (pivL F).map Int.toNat = gre V [] (List.range n) := by
  have hl := f.count
  apply List.ext_getElem?
  intro i
  by_cases hi : i < F.length
  · have := (piv_eq f hi).1
    have h1 : i < (pivL F).length := by rw [pivL_len]; exact hi
    rw [List.getD_eq_getElem?_getD, List.getElem?_eq_getElem h1, List.getD_eq_getElem?_getD, List.getElem?_eq_getElem (by omega)] at this
    rw [List.getElem?_map, List.getElem?_eq_getElem h1, List.getElem?_eq_getElem (by omega)]
    show some ((pivL F)[i]).toNat = _
    have this : (pivL F)[i] = (((gre V [] (List.range n))[i] : Nat) : Int) := this
    rw [this]
    rfl
  · rw [List.getElem?_eq_none (by rw [List.length_map, pivL_len]; omega), List.getElem?_eq_none (by omega)]
/-- a list is in the span if it is the sum that its entries tell -/
theorem mem_sum (f : FO F n V) (x : Vc) : V x ↔ ∀ c, x c = sumQ F (gre V [] (List.range n)) x c := by
  obtain ⟨z, a, b, e⟩ := dg_sum x f.dg
  constructor
  · intro h c
    have hy : Sp (F.map vi) fun j => x j - z j := sp_sub ((f.span x).mpr h) a
    have := dg_zero f.dg hy (fun k hk => by show x k - z k = 0; rw [b k hk]; grind) c
    rw [← e c]
    have this : x c - z c = 0 := this
    grind
  · intro h
    exact (f.span x).mp (a.to fun c => by rw [e c, ← h c])
end
end DL

set_option Elab.async false
set_option linter.all false
set_option maxRecDepth 100000
set_option maxHeartbeats 4000000
/-! the table that has given values at the entries: what it is, how large its numbers are -/
namespace DL
open PySem PySem.Spec PyProof.Rows L2
section
variable {F : List (List Int)} {n : Nat} {V : Vc → Prop} {vs : List Rat}
def trm (F : List (List Int)) (vs : List Rat) (j i : Nat) : Rat := ((((F.getD i []).getD j 0 : Int)) : Rat) * (vs.getD i 0 / (((F.getD i []).getD ((pivL F).getD i 0).toNat 0 : Int) : Rat))
def sumI (F : List (List Int)) (vs : List Rat) (j : Nat) : Nat → Rat
  | 0 => 0
  | i + 1 => sumI F vs j i + trm F vs j i
theorem zipM_at {f : Rat → Rat → Rat} {xs ys : List Rat} {j : Nat} (h : j < min xs.length ys.length) : (zipM f xs ys).getD j 0 = f (xs.getD j 0) (ys.getD j 0) := by
  unfold zipM
  rw [List.getD_eq_getElem?_getD, List.getElem?_map, List.getElem?_range h]
  rfl
theorem getD_mapQ2 {f : Rat → Rat} (l : List Rat) {j : Nat} (h : j < l.length) : (l.map f).getD j 0 = f (l.getD j 0) := by
  rw [List.getD_eq_getElem?_getD, List.getD_eq_getElem?_getD, List.getElem?_map, List.getElem?_eq_getElem h]
  rfl
theorem toQ_at (l : List Int) (j : Nat) : (toQ l).getD j 0 = ((l.getD j 0 : Int) : Rat) := getD_mapQ l j
theorem tabN_at (hl : ∀ r ∈ F, r.length = n) {j : Nat} (hj : j < n) : ∀ i, i ≤ F.length → (tabN F vs n i).getD j 0 = sumI F vs j i
  | 0, _ => by
    show (List.replicate n (0 : Rat)).getD j 0 = 0
    rw [List.getD_eq_getElem?_getD, List.getElem?_replicate]
    split <;> rfl
  | i + 1, h => by
    have hr := hl _ (getD_memL (l := F) (i := i) (by omega))
    have ht := tabN_len (vs := vs) hl i (by omega)
    show (zipM (· + ·) (tabN F vs n i) ((toQ (F.getD i [])).map _)).getD j 0 = sumI F vs j i + trm F vs j i
    rw [zipM_at (by rw [ht, List.length_map, toQ_len, hr]; omega), tabN_at hl hj i (by omega), getD_mapQ2 _ (by rw [toQ_len, hr]; exact hj), toQ_at]
    rfl
theorem sumQ_snoc : ∀ {L : List (List Int)} {K : List Nat} {l : List Int} {k : Nat} {x : Vc} {c : Nat}, L.length = K.length → sumQ (L ++ [l]) (K ++ [k]) x c = sumQ L K x c + vi l c / vi l k * x k
  | [], [], l, k, x, c, _ => by show vi l c / vi l k * x k + 0 = 0 + _; grind
  | m :: L, q :: K, l, k, x, c, h => by
    have := sumQ_snoc (L := L) (K := K) (l := l) (k := k) (x := x) (c := c) (by simpa using h)
    show vi m c / vi m q * x q + sumQ (L ++ [l]) (K ++ [k]) x c = (vi m c / vi m q * x q + sumQ L K x c) + _
    rw [this]; grind
  | [], _ :: _, _, _, _, _, h => by cases h
  | _ :: _, [], _, _, _, _, h => by cases h
theorem sumI_Q {qs : List Rat} (c : Nat) (hv : ∀ i, i < F.length → vs.getD i 0 = qs.getD ((pivL F).getD i 0).toNat 0) : ∀ i, i ≤ F.length → sumI F vs c i = sumQ (F.take i) (((pivL F).map Int.toNat).take i) (vq qs) c
  | 0, _ => by cases F <;> rfl
  | i + 1, h => by
    have hp : i < ((pivL F).map Int.toNat).length := by rw [List.length_map, pivL_len]; omega
    have e1 : F.take (i + 1) = F.take i ++ [F.getD i []] := take_snoc (by omega)
    have e2 : ((pivL F).map Int.toNat).take (i + 1) = ((pivL F).map Int.toNat).take i ++ [((pivL F).map Int.toNat).getD i 0] := take_snoc hp
    rw [e1, e2, sumQ_snoc (by rw [List.length_take, List.length_take]; omega), ← sumI_Q c hv i (by omega), getD_mapT]
    show sumI F vs c i + trm F vs c i = sumI F vs c i + _
    unfold trm
    rw [hv i (by omega)]
    show _ = sumI F vs c i + vi (F.getD i []) c / vi (F.getD i []) ((pivL F).getD i 0).toNat * vq qs ((pivL F).getD i 0).toNat
    unfold vi vq
    generalize qs.getD ((pivL F).getD i 0).toNat 0 = a
    generalize ((((F.getD i []).getD c 0 : Int)) : Rat) = b
    generalize ((((F.getD i []).getD ((pivL F).getD i 0).toNat 0 : Int)) : Rat) = d
    rw [Rat.div_def, Rat.div_def]
    grind
theorem isTab_iff {b : Bk} {qs : List Rat} (f : FO b.frame b.size V) (hl : qs.length = b.size) : isTab b qs = true ↔ V (vq qs) := by
  unfold isTab
  rw [decide_eq_true_iff, mem_sum f]
  have hT : (tabL b.frame ((pivL b.frame).map fun k => qs.getD k.toNat 0) b.size).length = b.size := tabN_len f.len _ (Nat.le_refl _)
  have hv : ∀ i, i < b.frame.length → ((pivL b.frame).map fun k => qs.getD k.toNat 0).getD i 0 = qs.getD ((pivL b.frame).getD i 0).toNat 0 := fun i hi => by
    rw [List.getD_eq_getElem?_getD, List.getElem?_map, List.getElem?_eq_getElem (by rw [pivL_len]; exact hi), List.getD_eq_getElem?_getD (l := pivL b.frame), List.getElem?_eq_getElem (by rw [pivL_len]; exact hi)]
    rfl
  have at' : ∀ c, c < b.size → (tabL b.frame ((pivL b.frame).map fun k => qs.getD k.toNat 0) b.size).getD c 0 = sumQ b.frame (gre V [] (List.range b.size)) (vq qs) c := fun c hc => by
    have := sumI_Q (qs := qs) c hv b.frame.length (Nat.le_refl _)
    rw [List.take_length, List.take_of_length_le (by rw [List.length_map, pivL_len]; exact Nat.le_refl _), piv_nat f] at this
    rw [← this]
    exact tabN_at f.len hc _ (Nat.le_refl _)
  have out : ∀ c, b.size ≤ c → sumQ b.frame (gre V [] (List.range b.size)) (vq qs) c = 0 := fun c hc => by
    obtain ⟨z, a, _, e⟩ := dg_sum (vq qs) f.dg
    rw [← e c]
    exact sp_at (fun r hr => by
      obtain ⟨l, hl, rfl⟩ := List.mem_map.mp hr
      exact vi_zero.mpr (getD_ge (by rw [f.len l hl]; exact hc))) a
  constructor
  · intro h c
    by_cases hc : c < b.size
    · rw [← at' c hc, h]; rfl
    · rw [out c (by omega)]
      show qs.getD c 0 = 0
      rw [List.getD_eq_getElem?_getD, List.getElem?_eq_none (by omega)]
      rfl
  · intro h
    apply List.ext_getElem?
    intro c
    by_cases hc : c < b.size
    · have := at' c hc
      rw [← h c] at this
      have this : (tabL b.frame ((pivL b.frame).map fun k => qs.getD k.toNat 0) b.size).getD c 0 = qs.getD c 0 := this
      rw [List.getD_eq_getElem?_getD, List.getD_eq_getElem?_getD, List.getElem?_eq_getElem (by omega), List.getElem?_eq_getElem (by omega)] at this
      rw [List.getElem?_eq_getElem (by omega), List.getElem?_eq_getElem (by omega)]
      exact congrArg some this
    · rw [List.getElem?_eq_none (by omega), List.getElem?_eq_none (by omega)]
/-! sizes -/
def prodN : List Nat → Nat
  | [] => 1
  | x :: l => x * prodN l
theorem prodN_dvd : ∀ {l : List Nat} {x : Nat}, x ∈ l → x ∣ prodN l
  | y :: l, x, h => by
    rcases List.mem_cons.mp h with e | e
    · subst e; exact Nat.dvd_mul_right _ _
    · exact Nat.dvd_trans (prodN_dvd e) (Nat.dvd_mul_left _ _)
theorem prodN_le {M : Nat} : ∀ {l : List Nat}, (∀ x ∈ l, x ≤ M) → prodN l ≤ M ^ l.length
  | [], _ => Nat.le_refl _
  | x :: l, h => by
    have := prodN_le fun y hy => h y (List.mem_cons_of_mem _ hy)
    show x * prodN l ≤ M ^ (l.length + 1)
    rw [Nat.pow_succ, Nat.mul_comm]
    exact Nat.mul_le_mul this (h x (List.mem_cons_self ..))
theorem prodN_ne : ∀ {l : List Nat}, (∀ x ∈ l, x ≠ 0) → prodN l ≠ 0
  | [], _ => by decide
  | x :: l, h => Nat.mul_ne_zero (h x (List.mem_cons_self ..)) (prodN_ne fun y hy => h y (List.mem_cons_of_mem _ hy))
def diaN (F : List (List Int)) : List Nat := (List.range F.length).map fun i => ((F.getD i []).getD ((pivL F).getD i 0).toNat 0).natAbs
theorem diaN_mem {i : Nat} (hi : i < F.length) : ((F.getD i []).getD ((pivL F).getD i 0).toNat 0).natAbs ∈ diaN F := List.mem_map.mpr ⟨i, List.mem_range.mpr hi, rfl⟩
theorem fo_pv (f : FO F n V) {i : Nat} (hi : i < F.length) : 0 ≤ (pivL F).getD i 0 ∧ (pivL F).getD i 0 < (n : Int) ∧ (F.getD i []).getD ((pivL F).getD i 0).toNat 0 ≠ 0 := by
  obtain ⟨h1, h2, _, _⟩ := fo_head f hi
  rw [(piv_eq f hi).1]
  exact ⟨Int.natCast_nonneg _, by omega, fun z => h2 (vi_zero.mpr z)⟩
theorem fo_pvok {b : Bk} (f : FO b.frame b.size V) (hn : b.size ≤ 1000) : PvOk b := by
  refine ⟨?_, fun r hr => by rw [f.len r hr]; exact hn, fun r hr => ?_⟩
  · have := gre_len V (List.range b.size) []
    rw [f.count]
    rw [List.length_range] at this
    omega
  · obtain ⟨i, hi, rfl⟩ := List.mem_iff_getElem.mp hr
    have := (piv_eq f hi).2
    rwa [List.getD_eq_getElem?_getD, List.getElem?_eq_getElem hi] at this
variable {M D B : Nat}
theorem fac_gd (f : FO F n V) (hv : ∀ v ∈ vs, Gd D B v) (hl : vs.length = F.length) {i : Nat} (hi : i < F.length) : Gd (D * prodN (diaN F)) (B * prodN (diaN F)) (vs.getD i 0 / (((F.getD i []).getD ((pivL F).getD i 0).toNat 0 : Int) : Rat)) := by
  have hne := (fo_pv f hi).2.2
  have h1 : Gd (prodN (diaN F)) (prodN (diaN F)) (((1 : Int) : Rat) / (((F.getD i []).getD ((pivL F).getD i 0).toNat 0 : Int) : Rat)) :=
    gd_div hne (Int.natAbs_dvd.mp (Int.natCast_dvd_natCast.mpr (prodN_dvd (diaN_mem hi)))) (by show 1 * _ ≤ _; rw [Nat.one_mul]; exact Nat.le_refl _)
  have h2 := gd_mul (hv _ (DL.getD_mem (d := (0 : Rat)) (i := i) (by omega))) h1
  have e : vs.getD i 0 * (((1 : Int) : Rat) / (((F.getD i []).getD ((pivL F).getD i 0).toNat 0 : Int) : Rat)) = vs.getD i 0 / (((F.getD i []).getD ((pivL F).getD i 0).toNat 0 : Int) : Rat) := by
    rw [Rat.div_def, Rat.div_def, show (((1 : Int) : Rat)) = 1 from rfl]
    grind
  rwa [e] at h2
theorem int_gd {x : Int} (h : x.natAbs ≤ M) : Gd 1 M (x : Rat) := ⟨x, by rw [show (((1 : Nat) : Int) : Rat) = 1 from rfl]; grind, h⟩
theorem trm_gd (f : FO F n V) (hM : ∀ r ∈ F, ∀ j, (r.getD j 0).natAbs ≤ M) (hv : ∀ v ∈ vs, Gd D B v) (hl : vs.length = F.length) {i : Nat} (hi : i < F.length) (j : Nat) : Gd (D * prodN (diaN F)) (M * (B * prodN (diaN F))) (trm F vs j i) := by
  have := gd_mul (int_gd (hM _ (getD_memL hi) j)) (fac_gd f hv hl hi)
  rwa [Nat.one_mul] at this
theorem sumI_gd (f : FO F n V) (hM : ∀ r ∈ F, ∀ j, (r.getD j 0).natAbs ≤ M) (hv : ∀ v ∈ vs, Gd D B v) (hl : vs.length = F.length) (j : Nat) : ∀ i, i ≤ F.length → Gd (D * prodN (diaN F)) (i * (M * (B * prodN (diaN F)))) (sumI F vs j i)
  | 0, _ => gd_zero
  | i + 1, h => gd_mono (gd_add (sumI_gd f hM hv hl j i (by omega)) (trm_gd f hM hv hl (by omega) j)) (by rw [Nat.add_mul, Nat.one_mul]; exact Nat.le_refl _)
/-- how large the numbers may be -/
structure TzOk (F : List (List Int)) (M D B : Nat) : Prop where
  d0 : D ≠ 0
  m : ∀ r ∈ F, ∀ j, (r.getD j 0).natAbs ≤ M
  l : F.length ≤ 16
  mm : M < 2 ^ 900
  h1 : D * M ^ F.length < 2 ^ 1900
  h2 : B * M ^ F.length < 2 ^ 1900
  h3 : 16 * (M * (B * M ^ F.length)) < 2 ^ 2900
theorem dia_ok (f : FO F n V) (hM : ∀ r ∈ F, ∀ j, (r.getD j 0).natAbs ≤ M) : prodN (diaN F) ≤ M ^ F.length ∧ prodN (diaN F) ≠ 0 := by
  have hl : (diaN F).length = F.length := by unfold diaN; rw [List.length_map, List.length_range]
  constructor
  · rw [← hl]
    refine prodN_le fun x hx => ?_
    obtain ⟨i, hi, rfl⟩ := List.mem_map.mp hx
    exact hM _ (getD_memL (List.mem_range.mp hi)) _
  · refine prodN_ne fun x hx => ?_
    obtain ⟨i, hi, rfl⟩ := List.mem_map.mp hx
    have := (fo_pv f (List.mem_range.mp hi)).2.2
    omega
theorem tb_of {b : Bk} (f : FO b.frame b.size V) (hn : b.size ≤ 1000) (z : TzOk b.frame M D B) (hv : ∀ v ∈ vs, Gd D B v) (hl : vs.length = b.frame.length) : TbOk b vs := by
  obtain ⟨p1, p2⟩ := dia_ok f z.m
  have e0 : D * prodN (diaN b.frame) ≠ 0 := Nat.mul_ne_zero z.d0 p2
  have e1 : D * prodN (diaN b.frame) < 2 ^ 1900 := Nat.lt_of_le_of_lt (Nat.mul_le_mul_left _ p1) z.h1
  have e2 : B * prodN (diaN b.frame) < 2 ^ 1900 := Nat.lt_of_le_of_lt (Nat.mul_le_mul_left _ p1) z.h2
  have e3 : 16 * (M * (B * prodN (diaN b.frame))) < 2 ^ 2900 := Nat.lt_of_le_of_lt (Nat.mul_le_mul_left _ (Nat.mul_le_mul_left _ (Nat.mul_le_mul_left _ p1))) z.h3
  have up : ∀ {x k m : Nat}, x < 2 ^ k → k ≤ m → x < 2 ^ m := fun {x k m} h q => Nat.lt_of_lt_of_le h (Nat.pow_le_pow_right (by decide) q)
  have pos := Nat.pos_of_ne_zero p2
  have d1 : D ≤ D * prodN (diaN b.frame) := Nat.le_mul_of_pos_right _ pos
  have b1 : B ≤ B * prodN (diaN b.frame) := Nat.le_mul_of_pos_right _ pos
  refine ⟨fo_pvok f hn, hn, f.len, fun i hi => fo_pv f hi, fun r hr x hx => ?_, fun v h => ?_, fun i hi => ?_, fun i hi x hx => ?_, fun i hi q hq => ?_⟩
  · obtain ⟨j, rfl⟩ := mem_getD0 hx
    exact sz_int (Nat.le_of_lt (Nat.lt_of_lt_of_le (lg_b (z.m r hr j) z.mm (by decide)) (by decide)))
  · exact gd_sz (hv v h) z.d0 (up (Nat.lt_of_le_of_lt d1 e1) (by decide)) (up (Nat.lt_of_le_of_lt b1 e2) (by decide))
  · exact gd_sz (fac_gd f hv hl hi) e0 (up e1 (by decide)) (up e2 (by decide))
  · obtain ⟨j, rfl⟩ := mem_getD0 hx
    exact gd_sz (trm_gd f z.m hv hl hi j) e0 (up e1 (by decide)) (up (show M * (B * prodN (diaN b.frame)) < 2 ^ 2900 by omega) (by decide))
  · obtain ⟨j, hj, rfl⟩ := List.mem_iff_getElem.mp hq
    have ht := tabN_len (vs := vs) f.len i hi
    have e := tabN_at (vs := vs) f.len (j := j) (by omega) i hi
    rw [List.getD_eq_getElem?_getD, List.getElem?_eq_getElem hj] at e
    have e : (tabN b.frame vs b.size i)[j] = sumI b.frame vs j i := e
    rw [e]
    have hil : i ≤ 16 := Nat.le_trans hi z.l
    exact gd_sz (gd_mono (sumI_gd f z.m hv hl j i hi) (Nat.mul_le_mul_right _ hil)) e0 (up e1 (by decide)) (up e3 (by decide))
end
end DL

set_option Elab.async false
set_option linter.all false
set_option maxRecDepth 100000
set_option maxHeartbeats 4000000
namespace DL
open PySem L2
/-! ### ends and boxes -/
def SzO (o : Option Rat) : Prop := Sz 2000 (o.getD 0)
def SzR (p : Rg) : Prop := SzO p.1 ∧ SzO p.2
def emptyQ : Option Rat → Option Rat → Bool
  | some l, some h => decide (h < l)
  | _, _ => false
theorem szo_get {o : Option Rat} (h : SzO o) : Sz 4000 (o.getD 0) := h.mono (by decide)
theorem empty_is {lo hi : Option Rat} : (!lo.isNone && (!hi.isNone && decide (hi.getD 0 < lo.getD 0))) = emptyQ lo hi := by
  cases lo <;> cases hi <;> rfl
def liesQ (q : Rat) (lo hi : Option Rat) : Bool := !emptyQ lo (some q) && !emptyQ (some q) hi
def withinQ (xs : List Rat) (bx : List Rg) : Bool := ((List.range (min xs.length bx.length)).map fun i => liesQ (xs.getD i 0) (bx.getD i (none, none)).1 (bx.getD i (none, none)).2).all id
theorem within_is {xs : List Rat} {bx : List Rg} : ((List.range (min xs.length bx.length)).map fun i => liesQ (xs.getD i 0) (bx.getD i (none, none)).1 (bx.getD i (none, none)).2).all id = withinQ xs bx := rfl
def aroundQ (qs : List Rat) : List Rg := qs.map fun q => (some ((q.floor : Int) : Rat), some ((q.ceil : Int) : Rat))
theorem around_lc {K : PySem.W.Frag} {qs : List Rat} : ((List.range qs.length).filter fun _ => true).map (fun i => rRg K (some (((qs.getD i 0).floor : Int) : Rat), some (((qs.getD i 0).ceil : Int) : Rat))) = List.map (rRg K) (aroundQ qs) := by
  unfold aroundQ
  rw [List.map_map]
  exact lc_all (R := fun _ => rInt 0) (f := fun q : Rat => rRg K (some ((q.floor : Int) : Rat), some ((q.ceil : Int) : Rat)))
/-! the greatest worth -/
/-! widened boxes -/
end DL

set_option Elab.async false
set_option linter.all false
set_option maxRecDepth 100000
set_option maxHeartbeats 4000000
/-! roundings of a table, chances -/
namespace DL
open PySem PySem.Spec PyProof.Rows L2
def lieA (b : Bk) (qs ts : List Rat) : Bool := decide (((qs.length : Nat) : Int) = ((b.size : Nat) : Int)) && (isTab b qs && withinQ qs (aroundQ ts))
def whA (qs : List Rat) : Bool := qs.all fun q => decide (q.den = 1)
def chaQ (q r : Rat) : Rat := if decide (r = ((q.ceil : Int) : Rat)) = true then q - ((q.floor : Int) : Rat) else ((q.ceil : Int) : Rat) - q
def chaL (ts ws : List Rat) : List Rat := ((List.range (min ts.length ws.length)).filter fun i => !decide ((ts.getD i 0).den = 1)).map fun i => chaQ (ts.getD i 0) (ws.getD i 0)
def chaM (ts ws : List Rat) : Rat := (minO (((1 : Int) : Rat) :: chaL ts ws)).getD 0
theorem cha_t {q r : Rat} (h : decide (r = ((q.ceil : Int) : Rat)) = true) : q - ((q.floor : Int) : Rat) = chaQ q r := (if_pos h).symm
theorem cha_f {q r : Rat} (h : decide (r = ((q.ceil : Int) : Rat)) = false) : ((q.ceil : Int) : Rat) - q = chaQ q r := (if_neg fun z => Bool.false_ne_true (h.symm.trans z)).symm
theorem cha_lc {K : PySem.W.Frag} {ts ws : List Rat} : List.map (fun i : Nat => rNum K (chaQ (ts.getD i 0) (ws.getD i 0))) (List.filter (fun i => !decide ((ts.getD i 0).den = 1)) (List.range (min ts.length ws.length))) = List.map (rNum K) (chaL ts ws) := by
  unfold chaL
  rw [List.map_map]
  rfl
theorem around_len (ts : List Rat) : (aroundQ ts).length = ts.length := List.length_map _
theorem sz_floor {n : Nat} {q : Rat} (h : Sz n q) : Sz n ((q.floor : Int) : Rat) := sz_int (fl_lg0 h)
theorem sz_ceil {n : Nat} {q : Rat} (h : Sz n q) : Sz n ((q.ceil : Int) : Rat) := by
  have e : q.ceil = -((-q).floor) := by
    rw [Rat.ceil_eq_neg_floor_neg]
  have h2 : Sz n (-q) := ⟨by rw [Rat.neg_num]; unfold Lg; rw [Int.natAbs_neg]; exact h.1, by rw [Rat.neg_den]; exact h.2⟩
  refine sz_int ?_
  rw [e]
  unfold Lg
  rw [Int.natAbs_neg]
  exact fl_lg0 h2
theorem around_sz {ts : List Rat} (h : ∀ q ∈ ts, Sz 1000 q) : ∀ p ∈ aroundQ ts, SzR p := fun p hp => by
  obtain ⟨q, hq, rfl⟩ := List.mem_map.mp hp
  exact ⟨(sz_floor (h q hq)).mono (by decide), (sz_ceil (h q hq)).mono (by decide)⟩
theorem lieA_len {b : Bk} {qs ts : List Rat} (h : lieA b qs ts = true) : qs.length = b.size := by
  unfold lieA at h
  rw [Bool.and_eq_true] at h
  have := of_decide_eq_true h.1
  omega
theorem chaM_lc {K : PySem.W.Frag} {ts ws : List Rat} : [rInt 1] ++ List.map (rNum K) (chaL ts ws) = List.map (rNum K) (((1 : Int) : Rat) :: chaL ts ws) := rfl
theorem minO_ne {x : Rat} {l : List Rat} : (minO (x :: l)).isNone = false := minO_none (by simp)
theorem chaQ_sz {q r : Rat} (h : Sz 800 q) : Sz 1602 (chaQ q r) := by
  have h1 := sz_floor h
  have h2 := sz_ceil h
  unfold chaQ
  split
  · exact (sz_sub h h1).mono (by decide)
  · exact (sz_sub h2 h).mono (by decide)
theorem chaL_sz {ts ws : List Rat} (h : ∀ q ∈ ts, Sz 800 q) : ∀ q ∈ ((1 : Int) : Rat) :: chaL ts ws, Sz 1602 q := fun q hq => by
  rcases List.mem_cons.mp hq with e | e
  · rw [e]; exact sz_int (by decide)
  · obtain ⟨i, hi, rfl⟩ := List.mem_map.mp e
    have := List.mem_range.mp (List.mem_filter.mp hi).1
    exact chaQ_sz (h _ (DL.getD_mem (by omega)))
theorem chaL_len (ts ws : List Rat) : (chaL ts ws).length ≤ ts.length := by
  unfold chaL
  rw [List.length_map]
  refine Nat.le_trans (List.length_filter_le _ _) ?_
  rw [List.length_range]
  exact Nat.min_le_left _ _
def restQ (ts ws : List Rat) : List Rat := (zipM (· + ·) ts (ws.map fun q => q * (((0 : Int) : Rat) - chaM ts ws))).map fun q => q * (((1 : Int) : Rat) / (((1 : Int) : Rat) - chaM ts ws))
theorem chaM_in (ts ws : List Rat) : chaM ts ws ∈ ((1 : Int) : Rat) :: chaL ts ws := by
  obtain ⟨m, hm⟩ : ∃ m, minO (((1 : Int) : Rat) :: chaL ts ws) = some m := by
    have := minO_ne (x := ((1 : Int) : Rat)) (l := chaL ts ws)
    cases e : minO (((1 : Int) : Rat) :: chaL ts ws) with
    | none => rw [e] at this; cases this
    | some m => exact ⟨m, rfl⟩
  unfold chaM
  rw [hm]
  exact (minO_mem _ _ hm).1
theorem one_int : (((1 : Int)) : Rat) = 1 := rfl
theorem rest_ne {ts ws : List Rat} (h : ¬ chaM ts ws = 1) : ¬ ((1 : Int) : Rat) - chaM ts ws = 0 := fun z => h (by rw [one_int] at z; grind)
theorem rest_sz {ts ws : List Rat} (h1 : ∀ q ∈ ts, Sz 800 q) (h2 : ∀ q ∈ ws, Sz 800 q) : Sz 1602 (chaM ts ws) ∧ Sz 1604 (((0 : Int) : Rat) - chaM ts ws) ∧ Sz 1604 (((1 : Int) : Rat) - chaM ts ws) ∧ (∀ q ∈ ws.map (fun q => q * (((0 : Int) : Rat) - chaM ts ws)), Sz 2500 q) ∧ ∀ q ∈ zipM (· + ·) ts (ws.map fun q => q * (((0 : Int) : Rat) - chaM ts ws)), Sz 3400 q := by
  have a := chaL_sz (ws := ws) h1 _ (chaM_in ts ws)
  have b : Sz 1604 (((0 : Int) : Rat) - chaM ts ws) := sz_sub (sz_int (n := 0) (by decide)) a
  have c : Sz 1604 (((1 : Int) : Rat) - chaM ts ws) := sz_sub (sz_int (n := 0) (by decide)) a
  have d : ∀ q ∈ ws.map (fun q => q * (((0 : Int) : Rat) - chaM ts ws)), Sz 2500 q := fun q hq => by
    obtain ⟨x, hx, rfl⟩ := List.mem_map.mp hq
    exact (sz_mul (h2 x hx) b).mono (by decide)
  refine ⟨a, b, c, d, fun q hq => ?_⟩
  obtain ⟨i, hi, rfl⟩ := List.mem_map.mp hq
  have hi := List.mem_range.mp hi
  exact (sz_add (h1 _ (DL.getD_mem (by omega))) (d _ (DL.getD_mem (by omega)))).mono (by decide)
end DL

set_option Elab.async false
set_option linter.all false
set_option maxRecDepth 100000
set_option maxHeartbeats 4000000
/-! the law's rank of rows of great numbers; what it tells of the span -/
namespace DL
open PySem PySem.Spec PyProof.Rows L2
section
variable {rows : List (List Int)} {n i M : Nat} {s : Nat × List (List Int)} {K : List Nat} {L : List Vc} {S O : List (List Int)}
theorem small_dim (C : LO rows n i s K L S O) (hi : i ≤ n) (hM : ∀ t ∈ rows, ∀ j, (t.getD j 0).natAbs ≤ M) : ∀ r ∈ s.2, ∀ j, (r.getD j 0).natAbs ≤ bnd n M + M := fun r hr j => by
  rcases C.lw r hr with h | h | h
  · have hk : K.length ≤ i := by
      rw [C.ci.gr]
      refine Nat.le_trans (gre_len _ _ _) ?_
      rw [List.length_range]
      exact Nat.le_refl _
    have hin : i < n := Classical.byContradiction fun z => by
      have e : i = n := by omega
      have h0 : (0 : Nat) ∣ gl r := gl_dvd.mpr fun x hx => by
        obtain ⟨j, hj, rfl⟩ := List.mem_iff_getElem.mp hx
        have := C.ci.zero r hr j (List.mem_range.mpr (by rw [C.len r hr] at hj; omega))
        rw [List.getD_eq_getElem?_getD, List.getElem?_eq_getElem hj, Option.getD_some] at this
        rw [this]
        exact Int.dvd_refl _
      have := Nat.zero_dvd.mp h0
      omega
    have h1 := small_rest C.ci hM hr h j
    have h2 := bnd_mono (n := K.length + 1) (m := n) (M := M) (by omega)
    omega
  · rw [h j]; exact Nat.zero_le _
  · have := hM r h j
    omega
theorem lk_all (hl : ∀ r ∈ rows, r.length = n) : (lk rows n).1 = (gre (Sp (rows.map vi)) [] (List.range n)).length := by
  obtain ⟨K, L, S, O, C⟩ := lk_lo hl n
  rw [C.k, C.ci.gr]
structure R5 (n : Nat) (rows : List (List Int)) : Prop where
  n6 : n ≤ 6
  len : ∀ r ∈ rows, r.length = n
  m : rows.length ≤ 12
  sm : ∀ r ∈ rows, ∀ j, (r.getD j 0).natAbs ≤ 2 ^ 78
def Sm5 (n : Nat) (r : List Int) : Prop := r.length = n ∧ ∀ j, Lg (r.getD j 0) < 490
theorem b5 : bnd 6 (2 ^ 78) + 2 ^ 78 < 2 ^ 490 := by unfold bnd; decide +kernel
theorem lk5 (h : R5 n rows) {i : Nat} (hi : i ≤ n) : (∀ r ∈ (lk rows i).2, Sm5 n r) ∧ (lk rows i).2.length ≤ 12 ∧ (lk rows i).1 ≤ 12 := by
  obtain ⟨K, L, S, O, C⟩ := lk_lo h.len i
  have h1 := C.cnt
  have h2 := C.k
  have := h.m
  refine ⟨fun r hr2 => ⟨C.len r hr2, fun j => ?_⟩, by omega, by omega⟩
  refine lg_b (small_dim C hi h.sm r hr2 j) ?_ (by decide)
  have := bnd_mono (n := n) (m := 6) (M := 2 ^ 78) h.n6
  have := b5
  omega
theorem lmade_lg5 {n c j : Nat} {row lead : List Int} (h : Sm5 n row) (k : Sm5 n lead) : Lg ((lmade row lead c).getD j 0) < 989 := by
  rw [lmade_at h.1 k.1]
  have m1 := lg_mul (row.getD j 0) (lead.getD c 0)
  have m2 := lg_mul (lead.getD j 0) (row.getD c 0)
  have := lg_sub (row.getD j 0 * lead.getD c 0) (lead.getD j 0 * row.getD c 0)
  have := h.2 j
  have := h.2 c
  have := k.2 j
  have := k.2 c
  omega
theorem rk_cl5 {R : List (List Int)} {c j m : Nat} (h : ∀ r ∈ R, Sm5 m r) (hj : j < (spl R c).2.length) (hn : (!(spl R c).1.isNone) = true) : Sm5 m ((spl R c).2.getD j []) ∧ Sm5 m ((spl R c).1.getD []) :=
  ⟨h _ (spl_in.1 _ (getD_memL hj)), h _ (spl_in.2 _ (isNone_f (nn_t hn)))⟩
end
/-! a greater span with no more independent cells is no greater -/
theorem gre_grow {V V' : Vc → Prop} (h : ∀ x, V x → V' x) : ∀ n, (gre V [] (List.range n)).length ≤ (gre V' [] (List.range n)).length ∧ ((gre V' [] (List.range n)).length = (gre V [] (List.range n)).length → ∀ c, c < n → Piv V' (List.range c) c → Piv V (List.range c) c)
  | 0 => ⟨Nat.le_refl _, fun _ c hc => absurd hc (Nat.not_lt_zero _)⟩
  | n + 1 => by
    obtain ⟨a, b⟩ := gre_grow h n
    rw [List.range_succ, gre_snoc, gre_snoc, List.nil_append, List.length_append, List.length_append]
    have up : Piv V (List.range n) n → Piv V' (List.range n) n := fun ⟨x, h1, h2⟩ => ⟨x, h x h1, h2⟩
    by_cases p : Piv V (List.range n) n
    · rw [if_pos p, if_pos (up p)]
      refine ⟨by omega, fun e c hc q => ?_⟩
      by_cases ec : c = n
      · rw [ec]; exact p
      · exact b (by omega) c (by omega) q
    · rw [if_neg p]
      by_cases p' : Piv V' (List.range n) n
      · rw [if_pos p']
        refine ⟨by simp; omega, fun e => ?_⟩
        simp at e
        omega
      · rw [if_neg p']
        refine ⟨by omega, fun e c hc q => ?_⟩
        by_cases ec : c = n
        · rw [ec] at q; exact absurd q p'
        · exact b (by omega) c (by omega) q
theorem span_iff {rows : List (List Int)} {n : Nat} {w : List Int} (hl : ∀ r ∈ rows, r.length = n) (hw : w.length = n) : (gre (Sp ((rows ++ [w]).map vi)) [] (List.range n)).length = (gre (Sp (rows.map vi)) [] (List.range n)).length ↔ Sp (rows.map vi) (vi w) := by
  have sub : ∀ x, Sp (rows.map vi) x → Sp ((rows ++ [w]).map vi) x := fun x => sp_sub_of fun r hr => by
    rw [List.map_append]; exact List.mem_append_left _ hr
  constructor
  · intro e
    have f : FO (frameQ (rows.map toQ) n) n (Sp (rows.map vi)) := by
      have := frameQ_fo (rows := rows.map toQ) (n := n) (fun r hr => by
        obtain ⟨q, hq, rfl⟩ := List.mem_map.mp hr
        rw [toQ_len]; exact hl q hq)
      rwa [toQ_vq] at this
    obtain ⟨z, hz, hk, _⟩ := dg_sum (vi w) f.dg
    have hzV := (f.span z).mp hz
    have hy : Sp ((rows ++ [w]).map vi) (fun j => vi w j - z j) := sp_sub (sp_mem (List.mem_map.mpr ⟨w, List.mem_append_right _ (List.mem_singleton.mpr rfl), rfl⟩)) (sub z hzV)
    have hz0 := gre_zero hy (List.range n) [] (fun d hd => (List.not_mem_nil hd).elim) fun d hd => by
      obtain ⟨h1, h2⟩ := (gre_iff _ n d).mp hd
      have h3 := (gre_grow sub n).2 e d h1 h2
      have := hk d ((gre_iff _ n d).mpr ⟨h1, h3⟩)
      show vi w d - z d = 0
      rw [this]; grind
    refine hzV.to fun j => ?_
    by_cases hj : j < n
    · have := hz0 j (List.mem_range.mpr hj)
      have this : vi w j - z j = 0 := this
      grind
    · have h1 : vi w j = 0 := vi_zero.mpr (getD_ge (by omega))
      have h2 : z j = 0 := sp_at (fun r hr => by
        obtain ⟨l, hl', rfl⟩ := List.mem_map.mp hr
        exact vi_zero.mpr (getD_ge (by rw [hl l hl']; omega))) hzV
      rw [h1, h2]
  · intro h
    have e : ∀ x, Sp ((rows ++ [w]).map vi) x ↔ Sp (rows.map vi) x := fun x => ⟨fun k => sp_le (fun r hr => by
      rw [List.map_append] at hr
      rcases List.mem_append.mp hr with z | z
      · exact sp_mem z
      · rw [show r = vi w from by simpa using z]; exact h) k, sub x⟩
    rw [gre_congr e (List.range n) (p := []) (p' := []) fun _ => Iff.rfl]
/-! the whole row of a list -/
theorem topq_bG {L M B : Nat} {q : Rat} (hM : M ≠ 0) (hL : L ∣ M) (hd : q.den ∣ L) (h : Gd M B q) : (topq L q).natAbs ≤ B := by
  obtain ⟨t, ht⟩ := hL
  obtain ⟨z, a, b⟩ := h
  have e := topq_is hd
  have key : topq L q * (t : Int) = z := by
    have g : ((topq L q * (t : Int) : Int) : Rat) = (z : Rat) := by
      rw [Rat.intCast_mul, e, ← a, ht, Int.natCast_mul, Rat.intCast_mul, Rat.mul_assoc]
    exact_mod_cast g
  have ht0 : t ≠ 0 := fun z => hM (by rw [ht, z, Nat.mul_zero])
  have h2 : z.natAbs = (topq L q).natAbs * t := by rw [← key, Int.natAbs_mul, Int.natAbs_natCast]
  have := Nat.le_mul_of_pos_right (topq L q).natAbs (Nat.pos_of_ne_zero ht0)
  omega
theorem lcm_min {M B : Nat} {qs : List Rat} (h : ∀ q ∈ qs, Gd M B q) : lcmD qs ∣ M := lcmF_min qs 1 (Nat.one_dvd _) fun r hr => gd_den (h r hr)
/-- numbers over a common bottom -/
structure Nums (D B : Nat) (qs : List Rat) : Prop where
  d : D ≠ 0
  g : ∀ q ∈ qs, Gd D B q
theorem Nums.take {D B : Nat} {qs : List Rat} (h : Nums D B qs) (i : Nat) : Nums D B (qs.take i) := ⟨h.d, fun q hq => h.g q (List.mem_of_mem_take hq)⟩
theorem Nums.lcm {D B : Nat} {qs : List Rat} (h : Nums D B qs) : lcmD qs ≤ D := Nat.le_of_dvd (Nat.pos_of_ne_zero h.d) (lcm_min h.g)
theorem Nums.lcmT {D B n : Nat} {qs : List Rat} (h : Nums D B qs) (hD : D < 2 ^ n) (hn : 0 < n) (i : Nat) : Lg ((lcmD (qs.take i) : Nat) : Int) < n := lg_b (B := D) (by rw [Int.natAbs_natCast]; exact (h.take i).lcm) hD hn
theorem Nums.den {D B n : Nat} {qs : List Rat} (h : Nums D B qs) (hD : D < 2 ^ n) (hn : 0 < n) {q : Rat} (hq : q ∈ qs) : Lg ((q.den : Nat) : Int) < n := lg_b (B := D) (by rw [Int.natAbs_natCast]; exact Nat.le_of_dvd (Nat.pos_of_ne_zero h.d) (gd_den (h.g q hq))) hD hn
theorem Nums.tops {D B : Nat} {qs : List Rat} (h : Nums D B qs) (j : Nat) : ((tops qs).getD j 0).natAbs ≤ B := by
  by_cases hj : j < qs.length
  · rw [tops_at hj]
    have hm : qs.getD j 0 ∈ qs := DL.getD_mem hj
    exact topq_bG h.d (lcm_min h.g) (lcmD_dvd hm) (h.g _ hm)
  · rw [getD_ge (by rw [tops_len]; omega)]
    exact Nat.zero_le _
theorem sp_tops {rows : List (List Int)} {qs : List Rat} : Sp (rows.map vi) (vi (tops qs)) ↔ Sp (rows.map vi) (vq qs) := by
  obtain ⟨a, ha, e⟩ := tops_mul qs
  constructor
  · intro h
    exact (sp_mul (1 / a) h).to fun j => by
      show 1 / a * vi (tops qs) j = vq qs j
      rw [e j]; grind
  · intro h
    exact (sp_mul a h).to fun j => (e j).symm
end DL

set_option Elab.async false
set_option linter.all false
set_option maxRecDepth 100000
set_option maxHeartbeats 4000000
/-! the law's test of the span -/
namespace DL
open PySem PySem.Spec PyProof.Rows L2
structure SpOk (names : List Str) (rows : List (List Int)) (qs : List Rat) : Prop where
  d : Dw names.length 9 rows
  n6 : names.length ≤ 6
  m : rows.length ≤ 11
  ql : qs.length = names.length
  nums : ∃ D, 0 < D ∧ D < 2 ^ 76 ∧ Nums D (2 ^ 78) qs
section
variable {names : List Str} {rows : List (List Int)} {qs : List Rat} {D : Nat}
theorem SpOk.r2 (h : SpOk names rows qs) : R5 names.length rows := ⟨h.n6, h.d.len, Nat.le_succ_of_le h.m, fun r hr j => Nat.le_trans (h.d.sm r hr j) (by decide)⟩
theorem SpOk.r1 (h : SpOk names rows qs) (hN : Nums D (2 ^ 78) qs) : R5 names.length (rows ++ [tops qs]) := by
  refine ⟨h.n6, fun r hr => ?_, ?_, fun r hr j => ?_⟩
  · rcases List.mem_append.mp hr with z | z
    · exact h.d.len r z
    · rw [List.mem_singleton.mp z, tops_len]; exact h.ql
  · rw [List.length_append]
    have := h.m
    show _ + 1 ≤ 12
    omega
  · rcases List.mem_append.mp hr with z | z
    · exact Nat.le_trans (h.d.sm r z j) (by decide)
    · rw [List.mem_singleton.mp z]; exact hN.tops j
theorem SpOk.iff (h : SpOk names rows qs) : isTab (bkR names rows) qs = true ↔ Sp (rows.map vi) (vq qs) := isTab_iff (b := bkR names rows) h.d.fo h.ql
theorem SpOk.ans (h : SpOk names rows qs) : decide ((((gre (Sp ((rows ++ [tops qs]).map vi)) [] (List.range names.length)).length : Nat) : Int) = (((gre (Sp (rows.map vi)) [] (List.range names.length)).length : Nat) : Int)) = isTab (bkR names rows) qs := by
  have e := (span_iff (w := tops qs) h.d.len (by rw [tops_len]; exact h.ql)).trans (sp_tops.trans h.iff.symm)
  cases k : isTab (bkR names rows) qs with
  | true => exact decide_eq_true (by have := e.mpr k; omega)
  | false =>
    refine decide_eq_false fun z => ?_
    have := e.mp (by omega)
    rw [k] at this
    cases this
theorem Nums.gcd {B i : Nat} {a : Int} (h : Nums D B qs) (hD : D < 2 ^ 76) (hi : i < qs.length) : Lg ((Int.gcd a ((qs.getD i 0).den : Int) : Nat) : Int) < 9000 := by
  have h1 := lg_dvd (den_neI (qs.getD i 0)) (Int.gcd_dvd_right a ((qs.getD i 0).den : Int))
  have h2 := h.den hD (by decide) (DL.getD_mem (d := (0 : Rat)) hi)
  omega
theorem Nums.sz {B n : Nat} (h : Nums D B qs) (hD : D < 2 ^ (n + 1)) (hB : B < 2 ^ (n + 1)) : ∀ q ∈ qs, Sz n q := fun q hq => gd_sz (h.g q hq) h.d hD hB
theorem lg_fdiv_le {a b : Int} (hb : b ≠ 0) (hd : b ∣ a) : Lg (a.fdiv b) ≤ Lg a := by
  obtain ⟨t, rfl⟩ := hd
  rw [Int.mul_fdiv_cancel_left _ hb]
  refine lg_le ?_
  rw [Int.natAbs_mul]
  exact Nat.le_mul_of_pos_left _ (by omega)
theorem Nums.top_m {i : Nat} (h : Nums D (2 ^ 78) qs) (hD : D < 2 ^ 76) (hi : i < qs.length) : Lg (qs.getD i 0).num + Lg (((lcmD qs : Nat) : Int).fdiv ((qs.getD i 0).den : Int)) < 1000000 := by
  have hm : qs.getD i 0 ∈ qs := DL.getD_mem hi
  have h1 := (h.sz (n := 78) (Nat.lt_trans hD (by decide)) (by decide) _ hm).1
  have h2 := lg_fdiv_le (a := ((lcmD qs : Nat) : Int)) (b := ((qs.getD i 0).den : Int)) (den_neI _) (Int.natCast_dvd_natCast.mpr (lcmD_dvd hm))
  have h3 := h.lcmT hD (by decide) qs.length
  rw [List.take_length] at h3
  omega
end
end DL

set_option Elab.async false
set_option linter.all false
set_option maxRecDepth 100000
set_option maxHeartbeats 4000000
/-! what the law asks of chances and rests -/
namespace DL
open PySem PySem.Spec PyProof.Rows L2
/-! the law's own chance -/
def lpt (t w : Rat) : Rat := if decide (w = ((t.floor : Int) : Rat)) = true then ((t.ceil : Int) : Rat) + t * ((-1 : Int) : Rat) else t + ((-t.floor : Int) : Rat)
def lch (ts ws : List Rat) : Nat → Rat
  | 0 => ((1 : Int) : Rat)
  | i + 1 => if (!decide (((ts.getD i 0).den : Int) = 1)) = true then (if decide (lpt (ts.getD i 0) (ws.getD i 0) < lch ts ws i) = true then lpt (ts.getD i 0) (ws.getD i 0) else lch ts ws i) else lch ts ws i
section
variable {ts ws : List Rat} {i : Nat} {t w : Rat}
theorem lpt_t (h : decide (w = ((t.floor : Int) : Rat)) = true) : ((t.ceil : Int) : Rat) + t * ((-1 : Int) : Rat) = lpt t w := (if_pos h).symm
theorem lpt_f (h : decide (w = ((t.floor : Int) : Rat)) = false) : t + ((-t.floor : Int) : Rat) = lpt t w := (if_neg (by rw [h]; exact Bool.false_ne_true)).symm
theorem lch_n (h : (!decide (((ts.getD i 0).den : Int) = 1)) = false) : lch ts ws i = lch ts ws (i + 1) := (if_neg (by rw [h]; exact Bool.false_ne_true)).symm
theorem lch_t (h : (!decide (((ts.getD i 0).den : Int) = 1)) = true) (k : decide (lpt (ts.getD i 0) (ws.getD i 0) < lch ts ws i) = true) : lpt (ts.getD i 0) (ws.getD i 0) = lch ts ws (i + 1) := ((if_pos h).trans (if_pos k)).symm
theorem lch_f (h : (!decide (((ts.getD i 0).den : Int) = 1)) = true) (k : decide (lpt (ts.getD i 0) (ws.getD i 0) < lch ts ws i) = false) : lch ts ws i = lch ts ws (i + 1) := ((if_pos h).trans (if_neg (by rw [k]; exact Bool.false_ne_true))).symm
/-- the numbers are rounded -/
structure Rnd (ts ws : List Rat) : Prop where
  len : ws.length = ts.length
  w : ∀ i, i < ts.length → (ws.getD i 0).den = 1
  lo : ∀ i, i < ts.length → (((ts.getD i 0).floor : Int) : Rat) ≤ ws.getD i 0
  hi : ∀ i, i < ts.length → ws.getD i 0 ≤ (((ts.getD i 0).ceil : Int) : Rat)
theorem fl_le (q : Rat) : ((q.floor : Int) : Rat) ≤ q := Rat.floor_le _
theorem le_ce (q : Rat) : q ≤ ((q.ceil : Int) : Rat) := Rat.le_ceil
theorem fl_one (q : Rat) : q < ((q.floor : Int) : Rat) + 1 := by
  have := Rat.lt_floor_add_one q
  rw [Rat.intCast_add] at this
  exact this
theorem ce_one (q : Rat) : ((q.ceil : Int) : Rat) < q + 1 := Rat.ceil_lt
theorem den_one {q : Rat} (h : q.den = 1) : ((q.num : Int) : Rat) = q := by
  have e := q_eq q
  rw [h] at e
  have : (((1 : Nat) : Int) : Rat) = 1 := rfl
  rw [this] at e
  grind
theorem whole_fl {q : Rat} (h : q.den = 1) : ((q.floor : Int) : Rat) = q ∧ ((q.ceil : Int) : Rat) = q := by
  have e := den_one h
  rw [← e]
  exact ⟨by rw [Rat.floor_intCast], by rw [Rat.ceil_intCast]⟩
theorem ce_le (q : Rat) : q.ceil ≤ q.floor + 1 := by
  have h1 := ce_one q
  have h2 := fl_one q
  have h3 : ((q.ceil : Int) : Rat) < (((q.floor + 2 : Int)) : Rat) := by
    rw [Rat.intCast_add]
    have : (((2 : Int)) : Rat) = 2 := rfl
    rw [this]
    grind
  have h4 : q.ceil < q.floor + 2 := by exact_mod_cast h3
  omega
theorem fl_ne {q : Rat} (h : q.den ≠ 1) : q.ceil = q.floor + 1 := by
  have h1 := ce_le q
  have h2 : q.floor ≤ q.ceil := by
    have := Rat.le_trans (fl_le q) (le_ce q)
    exact_mod_cast this
  have h3 : q.floor ≠ q.ceil := fun e => h (by
    have a := fl_le q
    have b := le_ce q
    rw [← e] at b
    have : q = ((q.floor : Int) : Rat) := by grind
    rw [this]
    exact Rat.den_intCast _)
  omega
theorem rnd_two {q w : Rat} (hw : w.den = 1) (h1 : ((q.floor : Int) : Rat) ≤ w) (h2 : w ≤ ((q.ceil : Int) : Rat)) : w = ((q.floor : Int) : Rat) ∨ w = ((q.ceil : Int) : Rat) := by
  have e := den_one hw
  rw [← e] at h1 h2 ⊢
  have a : q.floor ≤ w.num := by exact_mod_cast h1
  have b : w.num ≤ q.ceil := by exact_mod_cast h2
  have c := ce_le q
  by_cases h : w.num = q.floor
  · exact .inl (by rw [h])
  · exact .inr (by rw [show w.num = q.ceil by omega])
theorem lpt_cha (hd : t.den ≠ 1) (hw : w = ((t.floor : Int) : Rat) ∨ w = ((t.ceil : Int) : Rat)) : lpt t w = chaQ t w := by
  have hc := fl_ne hd
  unfold lpt chaQ
  rcases hw with e | e
  · rw [if_pos (decide_eq_true e), if_neg (by
      rw [e, decide_eq_true_iff]
      intro z
      have : t.floor = t.ceil := by exact_mod_cast z
      omega)]
    have : (((-1 : Int)) : Rat) = -1 := rfl
    rw [this]
    grind
  · rw [if_pos (decide_eq_true e), if_neg (by
      rw [e, decide_eq_true_iff]
      intro z
      have : t.ceil = t.floor := by exact_mod_cast z
      omega)]
    rw [Rat.intCast_neg]
    grind
theorem lch_fold (h : Rnd ts ws) : ∀ i, i ≤ ts.length → ((((List.range i).filter fun i => !decide ((ts.getD i 0).den = 1)).map fun i => chaQ (ts.getD i 0) (ws.getD i 0)).foldl stepMin (some ((1 : Int) : Rat))) = some (lch ts ws i)
  | 0, _ => rfl
  | i + 1, hi => by
    rw [List.range_succ, List.filter_append, List.map_append, List.foldl_append, lch_fold h i (by omega)]
    by_cases hd : (ts.getD i 0).den = 1
    · rw [← lch_n (by rw [decide_eq_true (by omega)]; rfl)]
      simp only [List.filter_cons, hd, decide_true, Bool.not_true, List.filter_nil]
      rfl
    · have h1 : (!decide (((ts.getD i 0).den : Int) = 1)) = true := by rw [decide_eq_false (by omega)]; rfl
      have e : List.map (fun i => chaQ (ts.getD i 0) (ws.getD i 0)) (List.filter (fun i => !decide ((ts.getD i 0).den = 1)) [i]) = [chaQ (ts.getD i 0) (ws.getD i 0)] := by
        simp only [List.filter_cons, hd, decide_false, Bool.not_false, if_true, List.filter_nil, List.map_cons, List.map_nil]
      rw [e]
      have e2 := lpt_cha hd (rnd_two (h.w i (by omega)) (h.lo i (by omega)) (h.hi i (by omega)))
      show stepMin (some (lch ts ws i)) (chaQ (ts.getD i 0) (ws.getD i 0)) = _
      rw [← e2]
      unfold stepMin
      show (if (false || decide (lpt (ts.getD i 0) (ws.getD i 0) < lch ts ws i)) = true then _ else _) = _
      rw [Bool.false_or]
      cases k : decide (lpt (ts.getD i 0) (ws.getD i 0) < lch ts ws i) with
      | true => rw [if_pos rfl, lch_t h1 k]
      | false => rw [if_neg Bool.false_ne_true, ← lch_f h1 k]
theorem lch_is (h : Rnd ts ws) : lch ts ws ts.length = chaM ts ws := by
  unfold chaM minO
  show _ = (List.foldl stepMin (some ((1 : Int) : Rat)) (chaL ts ws)).getD 0
  unfold chaL
  rw [h.len, Nat.min_self, lch_fold h _ (Nat.le_refl _)]
  rfl
/-! the chance is the least -/
theorem cha_le (h : Rnd ts ws) : chaM ts ws ≤ 1 ∧ ∀ i, i < ts.length → (ts.getD i 0).den ≠ 1 → chaM ts ws ≤ chaQ (ts.getD i 0) (ws.getD i 0) := by
  obtain ⟨m, hm⟩ : ∃ m, minO (((1 : Int) : Rat) :: chaL ts ws) = some m := by
    have := minO_ne (x := ((1 : Int) : Rat)) (l := chaL ts ws)
    cases e : minO (((1 : Int) : Rat) :: chaL ts ws) with
    | none => rw [e] at this; cases this
    | some m => exact ⟨m, rfl⟩
  have e : chaM ts ws = m := by unfold chaM; rw [hm]; rfl
  have k := (minO_mem _ _ hm).2
  rw [e]
  refine ⟨Rat.not_lt.mp (k _ (List.mem_cons_self ..)), fun i hi hd => Rat.not_lt.mp (k _ (List.mem_cons_of_mem _ (List.mem_map.mpr ⟨i, List.mem_filter.mpr ⟨List.mem_range.mpr (by rw [h.len]; omega), by rw [decide_eq_false hd]; rfl⟩, rfl⟩)))⟩
theorem cha_gd {D B : Nat} (hD : D ≠ 0) (h : Rnd ts ws) (hg : ∀ q ∈ ts, Gd D B q) : ∃ a : Nat, chaM ts ws * ((D : Int) : Rat) = ((a : Int) : Rat) ∧ a ≤ D := by
  have hD' : (0 : Rat) < ((D : Int) : Rat) := by
    have : (0 : Int) < (D : Int) := by omega
    exact_mod_cast this
  have one : (((1 : Int)) : Rat) = 1 := rfl
  rcases List.mem_cons.mp (chaM_in ts ws) with e | e
  · exact ⟨D, by rw [e, one]; grind, Nat.le_refl _⟩
  · obtain ⟨i, hi, he⟩ := List.mem_map.mp e
    obtain ⟨hi1, hi2⟩ := List.mem_filter.mp hi
    have hi1 := List.mem_range.mp hi1
    have hlen := h.len
    obtain ⟨z, hz, _⟩ := hg (ts.getD i 0) (DL.getD_mem (by omega))
    generalize ts.getD i 0 = t at hz he
    generalize ws.getD i 0 = w at he
    have a1 := fl_le t
    have a2 := fl_one t
    have a3 := le_ce t
    have a4 := ce_one t
    have key : ∀ x : Int, ∀ c : Rat, c * ((D : Int) : Rat) = (x : Rat) → 0 ≤ c → c ≤ 1 → ∃ a : Nat, c * ((D : Int) : Rat) = ((a : Int) : Rat) ∧ a ≤ D := fun x c hx h0 h1 => by
      have p0 : (0 : Rat) ≤ (x : Rat) := by rw [← hx]; exact Rat.mul_nonneg h0 (Rat.le_of_lt hD')
      have p1 : (x : Rat) ≤ ((D : Int) : Rat) := by
        have : c * ((D : Int) : Rat) ≤ 1 * ((D : Int) : Rat) := Rat.mul_le_mul_of_nonneg_right h1 (Rat.le_of_lt hD')
        rw [hx, Rat.one_mul] at this
        exact this
      have q0 : 0 ≤ x := by exact_mod_cast p0
      have q1 : x ≤ (D : Int) := by exact_mod_cast p1
      exact ⟨x.toNat, by rw [hx, Int.toNat_of_nonneg q0], by omega⟩
    rw [← he]
    unfold chaQ
    split
    · refine key (z - t.floor * D) _ ?_ (by grind) (by grind)
      rw [Rat.intCast_sub, Rat.intCast_mul, ← hz]
      grind
    · refine key (t.ceil * D - z) _ ?_ (by grind) (by grind)
      rw [Rat.intCast_sub, Rat.intCast_mul, ← hz]
      grind
theorem rest_len (h : Rnd ts ws) : (restQ ts ws).length = ts.length := by
  unfold restQ zipM
  rw [List.length_map, List.length_map, List.length_range, List.length_map, h.len, Nat.min_self]
theorem rest_at (h : Rnd ts ws) (hi : i < ts.length) : (restQ ts ws).getD i 0 = (ts.getD i 0 + ws.getD i 0 * (((0 : Int) : Rat) - chaM ts ws)) * (((1 : Int) : Rat) / (((1 : Int) : Rat) - chaM ts ws)) := by
  have hl := h.len
  unfold restQ zipM
  rw [List.getD_eq_getElem?_getD, List.getElem?_map, List.getElem?_map, List.getElem?_range (by rw [List.length_map]; omega)]
  show (ts.getD i 0 + (ws.map fun q => q * (((0 : Int) : Rat) - chaM ts ws)).getD i 0) * _ = _
  rw [List.getD_eq_getElem?_getD (l := ws.map _), List.getElem?_map, List.getElem?_eq_getElem (by omega), List.getD_eq_getElem?_getD (l := ws), List.getElem?_eq_getElem (by omega)]
  rfl
theorem rest_mul {c t w r : Rat} (hc : 1 - c ≠ 0) (e : r = (t + w * (((0 : Int) : Rat) - c)) * (((1 : Int) : Rat) / (((1 : Int) : Rat) - c))) : r * (1 - c) = t - w * c := by
  have z : (((0 : Int)) : Rat) = 0 := rfl
  have o : (((1 : Int)) : Rat) = 1 := rfl
  rw [z, o] at e
  rw [e]
  have : 1 / (1 - c) * (1 - c) = 1 := by grind
  have h2 : (t + w * (0 - c)) * (1 / (1 - c)) * (1 - c) = (t + w * (0 - c)) * (1 / (1 - c) * (1 - c)) := by rw [Rat.mul_assoc]
  rw [h2, this]
  grind
theorem le_mul_r {a r d : Rat} (hd : 0 < d) (h : a * d ≤ r * d) : a ≤ r := Rat.not_lt.mp fun z => by
  have := Rat.mul_lt_mul_of_pos_right z hd
  exact Rat.not_lt.mpr h this
theorem rest_in (h : Rnd ts ws) (hc : ¬ chaM ts ws = 1) (hi : i < ts.length) : (((ts.getD i 0).floor : Int) : Rat) ≤ (restQ ts ws).getD i 0 ∧ (restQ ts ws).getD i 0 ≤ (((ts.getD i 0).ceil : Int) : Rat) := by
  obtain ⟨c1, c2⟩ := cha_le h
  have cc := c2 i hi
  have e := rest_at h hi
  have w1 := h.w i hi
  have w2 := h.lo i hi
  have w3 := h.hi i hi
  generalize (restQ ts ws).getD i 0 = r at e ⊢
  generalize ts.getD i 0 = t at *
  generalize ws.getD i 0 = w at *
  generalize chaM ts ws = c at *
  have hd : 0 < 1 - c := by grind
  have m := rest_mul (c := c) (by grind) e
  have f1 := fl_le t
  have f2 := le_ce t
  by_cases hden : t.den = 1
  · obtain ⟨g1, g2⟩ := whole_fl hden
    rw [g1] at w2 ⊢
    rw [g2] at w3 ⊢
    have : w = t := by grind
    subst this
    exact ⟨le_mul_r hd (by rw [m]; grind), le_mul_r hd (by rw [m]; grind)⟩
  · have hce := fl_ne hden
    have hce2 : ((t.ceil : Int) : Rat) = ((t.floor : Int) : Rat) + 1 := by rw [hce, Rat.intCast_add]; rfl
    have hle := cc hden
    unfold chaQ at hle
    rcases rnd_two w1 w2 w3 with e1 | e1
    · rw [if_neg (by rw [e1, decide_eq_true_iff]; intro z; rw [hce2] at z; grind)] at hle
      rw [e1] at m
      rw [hce2] at hle ⊢
      generalize ((t.floor : Int) : Rat) = f at *
      exact ⟨le_mul_r hd (by rw [m]; grind), le_mul_r hd (by rw [m]; grind)⟩
    · rw [if_pos (decide_eq_true e1)] at hle
      rw [e1] at m
      rw [hce2] at m f2 ⊢
      generalize ((t.floor : Int) : Rat) = f at *
      exact ⟨le_mul_r hd (by rw [m]; grind), le_mul_r hd (by rw [m]; grind)⟩
theorem rest_eq (h : Rnd ts ws) (hc : ¬ chaM ts ws = 1) (hi : i < ts.length) : chaM ts ws * ws.getD i 0 + (((1 : Int) : Rat) + chaM ts ws * ((-1 : Int) : Rat)) * (restQ ts ws).getD i 0 = ts.getD i 0 := by
  have e := rest_at h hi
  generalize (restQ ts ws).getD i 0 = r at e ⊢
  generalize ts.getD i 0 = t at *
  generalize ws.getD i 0 = w at *
  generalize chaM ts ws = c at *
  have m := rest_mul (c := c) (by grind) e
  have o : (((1 : Int)) : Rat) = 1 := rfl
  have o2 : (((-1 : Int)) : Rat) = -1 := rfl
  rw [o, o2]
  grind
theorem rest_sp {rows : List (List Int)} (h : Rnd ts ws) (hc : ¬ chaM ts ws = 1) (h1 : Sp (rows.map vi) (vq ts)) (h2 : Sp (rows.map vi) (vq ws)) : Sp (rows.map vi) (vq (restQ ts ws)) := by
  refine (sp_mul (1 / (1 - chaM ts ws)) (sp_sub h1 (sp_mul (chaM ts ws) h2))).to fun j => ?_
  show 1 / (1 - chaM ts ws) * (vq ts j - chaM ts ws * vq ws j) = (restQ ts ws).getD j 0
  by_cases hj : j < ts.length
  · rw [rest_at h hj]
    show 1 / (1 - chaM ts ws) * (ts.getD j 0 - chaM ts ws * ws.getD j 0) = _
    have z : (((0 : Int)) : Rat) = 0 := rfl
    have o : (((1 : Int)) : Rat) = 1 := rfl
    rw [z, o]
    grind
  · have hl := h.len
    have a : vq ts j = 0 := by unfold vq; rw [List.getD_eq_getElem?_getD, List.getElem?_eq_none (by omega)]; rfl
    have b : vq ws j = 0 := by unfold vq; rw [List.getD_eq_getElem?_getD, List.getElem?_eq_none (by omega)]; rfl
    rw [a, b, List.getD_eq_getElem?_getD, List.getElem?_eq_none (by rw [rest_len h]; omega)]
    show _ = (0 : Rat)
    grind
theorem rest_nums {D : Nat} (hD : 0 < D) (h : Rnd ts ws) (hc : ¬ chaM ts ws = 1) (h1 : Nums D (2 ^ 77) ts) (h2 : Nums D (2 ^ 77) ws) : ∃ D', 0 < D' ∧ D' ≤ D ∧ Nums D' (2 ^ 78) (restQ ts ws) := by
  obtain ⟨a, ha, hle⟩ := cha_gd (by omega) h h1.g
  have hlt : a < D := by
    refine Nat.lt_of_le_of_ne hle fun e => hc ?_
    rw [e] at ha
    have hD' : ((D : Int) : Rat) ≠ 0 := by
      have : (D : Int) ≠ 0 := by omega
      exact fun z => this (by exact_mod_cast z)
    generalize ((D : Int) : Rat) = d at *
    grind
  refine ⟨D - a, by omega, by omega, by omega, fun q hq => ?_⟩
  obtain ⟨i, hi, rfl⟩ := List.mem_iff_getElem.mp hq
  have hi' : i < ts.length := by rw [rest_len h] at hi; exact hi
  have e := rest_at h hi'
  rw [List.getD_eq_getElem?_getD, List.getElem?_eq_getElem hi] at e
  have e : (restQ ts ws)[i] = _ := e
  generalize (restQ ts ws)[i] = r at e ⊢
  obtain ⟨z, hz, bz⟩ := h1.g (ts.getD i 0) (DL.getD_mem hi')
  obtain ⟨y, hy, by'⟩ := h2.g (ws.getD i 0) (DL.getD_mem (by rw [h.len]; exact hi'))
  have w1 := den_one (h.w i hi')
  have m := rest_mul (c := chaM ts ws) (by grind) e
  generalize ts.getD i 0 = t at *
  generalize hw : ws.getD i 0 = w at *
  generalize chaM ts ws = c at *
  refine ⟨z - w.num * (a : Int), ?_, ?_⟩
  · have : (((D - a : Nat) : Int) : Rat) = ((D : Int) : Rat) - ((a : Int) : Rat) := by
      rw [show ((D - a : Nat) : Int) = (D : Int) - (a : Int) by omega, Rat.intCast_sub]
    rw [this, Rat.intCast_sub, Rat.intCast_mul, ← hz, w1, ← ha]
    generalize ((D : Int) : Rat) = d at *
    have : r * (d - c * d) = r * (1 - c) * d := by grind
    rw [this, m]
    grind
  · have k : w.num * (D : Int) = y := by
      have : ((w.num * (D : Int) : Int) : Rat) = (y : Rat) := by rw [Rat.intCast_mul, w1, hy]
      exact_mod_cast this
    have k2 : (w.num * (a : Int)).natAbs ≤ y.natAbs := by
      rw [← k, Int.natAbs_mul, Int.natAbs_mul, Int.natAbs_natCast, Int.natAbs_natCast]
      exact Nat.mul_le_mul_left _ hle
    omega
end
end DL

set_option Elab.async false
set_option linter.all false
set_option maxRecDepth 100000
set_option maxHeartbeats 4000000
/-! what the program is asked, what it must tell -/
namespace DL
open PySem PySem.Spec PyProof.Rows L2
section
variable {b : Bk} {ts ws : List Rat} {i : Nat}
theorem around_at (hi : i < ts.length) : (aroundQ ts).getD i (none, none) = (some (((ts.getD i 0).floor : Int) : Rat), some (((ts.getD i 0).ceil : Int) : Rat)) := by
  unfold aroundQ
  rw [List.getD_eq_getElem?_getD, List.getElem?_map, List.getElem?_eq_getElem hi, List.getD_eq_getElem?_getD, List.getElem?_eq_getElem hi]
  rfl
theorem lies_iff {q l h : Rat} : liesQ q (some l) (some h) = true ↔ l ≤ q ∧ q ≤ h := by
  show (!decide (q < l) && !decide (h < q)) = true ↔ _
  rw [Bool.and_eq_true]
  simp only [Bool.not_eq_true', decide_eq_false_iff_not]
  exact ⟨fun ⟨a, b⟩ => ⟨Rat.not_lt.mp a, Rat.not_lt.mp b⟩, fun ⟨a, b⟩ => ⟨Rat.not_lt.mpr a, Rat.not_lt.mpr b⟩⟩
theorem with_iff (hl : ws.length = ts.length) : withinQ ws (aroundQ ts) = true ↔ ∀ i, i < ts.length → (((ts.getD i 0).floor : Int) : Rat) ≤ ws.getD i 0 ∧ ws.getD i 0 ≤ (((ts.getD i 0).ceil : Int) : Rat) := by
  unfold withinQ
  rw [List.all_eq_true, around_len, hl, Nat.min_self]
  constructor
  · intro h i hi
    have := h _ (List.mem_map.mpr ⟨i, List.mem_range.mpr hi, rfl⟩)
    rw [around_at hi] at this
    exact lies_iff.mp this
  · intro h x hx
    obtain ⟨i, hi, rfl⟩ := List.mem_map.mp hx
    have hi := List.mem_range.mp hi
    rw [around_at hi]
    exact lies_iff.mpr (h i hi)
theorem whA_iff : whA ws = true ↔ ∀ q ∈ ws, q.den = 1 := by
  unfold whA
  rw [List.all_eq_true]
  exact ⟨fun h q hq => of_decide_eq_true (h q hq), fun h q hq => decide_eq_true (h q hq)⟩
theorem rnd_of (hl : ts.length = b.size) (h2 : whA ws = true) (h : lieA b ws ts = true) : Rnd ts ws := by
  have hw := lieA_len h
  unfold lieA at h
  rw [Bool.and_eq_true, Bool.and_eq_true] at h
  have k := (with_iff (by omega)).mp h.2.2
  exact ⟨by omega, fun i hi => whA_iff.mp h2 _ (DL.getD_mem (by omega)), fun i hi => (k i hi).1, fun i hi => (k i hi).2⟩
def lieI (ts ws : List Rat) (j : Nat) : Bool := decide ((ws.getD j 0).num < (ts.getD j 0).floor) || decide ((ts.getD j 0).ceil < (ws.getD j 0).num)
theorem lieI_iff (hd : (ws.getD i 0).den = 1) : lieI ts ws i = false ↔ (((ts.getD i 0).floor : Int) : Rat) ≤ ws.getD i 0 ∧ ws.getD i 0 ≤ (((ts.getD i 0).ceil : Int) : Rat) := by
  have e := den_one hd
  unfold lieI
  generalize ws.getD i 0 = w at *
  generalize ts.getD i 0 = t at *
  rw [Bool.or_eq_false_iff, decide_eq_false_iff_not, decide_eq_false_iff_not, ← e, Rat.num_intCast]
  constructor
  · rintro ⟨a, b⟩
    have a : t.floor ≤ w.num := by omega
    have b : w.num ≤ t.ceil := by omega
    exact ⟨by exact_mod_cast a, by exact_mod_cast b⟩
  · rintro ⟨a, b⟩
    have a : t.floor ≤ w.num := by exact_mod_cast a
    have b : w.num ≤ t.ceil := by exact_mod_cast b
    omega
theorem lie_yes (hl : ts.length = b.size) (hw : ws.length = b.size) (h1 : isTab b ws = true) (h2 : whA ws = true) (h : ∀ j, j < b.size → lieI ts ws j = false) : (lieA b ws ts && whA ws) = true := by
  rw [h2, Bool.and_true]
  unfold lieA
  rw [decide_eq_true (by omega), h1, Bool.true_and, Bool.true_and]
  exact (with_iff (by omega)).mpr fun i hi => (lieI_iff (whA_iff.mp h2 _ (DL.getD_mem (by omega)))).mp (h i (by omega))
theorem lie_no (hl : ts.length = b.size) (hw : ws.length = b.size) (h2 : whA ws = true) (hi : i < b.size) (h : lieI ts ws i = true) : (lieA b ws ts && whA ws) = false := by
  cases e : lieA b ws ts && whA ws with
  | false => rfl
  | true =>
    rw [Bool.and_eq_true] at e
    have R := rnd_of hl e.2 e.1
    have := (lieI_iff (ts := ts) (R.w i (by omega))).mpr ⟨R.lo i (by omega), R.hi i (by omega)⟩
    rw [h] at this
    cases this
theorem wh_no (hi : i < ws.length) (h : (!decide (((ws.getD i 0).den : Int) = 1)) = true) : whA ws = false := by
  cases e : whA ws with
  | false => rfl
  | true =>
    have := whA_iff.mp e _ (DL.getD_mem (d := (0 : Rat)) hi)
    rw [decide_eq_true (by omega)] at h
    cases h
theorem wh_more (hj : ∀ j, j < i → (ws.getD j 0).den = 1) (h : (!decide (((ws.getD i 0).den : Int) = 1)) = false) : ∀ j, j < i + 1 → (ws.getD j 0).den = 1 := fun j hj' => by
  by_cases e : j = i
  · have := of_decide_eq_true (nn_f h)
    rw [e]; omega
  · exact hj j (by omega)
theorem wh_yes (hj : ∀ j, j < ws.length → (ws.getD j 0).den = 1) : whA ws = true := whA_iff.mpr fun q hq => by
  obtain ⟨j, hj', rfl⟩ := List.mem_iff_getElem.mp hq
  have := hj j hj'
  rwa [List.getD_eq_getElem?_getD, List.getElem?_eq_getElem hj'] at this
theorem li_more (hj : ∀ j, j < i → lieI ts ws j = false) (h : lieI ts ws i = false) : ∀ j, j < i + 1 → lieI ts ws j = false := fun j hj' => by
  by_cases e : j = i
  · rw [e]; exact h
  · exact hj j (by omega)
end
/-! the answers -/
def dueS (b : Bk) (ts ws : List Rat) : Str := if ¬ ts.length = b.size then "size" else if isTab b ts = false then "table" else if ¬ ws.length = b.size then "size" else if isTab b ws = false then "table" else if whA ws = false then "whole" else if (lieA b ws ts && whA ws) = false then "rounding" else "none"
def toldF (d : Int) (b : Bk) (ts ws : List Rat) : Str × (Rat ⊕ List Rat) := if ¬ ts.length = b.size then ("size", .inl ((0 : Int) : Rat)) else if isTab b ts = false then ("table", .inl ((0 : Int) : Rat)) else if ¬ ws.length = b.size then ("size", .inl ((0 : Int) : Rat)) else if isTab b ws = false then ("table", .inl ((0 : Int) : Rat)) else if whA ws = false then ("whole", .inl ((0 : Int) : Rat)) else
  if (lieA b ws ts && whA ws) = false then ("rounding", .inl ((0 : Int) : Rat)) else if d = 0 then ("none", .inl (chaM ts ws)) else if chaM ts ws = 1 then ("chance", .inl ((0 : Int) : Rat)) else ("none", .inr (restQ ts ws))
/-- what the law's question asks of its lists -/
structure AkOk (names : List Str) (rows : List (List Int)) (ts ws : List Rat) : Prop where
  d : Dw names.length 9 rows
  n6 : names.length ≤ 6
  m : rows.length ≤ 11
  l1 : ts.length ≤ 20
  l2 : ws.length ≤ 20
  nums : ∃ D, 0 < D ∧ D < 2 ^ 76 ∧ Nums D (2 ^ 77) ts ∧ Nums D (2 ^ 77) ws
section
variable {names : List Str} {rows : List (List Int)} {ts ws : List Rat}
theorem Nums.mono {D B B' : Nat} {qs : List Rat} (h : Nums D B qs) (hb : B ≤ B') : Nums D B' qs := ⟨h.d, fun q hq => gd_mono (h.g q hq) hb⟩
theorem AkOk.s1 (h : AkOk names rows ts ws) (hl : ts.length = names.length) : SpOk names rows ts := by
  obtain ⟨D, a, b, c, d⟩ := h.nums
  exact ⟨h.d, h.n6, h.m, hl, D, a, b, c.mono (by decide)⟩
theorem AkOk.s2 (h : AkOk names rows ts ws) (hl : ws.length = names.length) : SpOk names rows ws := by
  obtain ⟨D, a, b, c, d⟩ := h.nums
  exact ⟨h.d, h.n6, h.m, hl, D, a, b, d.mono (by decide)⟩
theorem AkOk.z1 (h : AkOk names rows ts ws) : ∀ q ∈ ts, Sz 77 q := by
  obtain ⟨D, a, b, c, d⟩ := h.nums
  exact c.sz (Nat.lt_trans b (by decide)) (by decide)
theorem AkOk.z2 (h : AkOk names rows ts ws) : ∀ q ∈ ws, Sz 77 q := by
  obtain ⟨D, a, b, c, d⟩ := h.nums
  exact d.sz (Nat.lt_trans b (by decide)) (by decide)
theorem gd_getD {D B : Nat} {qs : List Rat} (h : ∀ q ∈ qs, Gd D B q) (k : Nat) : Gd D B (qs.getD k 0) := mem_getD_gd h k
theorem bn11 : bnd 11 9 < 2 ^ 90 := by unfold bnd; decide +kernel
theorem tz_of {D : Nat} (hd : Dw names.length 9 rows) (n6 : names.length ≤ 6) (m : rows.length ≤ 11) (h0 : 0 < D) (h1 : D < 2 ^ 76) : TzOk (frm names.length rows) (2 ^ 90) D (2 ^ 78) := by
  have hl : (frm names.length rows).length ≤ 6 := by
    have := hd.fo.count
    have h2 := gre_len (Sp (rows.map vi)) (List.range names.length) []
    rw [List.length_range] at h2
    omega
  have hp : ((2 ^ 90) ^ (frm names.length rows).length : Nat) ≤ (2 ^ 90) ^ 6 := Nat.pow_le_pow_right (by decide) hl
  refine ⟨by omega, fun r hr j => ?_, by omega, by decide, ?_, ?_, ?_⟩
  · have := hd.fsm r hr j
    have h2 := bnd_mono (n := rows.length) (m := 11) (M := 9) m
    have := bn11
    omega
  · have : D * (2 ^ 90) ^ (frm names.length rows).length ≤ 2 ^ 76 * (2 ^ 90) ^ 6 := Nat.mul_le_mul (Nat.le_of_lt h1) hp
    exact Nat.lt_of_le_of_lt this (by decide +kernel)
  · have : 2 ^ 78 * (2 ^ 90) ^ (frm names.length rows).length ≤ 2 ^ 78 * (2 ^ 90) ^ 6 := Nat.mul_le_mul_left _ hp
    exact Nat.lt_of_le_of_lt this (by decide +kernel)
  · have : 16 * (2 ^ 90 * (2 ^ 78 * (2 ^ 90) ^ (frm names.length rows).length)) ≤ 16 * (2 ^ 90 * (2 ^ 78 * (2 ^ 90) ^ 6)) := Nat.mul_le_mul_left _ (Nat.mul_le_mul_left _ (Nat.mul_le_mul_left _ hp))
    exact Nat.lt_of_le_of_lt this (by decide +kernel)
theorem tb_it {qs : List Rat} {D : Nat} (hd : Dw names.length 9 rows) (n6 : names.length ≤ 6) (m : rows.length ≤ 11) (h0 : 0 < D) (h1 : D < 2 ^ 76) (hn : Nums D (2 ^ 78) qs) (hl : qs.length ≤ 20) :
    PvOk (bkR names rows) ∧ (qs.length = (bkR names rows).size → TbOk (bkR names rows) ((pivL (bkR names rows).frame).map fun k => qs.getD k.toNat 0) ∧ qs.length ≤ 1000) := by
  have hn16 := hd.n2
  have hs : (bkR names rows).size ≤ 1000 := by show names.length ≤ 1000; omega
  refine ⟨fo_pvok (b := bkR names rows) hd.fo hs, fun _ => ⟨tb_of (b := bkR names rows) hd.fo hs (tz_of hd n6 m h0 h1) (fun v hv => ?_) (by rw [List.length_map, pivL_len]), by omega⟩⟩
  obtain ⟨k, _, rfl⟩ := List.mem_map.mp hv
  exact gd_getD hn.g _
theorem AkOk.pp (h : AkOk names rows ts ws) : ((PvOk (bkR names rows) ∧ (ts.length = (bkR names rows).size → TbOk (bkR names rows) ((pivL (bkR names rows).frame).map fun k => ts.getD k.toNat 0) ∧ ts.length ≤ 1000)) ∧ (PvOk (bkR names rows) ∧ (ws.length = (bkR names rows).size → TbOk (bkR names rows) ((pivL (bkR names rows).frame).map fun k => ws.getD k.toNat 0) ∧ ws.length ≤ 1000))) ∧ (ts.length ≤ 1000 ∧ ∀ q ∈ ts, Sz 800 q) ∧ (ws.length ≤ 1000 ∧ ∀ q ∈ ws, Sz 800 q) := by
  obtain ⟨D, a, b, c, d⟩ := h.nums
  have := h.l1
  have := h.l2
  exact ⟨⟨tb_it h.d h.n6 h.m a b (c.mono (by decide)) h.l1, tb_it h.d h.n6 h.m a b (d.mono (by decide)) h.l2⟩, ⟨by omega, fun q hq => (h.z1 q hq).mono (by decide)⟩, ⟨by omega, fun q hq => (h.z2 q hq).mono (by decide)⟩⟩
end
end DL

set_option Elab.async false
set_option linter.all false
set_option maxRecDepth 100000
set_option maxHeartbeats 4000000
/-! drawn rows, sums of them; how large chances are -/
namespace DL
open PySem PySem.Spec PyProof.Rows L2
theorem rg_lc {α β : Type} {n : Nat} {f : Nat → α} {R : α → β} : List.map (fun i : Nat => R (f i)) (List.filter (fun _ => true) (List.range ((n : Nat) : Int).toNat)) = List.map R ((List.range n).map f) := by
  rw [List.filter_eq_self.mpr (fun _ _ => rfl), Int.toNat_natCast, List.map_map]
  rfl
theorem lg_sm {x : Int} (h : x.natAbs ≤ 1000) : Lg x < 4000 := Nat.lt_trans (lg_b (n := 10) h (by decide) (by decide)) (by decide)
/-! rows -/
def rchZ (hd : List Int) : Int := 2 + 7 * (if decide ((hd.getD 2 0).fmod 8 = 1) = true then 1 else 0)
def rowI (n k : Nat) : List Int := (List.range n).map fun j : Nat => (if decide ((j : Int) = (k : Int)) = true then 1 else 0)
def rowD (n : Nat) (ds hd : List Int) (k : Nat) : List Int := (List.range n).map fun j : Nat => (ds.getD (6 * (k : Int) + (j : Int)).toNat 0).fmod (2 * rchZ hd + 1) - rchZ hd
def rowsW (n many : Nat) (ds hd : List Int) : List (List Int) := if decide ((hd.getD 3 0).fmod 4 = 1) = true then (List.range n).map (rowI n) else (List.range many).map (rowD n ds hd)
theorem rchZ_b (hd : List Int) : 2 ≤ rchZ hd ∧ rchZ hd ≤ 9 := by
  unfold rchZ
  split <;> decide
section
variable {n many : Nat} {ds hd : List Int}
theorem rw_t (h : decide ((hd.getD 3 0).fmod 4 = 1) = true) : (List.range n).map (rowI n) = rowsW n many ds hd := (if_pos h).symm
theorem rw_f (h : decide ((hd.getD 3 0).fmod 4 = 1) = false) : (List.range many).map (rowD n ds hd) = rowsW n many ds hd := (if_neg (by rw [h]; exact Bool.false_ne_true)).symm
theorem rowI_b (k : Nat) : (rowI n k).length = n ∧ ∀ x ∈ rowI n k, x.natAbs ≤ 9 := by
  refine ⟨by unfold rowI; simp, fun x hx => ?_⟩
  obtain ⟨j, _, rfl⟩ := List.mem_map.mp hx
  split <;> decide
theorem rowD_b (k : Nat) : (rowD n ds hd k).length = n ∧ ∀ x ∈ rowD n ds hd k, x.natAbs ≤ 9 := by
  refine ⟨by unfold rowD; simp, fun x hx => ?_⟩
  obtain ⟨j, _, rfl⟩ := List.mem_map.mp hx
  have hb := rchZ_b hd
  have h1 := Int.fmod_nonneg_of_pos (ds.getD (6 * (k : Int) + (j : Int)).toNat 0) (show (0 : Int) < 2 * rchZ hd + 1 by omega)
  have h2 := Int.fmod_lt_of_pos (ds.getD (6 * (k : Int) + (j : Int)).toNat 0) (show (0 : Int) < 2 * rchZ hd + 1 by omega)
  omega
theorem rowsW_b : (∀ r ∈ rowsW n many ds hd, r.length = n ∧ ∀ x ∈ r, x.natAbs ≤ 9) ∧ (rowsW n many ds hd).length ≤ max n many := by
  unfold rowsW
  split
  · refine ⟨fun r hr => ?_, by rw [List.length_map, List.length_range]; omega⟩
    obtain ⟨k, _, rfl⟩ := List.mem_map.mp hr
    exact rowI_b k
  · refine ⟨fun r hr => ?_, by rw [List.length_map, List.length_range]; omega⟩
    obtain ⟨k, _, rfl⟩ := List.mem_map.mp hr
    exact rowD_b k
theorem bn6 : bnd 6 9 < 2 ^ 45 ∧ bnd 6 (2 ^ 45) < 2 ^ 3900 := by unfold bnd; decide +kernel
theorem rowsW_dw (h1 : 1 ≤ n) (h2 : n ≤ 6) (h3 : many ≤ 6) : Dw n 9 (rowsW n many ds hd) := by
  obtain ⟨a, b⟩ := rowsW_b (n := n) (many := many) (ds := ds) (hd := hd)
  have hl : (rowsW n many ds hd).length ≤ 6 := by omega
  have b1 := bnd_mono (n := (rowsW n many ds hd).length) (m := 6) (M := 9) hl
  have b2 := bnd_mono2 (M := bnd (rowsW n many ds hd).length 9) (M' := 2 ^ 45) hl (by have := bn6.1; omega)
  refine ⟨h1, by omega, by omega, fun r hr => (a r hr).1, fun r hr j => small_getD (a r hr).2 j, by decide, ?_, ?_⟩
  · exact Nat.lt_of_le_of_lt b1 (Nat.lt_of_lt_of_le bn6.1 (Nat.pow_le_pow_right (by decide) (by decide)))
  · exact Nat.lt_of_le_of_lt b2 bn6.2
end
/-! sums of multiples of the rows -/
def sumZ (n : Nat) (rows : List (List Int)) (fs : List Int) : Nat → List Int
  | 0 => (List.range n).map fun _ : Nat => 0
  | k + 1 => (List.range n).map fun j : Nat => (sumZ n rows fs k).getD j 0 + fs.getD k 0 * (rows.getD k []).getD j 0
theorem sumZ_len (n : Nat) (rows : List (List Int)) (fs : List Int) (k : Nat) : (sumZ n rows fs k).length = n := by
  cases k <;> (unfold sumZ; simp)
theorem sumZ_at (n : Nat) (rows : List (List Int)) (fs : List Int) (k : Nat) {j : Nat} (hj : j < n) : (sumZ n rows fs (k + 1)).getD j 0 = (sumZ n rows fs k).getD j 0 + fs.getD k 0 * (rows.getD k []).getD j 0 := by
  show ((List.range n).map _).getD j 0 = _
  rw [List.getD_eq_getElem?_getD, List.getElem?_map, List.getElem?_range hj]
  rfl
theorem sumZ_0 (n : Nat) (rows : List (List Int)) (fs : List Int) (j : Nat) : (sumZ n rows fs 0).getD j 0 = 0 := by
  show ((List.range n).map _).getD j 0 = _
  rw [List.getD_eq_getElem?_getD, List.getElem?_map]
  cases (List.range n)[j]? <;> rfl
theorem sumZ_b {n : Nat} {rows : List (List Int)} {fs : List Int} {F : Nat} (hr : ∀ r ∈ rows, ∀ j, (r.getD j 0).natAbs ≤ 9) (hf : ∀ x ∈ fs, x.natAbs ≤ F) : ∀ k, k ≤ rows.length → ∀ j, ((sumZ n rows fs k).getD j 0).natAbs ≤ k * (F * 9)
  | 0, _, j => by rw [sumZ_0]; exact Nat.zero_le _
  | k + 1, hk, j => by
    have ih := sumZ_b (n := n) hr hf k (by omega) j
    by_cases hj : j < n
    · rw [sumZ_at n rows fs k hj]
      have a : (fs.getD k 0).natAbs ≤ F := small_getD hf k
      have b := hr _ (getD_memL (l := rows) (i := k) (by omega)) j
      have c : (fs.getD k 0 * (rows.getD k []).getD j 0).natAbs ≤ F * 9 := by rw [Int.natAbs_mul]; exact Nat.mul_le_mul a b
      have d : (k + 1) * (F * 9) = k * (F * 9) + F * 9 := by rw [Nat.add_mul, Nat.one_mul]
      omega
    · rw [getD_ge (by rw [sumZ_len]; omega)]
      exact Nat.zero_le _
/-! sizes of chances -/
section
variable {ts ws : List Rat} {t w : Rat} {n : Nat}
theorem lpt_sz (h : Sz n t) : Sz (n + n + 3) (lpt t w) := by
  unfold lpt
  split
  · refine (sz_add (sz_ceil h) (sz_mul h (sz_int (n := 0) (by decide)))).mono (by omega)
  · refine (sz_add h (sz_int (n := n) ?_)).mono (by omega)
    unfold Lg
    rw [Int.natAbs_neg]
    exact fl_lg0 h
theorem getD_szA {m : Nat} (h : ∀ q ∈ ts, Sz m q) (k : Nat) : Sz m (ts.getD k 0) := by
  rw [List.getD_eq_getElem?_getD]
  cases e : ts[k]? with
  | none => exact ⟨Nat.zero_le _, Nat.zero_le _⟩
  | some x => exact h x (List.mem_of_getElem? e)
theorem lch_sz (h : ∀ q ∈ ts, Sz 78 q) : ∀ i, Sz 160 (lch ts ws i)
  | 0 => sz_int (by decide)
  | i + 1 => by
    have ih := lch_sz h i
    have hp : Sz 160 (lpt (ts.getD i 0) (ws.getD i 0)) := (lpt_sz (getD_szA h i)).mono (by decide)
    unfold lch
    split
    · split
      · exact hp
      · exact ih
    · exact ih
end
/-- a list with one number moved -/
def movL (qs : List Rat) (a : Nat) (s : Rat) : List Rat := qs.set a (qs.getD a 0 + s)
end DL

set_option Elab.async false
set_option linter.all false
set_option maxRecDepth 100000
set_option maxHeartbeats 4000000
/-! what the law's question finds -/
namespace DL
open PySem PySem.Spec PyProof.Rows L2
section
variable {names : List Str} {rows : List (List Int)} {ts ws : List Rat} {i : Nat} {d : Int}
theorem rest_ok (h : AkOk names rows ts ws) (e1 : ts.length = names.length) (hR : Rnd ts ws) (hc : ¬ chaM ts ws = 1) : SpOk names rows (restQ ts ws) ∧ (∀ q ∈ restQ ts ws, Sz 78 q) ∧ Sz 76 (chaM ts ws) := by
  obtain ⟨D, a, b, c, d⟩ := h.nums
  obtain ⟨D', a', b', c'⟩ := rest_nums a hR hc c d
  have hb : D' < 2 ^ 76 := by omega
  refine ⟨⟨h.d, h.n6, h.m, by rw [rest_len hR, e1], D', a', hb, c'⟩, c'.sz (Nat.lt_trans hb (by decide)) (by decide), ?_⟩
  obtain ⟨k, hk, hl⟩ := cha_gd (by omega) hR c.g
  exact gd_sz (M := D) (B := D) ⟨(k : Int), hk, by rw [Int.natAbs_natCast]; exact hl⟩ (by omega) (Nat.lt_trans b (by decide)) (Nat.lt_trans b (by decide))
theorem rest_tab (h : AkOk names rows ts ws) (e1 : ts.length = names.length) (hR : Rnd ts ws) (hc : ¬ chaM ts ws = 1) (h1 : isTab (bkR names rows) ts = true) (h2 : isTab (bkR names rows) ws = true) : isTab (bkR names rows) (restQ ts ws) = true :=
  (rest_ok h e1 hR hc).1.iff.mpr (rest_sp hR hc ((h.s1 e1).iff.mp h1) ((h.s2 (hR.len.trans e1)).iff.mp h2))
theorem rs_no {r f c : Rat} (h : f ≤ r ∧ r ≤ c) (hc : (decide (r < f) || decide (c < r)) = true) : False := by
  rw [decide_eq_false (Rat.not_lt.mpr h.1), decide_eq_false (Rat.not_lt.mpr h.2)] at hc
  cases hc
theorem rs_eq {a b : Rat} (h : a = b) (hc : (!decide (a = b)) = true) : False := by
  rw [decide_eq_true h] at hc
  cases hc
theorem door_01 : ∀ i : Nat, ([0, 1, 0] : List Int).getD i 0 = 0 ∨ ([0, 1, 0] : List Int).getD i 0 = 1
  | 0 => .inl rfl
  | 1 => .inr rfl
  | 2 => .inl rfl
  | _ + 3 => .inl rfl
/-- all is as it should be -/
structure AllOk (b : Bk) (ts ws : List Rat) : Prop where
  l1 : ts.length = b.size
  t1 : isTab b ts = true
  l2 : ws.length = b.size
  t2 : isTab b ws = true
  w : whA ws = true
  r : lieA b ws ts = true
theorem AllOk.rnd {b : Bk} (h : AllOk b ts ws) : Rnd ts ws := rnd_of h.l1 h.w h.r
theorem nB {b : Bool} (h : ¬ b = false) : b = true := by cases b with | true => rfl | false => exact absurd rfl h
theorem due_none {b : Bk} (h : dueS b ts ws = "none") : AllOk b ts ws := by
  unfold dueS at h
  split at h
  · exact absurd h (by decide)
  split at h
  · exact absurd h (by decide)
  split at h
  · exact absurd h (by decide)
  split at h
  · exact absurd h (by decide)
  split at h
  · exact absurd h (by decide)
  split at h
  · exact absurd h (by decide)
  rename_i h1 h2 h3 h4 h5 h6
  have h6 := nB h6
  rw [Bool.and_eq_true] at h6
  exact ⟨Classical.not_not.mp h1, nB h2, Classical.not_not.mp h3, nB h4, nB h5, h6.1⟩
theorem told_of {b : Bk} (h : AllOk b ts ws) : toldF d b ts ws = (if d = 0 then (("none" : Str), (Sum.inl (chaM ts ws) : Rat ⊕ List Rat)) else if chaM ts ws = 1 then ("chance", .inl ((0 : Int) : Rat)) else ("none", .inr (restQ ts ws))) := by
  unfold toldF
  rw [if_neg (fun z => z h.l1), if_neg (by rw [h.t1]; exact Bool.noConfusion), if_neg (fun z => z h.l2), if_neg (by rw [h.t2]; exact Bool.noConfusion), if_neg (by rw [h.w]; exact Bool.noConfusion), if_neg (by rw [h.w, h.r]; exact Bool.noConfusion)]
theorem told_bad {b : Bk} (h : ¬ dueS b ts ws = "none") : (toldF d b ts ws).1 = dueS b ts ws := by
  unfold dueS at h ⊢
  unfold toldF
  split
  · rfl
  rename_i h1
  rw [if_neg h1] at h
  split
  · rfl
  rename_i h2
  rw [if_neg h2] at h
  split
  · rfl
  rename_i h3
  rw [if_neg h3] at h
  split
  · rfl
  rename_i h4
  rw [if_neg h4] at h
  split
  · rfl
  rename_i h5
  rw [if_neg h5] at h
  split
  · rfl
  rename_i h6
  rw [if_neg h6] at h
  exact absurd rfl h
theorem told_t {b : Bk} (hc : (decide (d = 1) && (decide (dueS b ts ws = "none") && decide (lch ts ws ts.length = ((1 : Int) : Rat)))) = true) : (toldF d b ts ws).1 = "chance" := by
  rw [Bool.and_eq_true, Bool.and_eq_true] at hc
  have h1 := of_decide_eq_true hc.1
  have h2 := due_none (of_decide_eq_true hc.2.1)
  have h3 := of_decide_eq_true hc.2.2
  rw [lch_is h2.rnd] at h3
  rw [told_of h2, if_neg (by omega), if_pos (show chaM ts ws = 1 from h3)]
theorem told_f {b : Bk} (hd : d = 0 ∨ d = 1) (hc : (decide (d = 1) && (decide (dueS b ts ws = "none") && decide (lch ts ws ts.length = ((1 : Int) : Rat)))) = false) : (toldF d b ts ws).1 = dueS b ts ws := by
  by_cases k : dueS b ts ws = "none"
  · have h2 := due_none k
    rw [told_of h2, k]
    rcases hd with e | e
    · rw [if_pos e]
    · rw [decide_eq_true e, decide_eq_true k, Bool.true_and, Bool.true_and] at hc
      have h3 := of_decide_eq_false hc
      rw [lch_is h2.rnd] at h3
      rw [if_neg (by omega), if_neg (show ¬ chaM ts ws = 1 from h3)]
  · exact told_bad k
theorem told_all {b : Bk} (h : decide ((toldF d b ts ws).1 = "none") = true) : AllOk b ts ws := by
  have h := of_decide_eq_true h
  by_cases k : dueS b ts ws = "none"
  · exact due_none k
  · rw [told_bad k] at h
    exact absurd h k
theorem told_0 {b : Bk} (h : decide ((toldF d b ts ws).1 = "none") = true) (hd : d = 0) : (toldF d b ts ws).2 = .inl (chaM ts ws) := by
  rw [told_of (told_all h), if_pos hd]
theorem told_1 {b : Bk} (h : decide ((toldF d b ts ws).1 = "none") = true) (hd : d = 1) : (toldF d b ts ws).2 = .inr (restQ ts ws) ∧ ¬ chaM ts ws = 1 := by
  have e := told_of (d := d) (told_all h)
  have h := of_decide_eq_true h
  rw [e, if_neg (by omega)] at h ⊢
  split at h
  · exact absurd h (by decide)
  · rename_i z
    rw [if_neg z]
    exact ⟨rfl, z⟩
theorem bl_l {a b : Bool} (h : (a && b) = true) : a = true := by cases a with | true => rfl | false => cases h
theorem bl_r {a b : Bool} (h : (a && b) = true) : b = true := by cases a with | true => exact h | false => cases h
theorem cha_num (h : AkOk names rows ts ws) (k : AllOk (bkR names rows) ts ws) : Sz 989 (chaM ts ws) := by
  obtain ⟨D, a, b, c, d⟩ := h.nums
  obtain ⟨k, hk, hl⟩ := cha_gd (by omega) k.rnd c.g
  have : Sz 76 (chaM ts ws) := gd_sz (M := D) (B := D) ⟨(k : Int), hk, by rw [Int.natAbs_natCast]; exact hl⟩ (by omega) (Nat.lt_trans b (by decide)) (Nat.lt_trans b (by decide))
  exact this.mono (by decide)
theorem as_w {s t : Str} {a : Bool} (ha : a = true) (h : s = t) (hc : ((!a) || !decide (s = t)) = true) : False := by
  subst ha
  rw [decide_eq_true h] at hc
  cases hc
theorem as_n {b : Bk} {x : Bool} (h : AllOk b ts ws) (hx : x = true) (hc : ((!x) || !decide (chaM ts ws = lch ts ws ts.length)) = true) : False := by
  subst hx
  rw [lch_is h.rnd, decide_eq_true rfl] at hc
  cases hc
end
end DL

set_option Elab.async false
set_option linter.all false
set_option maxRecDepth 100000
set_option maxHeartbeats 4000000
/-! what the law of chances draws -/
namespace DL
open PySem PySem.Spec PyProof.Rows L2
/-! the book -/
def sz5 (hd : List Int) : Int := if decide (((hd.getD 0 0).fdiv 5).fmod 10 = 1) = true then 6 else 1 + (hd.getD 0 0).fmod 5
theorem sz5_b (hd : List Int) : 1 ≤ sz5 hd ∧ sz5 hd ≤ 6 := by
  unfold sz5
  have h3 := Int.fmod_nonneg_of_pos (hd.getD 0 0) (show (0 : Int) < 5 by decide)
  have h4 := Int.fmod_lt_of_pos (hd.getD 0 0) (show (0 : Int) < 5 by decide)
  split <;> omega
def nm5 (hd : List Int) : List Str := namesL (sz5 hd).toNat
theorem nm5_len (hd : List Int) : (((nm5 hd).length : Nat) : Int) = sz5 hd := by
  have := sz5_b hd
  unfold nm5 namesL
  rw [List.length_map, List.length_range]
  omega
theorem nm5_b (hd : List Int) : 1 ≤ (nm5 hd).length ∧ (nm5 hd).length ≤ 6 := by
  have := sz5_b hd
  have := nm5_len hd
  omega
theorem nm5_t {hd : List Int} (h : decide (((hd.getD 0 0).fdiv 5).fmod 10 = 1) = true) : (6 : Int) = (((nm5 hd).length : Nat) : Int) := by
  rw [nm5_len, sz5, if_pos h]
theorem nm5_f {hd : List Int} (h : decide (((hd.getD 0 0).fdiv 5).fmod 10 = 1) = false) : 1 + (hd.getD 0 0).fmod 5 = (((nm5 hd).length : Nat) : Int) := by
  rw [nm5_len, sz5, if_neg (fun z => Bool.false_ne_true (h.symm.trans z))]
theorem nm5_lc (hd : List Int) : List.map (fun k : Nat => rStr (("c" : Str) ++ ((toString ((k : Nat) : Int) : String) : Str))) (List.filter (fun _ => true) (List.range ((((nm5 hd).length : Nat) : Int)).toNat)) = List.map rStr (nm5 hd) := by
  rw [List.filter_eq_self.mpr (fun _ _ => rfl), nm5_len]
  unfold nm5 namesL
  rw [List.map_map]
  rfl
theorem nm5_ok (hd : List Int) : namesOk (nm5 hd) = true ∧ ∀ x ∈ nm5 hd, x.length ≤ 100000 := by
  have hb := sz5_b hd
  have := namesL_ok (sz5 hd).toNat (by omega)
  exact ⟨this.1, fun x hx => of_decide_eq_true (List.all_eq_true.mp this.2 x hx)⟩
def mn5 (hd : List Int) : Nat := ((hd.getD 1 0).fmod ((((nm5 hd).length : Nat) : Int) + 1)).toNat
theorem mn5_b (hd : List Int) : ((mn5 hd : Nat) : Int) = (hd.getD 1 0).fmod ((((nm5 hd).length : Nat) : Int) + 1) ∧ mn5 hd ≤ 6 := by
  have hb := nm5_b hd
  have h0 : (0 : Int) < (((nm5 hd).length : Nat) : Int) + 1 := by omega
  have h1 := Int.fmod_nonneg_of_pos (hd.getD 1 0) h0
  have h2 := Int.fmod_lt_of_pos (hd.getD 1 0) h0
  unfold mn5
  omega
abbrev rw5 (hd ds : List Int) : List (List Int) := rowsW (nm5 hd).length (mn5 hd) ds hd
theorem rw5_dw (hd ds : List Int) : Dw (nm5 hd).length 9 (rw5 hd ds) := rowsW_dw (nm5_b hd).1 (nm5_b hd).2 (mn5_b hd).2
theorem rw5_m (hd ds : List Int) : (rw5 hd ds).length ≤ 6 := by
  have h : (rw5 hd ds).length ≤ max (nm5 hd).length (mn5 hd) := (rowsW_b (n := (nm5 hd).length) (many := mn5 hd) (ds := ds) (hd := hd)).2
  have := nm5_b hd
  have := mn5_b hd
  omega
theorem rw5_bk (hd ds : List Int) : BookOk (nm5 hd) ((rw5 hd ds).map toQ) := ⟨by have := (nm5_b hd).2; omega, (nm5_ok hd).2, fun _ _ => (rw5_dw hd ds).fr⟩
theorem rw5_lens (hd ds : List Int) : lensOk (nm5 hd).length ((rw5 hd ds).map toQ) = true := List.all_eq_true.mpr fun r hr => by
  obtain ⟨q, hq, rfl⟩ := List.mem_map.mp hr
  exact decide_eq_true (by rw [toQ_len]; exact (rw5_dw hd ds).len q hq)
theorem nm5_16 (hd : List Int) : 1 ≤ (nm5 hd).length ∧ (nm5 hd).length ≤ 16 := by have := nm5_b hd; omega
/-! factors and sums -/
theorem fm_bd {x m : Int} (h : 0 < m) : 0 ≤ x.fmod m ∧ x.fmod m < m := ⟨Int.fmod_nonneg_of_pos _ h, Int.fmod_lt_of_pos _ h⟩
def sc5 (hd : List Int) : Int := if decide ((hd.getD 4 0).fmod 8 = 1) = true then 10 ^ 9 + 7 else 1
abbrev fw5 (hd mr : List Int) : List Int := ((mr.drop 0).take 6).map fun x => (x.fmod 7 - 3) * sc5 hd
abbrev fy5 (mr : List Int) : List Int := ((mr.drop 6).take 6).map fun x => x.fmod 5 - 2
section
variable {hd mr ds : List Int}
theorem sc5_t (h : decide ((hd.getD 4 0).fmod 8 = 1) = true) : (10 : Int) ^ 9 + 7 = sc5 hd := (if_pos h).symm
theorem sc5_f (h : decide ((hd.getD 4 0).fmod 8 = 1) = false) : (1 : Int) = sc5 hd := (if_neg (by rw [h]; exact Bool.false_ne_true)).symm
theorem sc5_b : 1 ≤ sc5 hd ∧ sc5 hd ≤ 10 ^ 9 + 7 := by unfold sc5; split <;> decide
theorem fw5_b : ∀ x ∈ fw5 hd mr, x.natAbs ≤ 3 * (10 ^ 9 + 7) := fun x hx => by
  obtain ⟨y, _, rfl⟩ := List.mem_map.mp hx
  have h := fm_bd (x := y) (show (0 : Int) < 7 by decide)
  have h2 := sc5_b (hd := hd)
  rw [Int.natAbs_mul]
  exact Nat.mul_le_mul (by omega) (by omega)
theorem fy5_b : ∀ x ∈ fy5 mr, x.natAbs ≤ 2 := fun x hx => by
  obtain ⟨y, _, rfl⟩ := List.mem_map.mp hx
  have h := fm_bd (x := y) (show (0 : Int) < 5 by decide)
  omega
theorem fw5_len (h : 12 ≤ mr.length) : (fw5 hd mr).length = 6 := by unfold fw5; simp; omega
theorem fy5_len (h : 12 ≤ mr.length) : (fy5 mr).length = 6 := by unfold fy5; simp; omega
end
abbrev wh5 (hd ds mr : List Int) : List Int := sumZ (nm5 hd).length (rw5 hd ds) (fw5 hd mr) (rw5 hd ds).length
abbrev wy5 (hd ds mr : List Int) : List Int := sumZ (nm5 hd).length (rw5 hd ds) (fy5 mr) (rw5 hd ds).length
section
variable (hd ds mr : List Int)
theorem wh5_len : (wh5 hd ds mr).length = (nm5 hd).length := sumZ_len ..
theorem wy5_len : (wy5 hd ds mr).length = (nm5 hd).length := sumZ_len ..
theorem wh5_b (j : Nat) : ((wh5 hd ds mr).getD j 0).natAbs ≤ 162 * (10 ^ 9 + 7) := by
  have h1 := sumZ_b (n := (nm5 hd).length) (rw5_dw hd ds).sm (fw5_b (hd := hd) (mr := mr)) _ (Nat.le_refl _) j
  have h2 := rw5_m hd ds
  have h3 : (rw5 hd ds).length * (3 * (10 ^ 9 + 7) * 9) ≤ 6 * (3 * (10 ^ 9 + 7) * 9) := Nat.mul_le_mul_right _ h2
  exact Nat.le_trans h1 h3
theorem wy5_b (j : Nat) : ((wy5 hd ds mr).getD j 0).natAbs ≤ 108 := by
  have h1 := sumZ_b (n := (nm5 hd).length) (rw5_dw hd ds).sm (fy5_b (mr := mr)) _ (Nat.le_refl _) j
  have h2 := rw5_m hd ds
  have h3 : (rw5 hd ds).length * (2 * 9) ≤ 6 * (2 * 9) := Nat.mul_le_mul_right _ h2
  exact Nat.le_trans h1 h3
end
/-- the greatest size -/
def mst (w : List Int) : Nat → Int
  | 0 => 1
  | k + 1 => max (mst w k) ((w.getD k 0).natAbs : Int)
theorem mst_b {w : List Int} {M : Nat} (h : ∀ j, (w.getD j 0).natAbs ≤ M) (hM : 1 ≤ M) : ∀ k, 1 ≤ mst w k ∧ mst w k ≤ (M : Int)
  | 0 => by
    show (1 : Int) ≤ 1 ∧ (1 : Int) ≤ (M : Int)
    omega
  | k + 1 => by
    obtain ⟨a, b⟩ := mst_b h hM k
    have := h k
    show 1 ≤ max (mst w k) _ ∧ max (mst w k) _ ≤ _
    omega
def bt5 (hd : List Int) : Int := if decide ((hd.getD 6 0).fmod 8 = 1) = true then 10 ^ 9 + 9 else 1 + (hd.getD 5 0).fmod 12
def pt5 (hd : List Int) : Int := if decide ((hd.getD 9 0).fmod 5 = 1) = true then (hd.getD 7 0 * hd.getD 8 0).fmod (2 * bt5 hd + 2) else (hd.getD 7 0 * hd.getD 8 0).fmod (bt5 hd + 1)
section
variable {hd : List Int}
theorem bt5_t (h : decide ((hd.getD 6 0).fmod 8 = 1) = true) : (10 : Int) ^ 9 + 9 = bt5 hd := (if_pos h).symm
theorem bt5_f (h : decide ((hd.getD 6 0).fmod 8 = 1) = false) : 1 + (hd.getD 5 0).fmod 12 = bt5 hd := (if_neg (by rw [h]; exact Bool.false_ne_true)).symm
theorem bt5_b : 1 ≤ bt5 hd ∧ bt5 hd ≤ 10 ^ 9 + 9 := by
  unfold bt5
  have h := fm_bd (x := hd.getD 5 0) (show (0 : Int) < 12 by decide)
  split <;> omega
theorem pt5_t (h : decide ((hd.getD 9 0).fmod 5 = 1) = true) : (hd.getD 7 0 * hd.getD 8 0).fmod (2 * bt5 hd + 2) = pt5 hd := (if_pos h).symm
theorem pt5_f (h : decide ((hd.getD 9 0).fmod 5 = 1) = false) : (hd.getD 7 0 * hd.getD 8 0).fmod (bt5 hd + 1) = pt5 hd := (if_neg (by rw [h]; exact Bool.false_ne_true)).symm
theorem pt5_b : 0 ≤ pt5 hd ∧ pt5 hd ≤ 2 * (10 ^ 9 + 9) + 1 := by
  unfold pt5
  have hb := bt5_b (hd := hd)
  have h1 := fm_bd (x := hd.getD 7 0 * hd.getD 8 0) (show (0 : Int) < 2 * bt5 hd + 2 by omega)
  have h2 := fm_bd (x := hd.getD 7 0 * hd.getD 8 0) (show (0 : Int) < bt5 hd + 1 by omega)
  split <;> omega
end
abbrev mo5 (hd ds mr : List Int) : Int := mst (wy5 hd ds mr) (nm5 hd).length
def tb5 (hd ds mr : List Int) : List Rat := (List.range (nm5 hd).length).map fun j : Nat => (((wh5 hd ds mr).getD j 0 : Int) : Rat) + (((pt5 hd * (wy5 hd ds mr).getD j 0 : Int)) : Rat) / (((bt5 hd * mo5 hd ds mr : Int)) : Rat)
def at5 (hd : List Int) : Nat := ((hd.getD 10 0).fmod (((nm5 hd).length : Nat) : Int)).toNat
theorem at5_b (hd : List Int) : ((at5 hd : Nat) : Int) = (hd.getD 10 0).fmod (((nm5 hd).length : Nat) : Int) ∧ at5 hd < (nm5 hd).length := by
  have hb := nm5_b hd
  have h := fm_bd (x := hd.getD 10 0) (show (0 : Int) < (((nm5 hd).length : Nat) : Int) by omega)
  unfold at5
  omega
def sn5 (hd : List Int) : Int := 1 - 2 * (if decide ((hd.getD 11 0).fmod 4 = 1) = true then 1 else 0)
def st5 (hd : List Int) : Rat := ((sn5 hd : Int) : Rat) / (((1 + (hd.getD 12 0).fmod 2 : Int)) : Rat)
/-! one bottom for all -/
def dd5 (hd ds mr : List Int) : Nat := (2 * (bt5 hd * mo5 hd ds mr)).toNat
section
variable (hd ds mr : List Int)
theorem mo5_b : 1 ≤ mo5 hd ds mr ∧ mo5 hd ds mr ≤ 108 := mst_b (M := 108) (wy5_b hd ds mr) (by decide) _
theorem bm5_b : 1 ≤ bt5 hd * mo5 hd ds mr ∧ bt5 hd * mo5 hd ds mr ≤ (10 ^ 9 + 9) * 108 := by
  have h1 := bt5_b (hd := hd)
  have h2 := mo5_b hd ds mr
  refine ⟨Int.mul_pos (by omega) (by omega), Int.mul_le_mul h1.2 h2.2 (by omega) (by decide)⟩
theorem dd5_b : 0 < dd5 hd ds mr ∧ dd5 hd ds mr ≤ 216 * (10 ^ 9 + 9) ∧ ((dd5 hd ds mr : Nat) : Int) = 2 * (bt5 hd * mo5 hd ds mr) := by
  have := bm5_b hd ds mr
  unfold dd5
  omega
theorem int_gdD {D M : Nat} {x : Int} (h : x.natAbs ≤ M) : Gd D (M * D) (x : Rat) := ⟨x * D, by rw [Rat.intCast_mul], by rw [Int.natAbs_mul, Int.natAbs_natCast]; exact Nat.mul_le_mul_right _ h⟩
theorem wh5_gd : ∀ j, Gd (dd5 hd ds mr) (162 * (10 ^ 9 + 7) * (216 * (10 ^ 9 + 9))) (((wh5 hd ds mr).getD j 0 : Int) : Rat) := fun j => gd_mono (int_gdD (wh5_b hd ds mr j)) (Nat.mul_le_mul_left _ (dd5_b hd ds mr).2.1)
theorem fr5_gd (j : Nat) : Gd (dd5 hd ds mr) (217 * (10 ^ 9 + 9) * (216 * (10 ^ 9 + 9))) ((((pt5 hd * (wy5 hd ds mr).getD j 0 : Int)) : Rat) / (((bt5 hd * mo5 hd ds mr : Int)) : Rat)) := by
  have hb := bm5_b hd ds mr
  obtain ⟨d1, d2, d3⟩ := dd5_b hd ds mr
  have hp := pt5_b (hd := hd)
  have hy := wy5_b hd ds mr j
  refine gd_div (by omega) ⟨2, by rw [d3, Int.mul_comm]⟩ (Nat.mul_le_mul ?_ d2)
  rw [Int.natAbs_mul]
  refine Nat.le_trans (Nat.mul_le_mul (show (pt5 hd).natAbs ≤ 2 * (10 ^ 9 + 9) + 1 by omega) hy) (by decide)
theorem tb5_len : (tb5 hd ds mr).length = (nm5 hd).length := by unfold tb5; simp
theorem tb5_gd : ∀ q ∈ tb5 hd ds mr, Gd (dd5 hd ds mr) (162 * (10 ^ 9 + 7) * (216 * (10 ^ 9 + 9)) + 217 * (10 ^ 9 + 9) * (216 * (10 ^ 9 + 9))) q := fun q hq => by
  obtain ⟨j, _, rfl⟩ := List.mem_map.mp hq
  exact gd_add (wh5_gd hd ds mr j) (fr5_gd hd ds mr j)
theorem st5_gd : Gd (dd5 hd ds mr) (216 * (10 ^ 9 + 9)) (st5 hd) := by
  obtain ⟨d1, d2, d3⟩ := dd5_b hd ds mr
  have h := fm_bd (x := hd.getD 12 0) (show (0 : Int) < 2 by decide)
  unfold st5
  refine gd_div (by omega) ?_ (Nat.le_trans (Nat.mul_le_mul (show (sn5 hd).natAbs ≤ 1 by unfold sn5; split <;> decide) d2) (by decide))
  rw [d3]
  by_cases e : (hd.getD 12 0).fmod 2 = 0
  · rw [e]; exact Int.one_dvd _
  · rw [show 1 + (hd.getD 12 0).fmod 2 = 2 by omega]; exact ⟨_, rfl⟩
/-- a list that the question may be asked of -/
def Gl (l : List Rat) : Prop := l.length ≤ 8 ∧ ∀ q ∈ l, Gd (dd5 hd ds mr) (2 ^ 77) q
abbrev W5 : List Rat := toQ (wh5 hd ds mr)
theorem gl_T : Gl hd ds mr (tb5 hd ds mr) := ⟨by rw [tb5_len]; have := nm5_b hd; omega, fun q hq => gd_mono (tb5_gd hd ds mr q hq) (by decide)⟩
theorem gl_W : Gl hd ds mr (W5 hd ds mr) := ⟨by rw [toQ_len, wh5_len]; have := nm5_b hd; omega, fun q hq => by
  obtain ⟨x, hx, rfl⟩ := List.mem_map.mp hq
  obtain ⟨j, rfl⟩ := mem_getD0 hx
  exact gd_mono (wh5_gd hd ds mr j) (by decide)⟩
theorem gl_mov {l : List Rat} {B : Nat} (hl : l.length ≤ 8) (h : ∀ q ∈ l, Gd (dd5 hd ds mr) B q) (hB : B + 216 * (10 ^ 9 + 9) ≤ 2 ^ 77) : Gl hd ds mr (movL l (at5 hd) (st5 hd)) := by
  refine ⟨by unfold movL; rw [List.length_set]; exact hl, fun q hq => ?_⟩
  unfold movL at hq
  rcases List.mem_or_eq_of_mem_set hq with z | z
  · exact gd_mono (h q z) (by omega)
  · rw [z]
    exact gd_mono (gd_add (mem_getD_gd h _) (st5_gd hd ds mr)) hB
theorem gl_mT : Gl hd ds mr (movL (tb5 hd ds mr) (at5 hd) (st5 hd)) := gl_mov hd ds mr (gl_T hd ds mr).1 (tb5_gd hd ds mr) (by decide)
theorem gl_mW : Gl hd ds mr (movL (W5 hd ds mr) (at5 hd) (st5 hd)) := gl_mov hd ds mr (gl_W hd ds mr).1 (fun q hq => by
  obtain ⟨x, hx, rfl⟩ := List.mem_map.mp hq
  obtain ⟨j, rfl⟩ := mem_getD0 hx
  exact wh5_gd hd ds mr j) (by decide)
def rr5 : List Int := (rw5 hd ds).getD (((hd.getD 13 0).fmod (((rw5 hd ds).length : Nat) : Int))).toNat []
def wr5 : List Int := (List.range (nm5 hd).length).map fun j : Nat => (wh5 hd ds mr).getD j 0 + (rr5 hd ds).getD j 0
theorem rr5_b (h : 0 < (rw5 hd ds).length) : rr5 hd ds ∈ rw5 hd ds := by
  have := fm_bd (x := hd.getD 13 0) (show (0 : Int) < (((rw5 hd ds).length : Nat) : Int) by omega)
  exact getD_memL (by omega)
theorem gl_R (h : 0 < (rw5 hd ds).length) : Gl hd ds mr (toQ (wr5 hd ds mr)) := by
  refine ⟨by rw [toQ_len]; unfold wr5; rw [List.length_map, List.length_range]; have := nm5_b hd; omega, fun q hq => ?_⟩
  obtain ⟨x, hx, rfl⟩ := List.mem_map.mp hq
  obtain ⟨j, _, rfl⟩ := List.mem_map.mp hx
  rw [Rat.intCast_add]
  exact gd_mono (gd_add (wh5_gd hd ds mr j) (gd_mono (int_gdD ((rw5_dw hd ds).sm _ (rr5_b hd ds h) j)) (Nat.mul_le_mul_left _ (dd5_b hd ds mr).2.1))) (by decide)
theorem gl_0 {l : List Rat} (h : Gl hd ds mr l) (hl : l.length ≤ 7) : Gl hd ds mr (l ++ [((0 : Int) : Rat)]) := ⟨by rw [List.length_append]; show _ + 1 ≤ 8; omega, fun q hq => by
  rcases List.mem_append.mp hq with z | z
  · exact h.2 q z
  · rw [List.mem_singleton.mp z]; exact gd_zero⟩
theorem gl_d {l : List Rat} (h : Gl hd ds mr l) (k : Nat) : Gl hd ds mr (l.drop k) := ⟨by rw [List.length_drop]; have := h.1; omega, fun q hq => h.2 q (List.mem_of_mem_drop hq)⟩
theorem lg_4k {x : Int} (h : x.natAbs ≤ 10 ^ 12) : Lg x < 4000 := Nat.lt_trans (lg_b (n := 40) h (by decide) (by decide)) (by decide)
theorem num_b {ns : List Int} {k many : Nat} (j : Nat) : 0 ≤ (lawNums ns k many).getD j 0 ∧ (lawNums ns k many).getD j 0 < 10007 := by
  rw [List.getD_eq_getElem?_getD]
  cases e : (lawNums ns k many)[j]? with
  | none => decide
  | some x => exact lawNums_mem (List.mem_of_getElem? e)
theorem num_4 {ns : List Int} {k many : Nat} (j : Nat) : ((lawNums ns k many).getD j 0).natAbs ≤ 10 ^ 12 := by have := num_b (ns := ns) (k := k) (many := many) j; omega
theorem fm7_4 (x : Int) : (x.fmod 7 - 3).natAbs ≤ 10 ^ 12 := by have := fm_bd (x := x) (show (0 : Int) < 7 by decide); omega
theorem fm3_4 (x : Int) : (1 + x.fmod 3).natAbs ≤ 10 ^ 12 := by have := fm_bd (x := x) (show (0 : Int) < 3 by decide); omega
theorem wy5_4 (j : Nat) : ((wy5 hd ds mr).getD j 0).natAbs ≤ 10 ^ 12 := Nat.le_trans (wy5_b hd ds mr j) (by decide)
theorem fw5_lc : List.map (fun i : Nat => rInt (((((mr.drop 0).take 6).getD i 0).fmod 7 - 3) * sc5 hd)) (List.filter (fun _ => true) (List.range ((mr.drop 0).take 6).length)) = List.map rInt (fw5 hd mr) := lc_mapI (g := fun x => (x.fmod 7 - 3) * sc5 hd)
theorem fy5_lc : List.map (fun i : Nat => rInt ((((mr.drop 6).take 6).getD i 0).fmod 5 - 2)) (List.filter (fun _ => true) (List.range ((mr.drop 6).take 6).length)) = List.map rInt (fy5 mr) := lc_mapI (g := fun x => x.fmod 5 - 2)
theorem tb5_lc {K : PySem.W.Frag} : List.map (fun j : Nat => rNum K ((((wh5 hd ds mr).getD j 0 : Int) : Rat) + (((pt5 hd * (wy5 hd ds mr).getD j 0 : Int)) : Rat) / (((bt5 hd * mo5 hd ds mr : Int)) : Rat))) (List.filter (fun _ => true) (List.range (((nm5 hd).length : Nat) : Int).toNat)) = List.map (rNum K) (tb5 hd ds mr) := rg_lc (R := rNum K) (f := fun j : Nat => (((wh5 hd ds mr).getD j 0 : Int) : Rat) + (((pt5 hd * (wy5 hd ds mr).getD j 0 : Int)) : Rat) / (((bt5 hd * mo5 hd ds mr : Int)) : Rat))
theorem wh5_sz (j : Nat) : Sz 400 (((wh5 hd ds mr).getD j 0 : Int) : Rat) := sz_int (Nat.le_of_lt (Nat.lt_trans (lg_b (n := 40) (wh5_b hd ds mr j) (by decide) (by decide)) (by decide)))
theorem fr5_sz (j : Nat) : Sz 400 ((((pt5 hd * (wy5 hd ds mr).getD j 0 : Int)) : Rat) / (((bt5 hd * mo5 hd ds mr : Int)) : Rat)) := (gd_sz (n := 80) (fr5_gd hd ds mr j) (by have := (dd5_b hd ds mr).1; omega) (Nat.lt_of_le_of_lt (dd5_b hd ds mr).2.1 (by decide)) (by decide)).mono (by decide)
theorem mk5_ok (j : Nat) : (bt5 hd * mo5 hd ds mr : Int) ≠ 0 ∧ Lg (pt5 hd * (wy5 hd ds mr).getD j 0) < 990 ∧ Lg (bt5 hd * mo5 hd ds mr) < 990 := by
  have h1 := bm5_b hd ds mr
  have h2 := pt5_b (hd := hd)
  have h3 := wy5_b hd ds mr j
  refine ⟨by omega, ?_, Nat.lt_trans (lg_b (n := 60) (B := (10 ^ 9 + 9) * 108) (by omega) (by decide) (by decide)) (by decide)⟩
  refine Nat.lt_trans (lg_b (n := 60) (B := (2 * (10 ^ 9 + 9) + 1) * 108) ?_ (by decide) (by decide)) (by decide)
  rw [Int.natAbs_mul]
  exact Nat.mul_le_mul (by omega) h3
theorem mks5_ok : (1 + (hd.getD 12 0).fmod 2 : Int) ≠ 0 ∧ Lg (sn5 hd) < 990 ∧ Lg (1 + (hd.getD 12 0).fmod 2) < 990 := by
  have h := fm_bd (x := hd.getD 12 0) (show (0 : Int) < 2 by decide)
  have h2 : (sn5 hd).natAbs ≤ 1 := by unfold sn5; split <;> decide
  exact ⟨by omega, Nat.lt_trans (lg_b (n := 10) h2 (by decide) (by decide)) (by decide), Nat.lt_trans (lg_b (n := 10) (B := 2) (by omega) (by decide) (by decide)) (by decide)⟩
/-! the cases -/
abbrev T5 : List Rat := tb5 hd ds mr
def caA : List (List Rat × List Rat) := [(T5 hd ds mr, movL (W5 hd ds mr) (at5 hd) (st5 hd)), (movL (T5 hd ds mr) (at5 hd) (st5 hd), W5 hd ds mr), (T5 hd ds mr, T5 hd ds mr)]
def caB : List (List Rat × List Rat) := [(T5 hd ds mr ++ [((0 : Int) : Rat)], W5 hd ds mr), ((T5 hd ds mr).drop 1, toQ ((wh5 hd ds mr).drop 1)), (T5 hd ds mr, toQ (wh5 hd ds mr ++ [0])), (T5 hd ds mr, toQ ((wh5 hd ds mr).drop 1))]
def caC : List (List Rat × List Rat) := [(movL (T5 hd ds mr) (at5 hd) (st5 hd), toQ (wh5 hd ds mr ++ [0])), (W5 hd ds mr, W5 hd ds mr), (W5 hd ds mr, T5 hd ds mr)]
def caD : List (List Rat × List Rat) := if decide ((0 : Int) < (((rw5 hd ds).length : Nat) : Int)) = true then [(T5 hd ds mr, toQ (wr5 hd ds mr))] else []
def caL : List (List Rat × List Rat) := ((caA hd ds mr ++ caB hd ds mr) ++ caC hd ds mr) ++ caD hd ds mr
theorem caL_gl : ∀ p ∈ caL hd ds mr, Gl hd ds mr p.1 ∧ Gl hd ds mr p.2 := fun p hp => by
  have hn := nm5_b hd
  have hT := gl_T hd ds mr
  have hW := gl_W hd ds mr
  have hmT := gl_mT hd ds mr
  have hmW := gl_mW hd ds mr
  have hT0 := gl_0 hd ds mr hT (by rw [tb5_len]; omega)
  have hW0 := gl_0 hd ds mr hW (by rw [toQ_len, wh5_len]; omega)
  have eW0 : toQ (wh5 hd ds mr ++ [0]) = W5 hd ds mr ++ [((0 : Int) : Rat)] := List.map_append ..
  have eWd : toQ ((wh5 hd ds mr).drop 1) = (W5 hd ds mr).drop 1 := List.map_drop ..
  have hWd := gl_d hd ds mr hW 1
  rw [← eW0] at hW0
  rw [← eWd] at hWd
  rcases List.mem_append.mp hp with h | h
  · rcases List.mem_append.mp h with h | h
    · rcases List.mem_append.mp h with h | h
      · simp only [caA, List.mem_cons, List.not_mem_nil, or_false] at h
        rcases h with rfl | rfl | rfl
        · exact ⟨hT, hmW⟩
        · exact ⟨hmT, hW⟩
        · exact ⟨hT, hT⟩
      · simp only [caB, List.mem_cons, List.not_mem_nil, or_false] at h
        rcases h with rfl | rfl | rfl | rfl
        · exact ⟨hT0, hW⟩
        · exact ⟨gl_d hd ds mr hT 1, hWd⟩
        · exact ⟨hT, hW0⟩
        · exact ⟨hT, hWd⟩
    · simp only [caC, List.mem_cons, List.not_mem_nil, or_false] at h
      rcases h with rfl | rfl | rfl
      · exact ⟨hmT, hW0⟩
      · exact ⟨hW, hW⟩
      · exact ⟨hW, hT⟩
  · unfold caD at h
    split at h
    · rename_i k
      rw [List.mem_singleton.mp h]
      exact ⟨hT, gl_R hd ds mr (by have := of_decide_eq_true k; omega)⟩
    · exact (List.not_mem_nil h).elim
theorem gl_ak {ts ws : List Rat} (h1 : Gl hd ds mr ts) (h2 : Gl hd ds mr ws) : AkOk (nm5 hd) (rw5 hd ds) ts ws := by
  obtain ⟨d1, d2, d3⟩ := dd5_b hd ds mr
  have := rw5_m hd ds
  refine ⟨rw5_dw hd ds, (nm5_b hd).2, by omega, by have := h1.1; omega, by have := h2.1; omega, dd5 hd ds mr, d1, Nat.lt_of_le_of_lt d2 (by decide), ⟨by omega, h1.2⟩, ⟨by omega, h2.2⟩⟩
theorem caL_len : 10 ≤ (caL hd ds mr).length ∧ (caL hd ds mr).length ≤ 11 := by
  unfold caL caD
  split <;> simp [caA, caB, caC]
abbrev pf5 (K : PySem.W.Frag) : List Rat × List Rat → Rep := rP K (fun l => rLst K (List.map (rNum K) l)) (fun l => rLst K (List.map (rNum K) l))
theorem caL_t {K : PySem.W.Frag} (h : decide ((0 : Int) < (((rw5 hd ds).length : Nat) : Int)) = true) : List.map (pf5 K) ((caA hd ds mr ++ caB hd ds mr) ++ caC hd ds mr) ++ [pf5 K (T5 hd ds mr, toQ (wr5 hd ds mr))] = List.map (pf5 K) (caL hd ds mr) := by
  unfold caL caD
  rw [if_pos h, List.map_append (l₁ := (caA hd ds mr ++ caB hd ds mr) ++ caC hd ds mr)]
  rfl
theorem caL_f {K : PySem.W.Frag} (h : decide ((0 : Int) < (((rw5 hd ds).length : Nat) : Int)) = false) : List.map (pf5 K) ((caA hd ds mr ++ caB hd ds mr) ++ caC hd ds mr) = List.map (pf5 K) (caL hd ds mr) := by
  unfold caL caD
  rw [if_neg (by rw [h]; exact Bool.false_ne_true), List.append_nil]
theorem rr5_len (h : 0 < (rw5 hd ds).length) : (rr5 hd ds).length = (nm5 hd).length := (rw5_dw hd ds).len _ (rr5_b hd ds h)
theorem wr5_lc : List.map (fun j : Nat => rInt ((wh5 hd ds mr).getD j 0 + (rr5 hd ds).getD j 0)) (List.filter (fun _ => true) (List.range (((nm5 hd).length : Nat) : Int).toNat)) = List.map rInt (wr5 hd ds mr) := rg_lc (R := rInt) (f := fun j : Nat => (wh5 hd ds mr).getD j 0 + (rr5 hd ds).getD j 0)
theorem ask5 {i : Nat} (h : i < (caL hd ds mr).length) : AkOk (nm5 hd) (rw5 hd ds) ((caL hd ds mr).getD i ([], [])).1 ((caL hd ds mr).getD i ([], [])).2 := by
  have := caL_gl hd ds mr _ (DL.getD_mem (d := (([], []) : List Rat × List Rat)) h)
  exact gl_ak hd ds mr this.1 this.2
theorem sum5_w (hl : mr.length = 12) : (nm5 hd).length ≤ 6 ∧ (rw5 hd ds).length ≤ (fw5 hd mr).length ∧ (fw5 hd mr).length ≤ 40 ∧ (∀ r ∈ rw5 hd ds, r.length = (nm5 hd).length) ∧ (∀ r ∈ rw5 hd ds, ∀ j, (r.getD j 0).natAbs ≤ 9) ∧ ∀ x ∈ fw5 hd mr, Lg x < 1000 := by
  have h1 := rw5_m hd ds
  have h2 := fw5_len (hd := hd) (mr := mr) (by omega)
  exact ⟨(nm5_b hd).2, by omega, by omega, (rw5_dw hd ds).len, (rw5_dw hd ds).sm, fun x hx => Nat.lt_trans (lg_b (n := 40) (fw5_b x hx) (by decide) (by decide)) (by decide)⟩
theorem sum5_y (hl : mr.length = 12) : (nm5 hd).length ≤ 6 ∧ (rw5 hd ds).length ≤ (fy5 mr).length ∧ (fy5 mr).length ≤ 40 ∧ (∀ r ∈ rw5 hd ds, r.length = (nm5 hd).length) ∧ (∀ r ∈ rw5 hd ds, ∀ j, (r.getD j 0).natAbs ≤ 9) ∧ ∀ x ∈ fy5 mr, Lg x < 1000 := by
  have h1 := rw5_m hd ds
  have h2 := fy5_len (mr := mr) (by omega)
  exact ⟨(nm5_b hd).2, by omega, by omega, (rw5_dw hd ds).len, (rw5_dw hd ds).sm, fun x hx => Nat.lt_trans (lg_b (n := 40) (fy5_b x hx) (by decide) (by decide)) (by decide)⟩
theorem tb5_sz : ∀ q ∈ tb5 hd ds mr, Sz 80 q := fun q hq => gd_sz ((gl_T hd ds mr).2 q hq) (by have := (dd5_b hd ds mr).1; omega) (Nat.lt_of_le_of_lt (dd5_b hd ds mr).2.1 (by decide)) (by decide)
theorem W5_sz : ∀ q ∈ W5 hd ds mr, Sz 80 q := fun q hq => gd_sz ((gl_W hd ds mr).2 q hq) (by have := (dd5_b hd ds mr).1; omega) (Nat.lt_of_le_of_lt (dd5_b hd ds mr).2.1 (by decide)) (by decide)
theorem st5_sz : Sz 80 (st5 hd) := gd_sz (st5_gd hd [] []) (by have := (dd5_b hd [] []).1; omega) (Nat.lt_of_le_of_lt (dd5_b hd [] []).2.1 (by decide)) (by decide)
theorem fm_nat {x : Int} {m : Nat} (h : 0 < m) : (x.fmod (m : Int)).toNat < m := by have := fm_bd (x := x) (show (0 : Int) < (m : Int) by omega); omega
theorem mov5_T : at5 hd < (tb5 hd ds mr).length ∧ Sz 400 ((tb5 hd ds mr).getD (at5 hd) 0) ∧ Sz 400 (st5 hd) := ⟨by rw [tb5_len]; exact (at5_b hd).2, (getD_szA (tb5_sz hd ds mr) _).mono (by decide), (st5_sz hd).mono (by decide)⟩
theorem mov5_W : at5 hd < (W5 hd ds mr).length ∧ Sz 400 ((W5 hd ds mr).getD (at5 hd) 0) ∧ Sz 400 (st5 hd) := ⟨by rw [toQ_len, wh5_len]; exact (at5_b hd).2, (getD_szA (W5_sz hd ds mr) _).mono (by decide), (st5_sz hd).mono (by decide)⟩
end
end DL

set_option Elab.async false
set_option linter.all false
set_option maxRecDepth 100000
set_option maxHeartbeats 4000000
namespace K45
open PySem PySem.Spec PyProof.Rows L2 DL
def topS (i : Nat) : Stmt := PySem.Challenge.pw_fineststep_k45_greatest_chance.main.body.getD i (.Pass ⟨0, 0, 0, 0⟩)
abbrev s__wall : Stmt := topS 1
abbrev s_ratio : Stmt := topS 12
abbrev s_is_whole : Stmt := topS 13
abbrev s_top_of : Stmt := topS 14
abbrev s_bottom_of : Stmt := topS 15
abbrev s_plus : Stmt := topS 16
abbrev s_minus : Stmt := topS 17
abbrev s_times : Stmt := topS 18
abbrev s_over : Stmt := topS 19
abbrev s_less : Stmt := topS 20
abbrev s_floor_of : Stmt := topS 21
abbrev s_ceiling_of : Stmt := topS 22
abbrev s_common_bottom : Stmt := topS 23
abbrev s_least_of : Stmt := topS 24
abbrev s_support : Stmt := topS 26
abbrev s_scaled : Stmt := topS 27
abbrev s_added : Stmt := topS 28
abbrev s_primitive : Stmt := topS 29
abbrev s_lowest : Stmt := topS 30
abbrev s_cleared : Stmt := topS 32
abbrev s_lead_at : Stmt := topS 33
abbrev s_without : Stmt := topS 34
abbrev s_lowered : Stmt := topS 35
abbrev s_check_names : Stmt := topS 42
abbrev s_is_name : Stmt := topS 43
abbrev s_frame_of : Stmt := topS 44
abbrev s_pivots : Stmt := topS 45
abbrev s_is_table : Stmt := topS 46
abbrev s_table_of : Stmt := topS 47
abbrev s_check_table : Stmt := topS 49
abbrev s_check_whole : Stmt := topS 51
abbrev s_is_empty : Stmt := topS 53
abbrev s_lies_within : Stmt := topS 54
abbrev s_all_within : Stmt := topS 55
abbrev s_around : Stmt := topS 57
abbrev s_lies_around : Stmt := topS 59
abbrev s_is_rounding : Stmt := topS 60
abbrev s_paper_chance : Stmt := topS 62
abbrev s_chance_at : Stmt := topS 63
abbrev s_rest_after : Stmt := topS 64
abbrev s__law_cell : Stmt := topS 66
abbrev s__law_numbers : Stmt := topS 67
abbrev s__law_gcd : Stmt := topS 68
abbrev s__law_make : Stmt := topS 69
abbrev s__law_top : Stmt := topS 70
abbrev s__law_bottom : Stmt := topS 71
abbrev s__law_is_int : Stmt := topS 72
abbrev s__law_is_number : Stmt := topS 73
abbrev s__law_plus : Stmt := topS 74
abbrev s__law_times : Stmt := topS 75
abbrev s__law_less : Stmt := topS 76
abbrev s__law_cleared : Stmt := topS 77
abbrev s__law_rank : Stmt := topS 78
abbrev s__law_spans : Stmt := topS 79
abbrev s__law_rows : Stmt := topS 80
abbrev s__law_sum : Stmt := topS 81
abbrev s__law_floor : Stmt := topS 82
abbrev s__law_ceiling : Stmt := topS 83
abbrev s__law_chance : Stmt := topS 84
abbrev s__law_due : Stmt := topS 85
abbrev s__law_told : Stmt := topS 86
abbrev s__law_rest : Stmt := topS 87
abbrev s__law_asks : Stmt := topS 88
abbrev s__law_moved : Stmt := topS 89
abbrev s_law : Stmt := topS 90
abbrev s_Book : Stmt := inClass (topS 41) 0
abbrev s_Book_free : Stmt := inClass (topS 41) 1
structure Cs where
  BookError : Addr
  ZeroBottom : Addr
  BadName : Addr
  BadSize : Addr
  NotTable : Addr
  NotWhole : Addr
  NotRounding : Addr
  BadChance : Addr
  Book : Addr
structure Txt (K : PySem.W.Frag) (mg : Str → Option Value) (cs : Cs) : Prop where
  b_ValueError : mg "ValueError" = none
  b_abs : mg "abs" = none
  b_all : mg "all" = none
  b_bool : mg "bool" = none
  b_classmethod : mg "classmethod" = none
  b_enumerate : mg "enumerate" = none
  b_int : mg "int" = none
  b_isinstance : mg "isinstance" = none
  b_len : mg "len" = none
  b_list : mg "list" = none
  b_max : mg "max" = none
  b_range : mg "range" = none
  b_set : mg "set" = none
  b_str : mg "str" = none
  b_tuple : mg "tuple" = none
  b_zip : mg "zip" = none
  m_gcd : mg "gcd" = some (.builtin "math.gcd")
  m_lcm : mg "lcm" = some (.builtin "math.lcm")
  x_BookError : XCls K mg "BookError" cs.BookError
  x_ZeroBottom : XCls K mg "ZeroBottom" cs.ZeroBottom
  x_BadName : XCls K mg "BadName" cs.BadName
  x_BadSize : XCls K mg "BadSize" cs.BadSize
  x_NotTable : XCls K mg "NotTable" cs.NotTable
  x_NotWhole : XCls K mg "NotWhole" cs.NotWhole
  x_NotRounding : XCls K mg "NotRounding" cs.NotRounding
  x_BadChance : XCls K mg "BadChance" cs.BadChance
  i_Book : TI K mg "Book" "Book.__init__" cs.Book s_Book ["names", "size", "frame"]
  cm_Book_free : TC K cs.Book "free" "Book.free" s_Book_free
  c_LETTERS : ∃ u, mg "LETTERS" = some u ∧ RelV (.str "abcdefghijklmnopqrstuvwxyz") u
  c_DIGITS : ∃ u, mg "DIGITS" = some u ∧ RelV (.str "0123456789") u
  c_MOST_CELLS : ∃ u, mg "MOST_CELLS" = some u ∧ RelV (.int 16) u
  c_MOST_SIGNS : ∃ u, mg "MOST_SIGNS" = some u ∧ RelV (.int 12) u
  d__wall : TD K mg "_wall" s__wall
  d_ratio : TD K mg "ratio" s_ratio
  d_is_whole : TD K mg "is_whole" s_is_whole
  d_top_of : TD K mg "top_of" s_top_of
  d_bottom_of : TD K mg "bottom_of" s_bottom_of
  d_plus : TD K mg "plus" s_plus
  d_minus : TD K mg "minus" s_minus
  d_times : TD K mg "times" s_times
  d_over : TD K mg "over" s_over
  d_less : TD K mg "less" s_less
  d_floor_of : TD K mg "floor_of" s_floor_of
  d_ceiling_of : TD K mg "ceiling_of" s_ceiling_of
  d_common_bottom : TD K mg "common_bottom" s_common_bottom
  d_least_of : TD K mg "least_of" s_least_of
  d_support : TD K mg "support" s_support
  d_scaled : TD K mg "scaled" s_scaled
  d_added : TD K mg "added" s_added
  d_primitive : TD K mg "primitive" s_primitive
  d_lowest : TD K mg "lowest" s_lowest
  d_cleared : TD K mg "cleared" s_cleared
  d_lead_at : TD K mg "lead_at" s_lead_at
  d_without : TD K mg "without" s_without
  d_lowered : TD K mg "lowered" s_lowered
  d_check_names : TD K mg "check_names" s_check_names
  d_is_name : TD K mg "is_name" s_is_name
  d_frame_of : TD K mg "frame_of" s_frame_of
  d_pivots : TD K mg "pivots" s_pivots
  d_is_table : TD K mg "is_table" s_is_table
  d_table_of : TD K mg "table_of" s_table_of
  d_check_table : TD K mg "check_table" s_check_table
  d_check_whole : TD K mg "check_whole" s_check_whole
  d_is_empty : TD K mg "is_empty" s_is_empty
  d_lies_within : TD K mg "lies_within" s_lies_within
  d_all_within : TD K mg "all_within" s_all_within
  d_around : TD K mg "around" s_around
  d_lies_around : TD K mg "lies_around" s_lies_around
  d_is_rounding : TD K mg "is_rounding" s_is_rounding
  d_paper_chance : TD K mg "paper_chance" s_paper_chance
  d_chance_at : TD K mg "chance_at" s_chance_at
  d_rest_after : TD K mg "rest_after" s_rest_after
  d__law_cell : TD K mg "_law_cell" s__law_cell
  d__law_numbers : TD K mg "_law_numbers" s__law_numbers
  d__law_gcd : TD K mg "_law_gcd" s__law_gcd
  d__law_make : TD K mg "_law_make" s__law_make
  d__law_top : TD K mg "_law_top" s__law_top
  d__law_bottom : TD K mg "_law_bottom" s__law_bottom
  d__law_is_int : TD K mg "_law_is_int" s__law_is_int
  d__law_is_number : TD K mg "_law_is_number" s__law_is_number
  d__law_plus : TD K mg "_law_plus" s__law_plus
  d__law_times : TD K mg "_law_times" s__law_times
  d__law_less : TD K mg "_law_less" s__law_less
  d__law_cleared : TD K mg "_law_cleared" s__law_cleared
  d__law_rank : TD K mg "_law_rank" s__law_rank
  d__law_spans : TD K mg "_law_spans" s__law_spans
  d__law_rows : TD K mg "_law_rows" s__law_rows
  d__law_sum : TD K mg "_law_sum" s__law_sum
  d__law_floor : TD K mg "_law_floor" s__law_floor
  d__law_ceiling : TD K mg "_law_ceiling" s__law_ceiling
  d__law_chance : TD K mg "_law_chance" s__law_chance
  d__law_due : TD K mg "_law_due" s__law_due
  d__law_told : TD K mg "_law_told" s__law_told
  d__law_rest : TD K mg "_law_rest" s__law_rest
  d__law_asks : TD K mg "_law_asks" s__law_asks
  d__law_moved : TD K mg "_law_moved" s__law_moved
  d_law : TD K mg "law" s_law
  e_BadChance : ExcC K cs.BadChance
  s_BadChance_BookError : PySem.W.subIn K (.ref cs.BadChance) (.ref cs.BookError) = some true
  k_BadChance_BookError : PySem.W.kitOne K (.ref cs.BadChance) (.ref cs.BookError) = some true
  s_BadChance_ZeroBottom : PySem.W.subIn K (.ref cs.BadChance) (.ref cs.ZeroBottom) = some false
  k_BadChance_ZeroBottom : PySem.W.kitOne K (.ref cs.BadChance) (.ref cs.ZeroBottom) = some false
  s_BadChance_BadName : PySem.W.subIn K (.ref cs.BadChance) (.ref cs.BadName) = some false
  k_BadChance_BadName : PySem.W.kitOne K (.ref cs.BadChance) (.ref cs.BadName) = some false
  s_BadChance_BadSize : PySem.W.subIn K (.ref cs.BadChance) (.ref cs.BadSize) = some false
  k_BadChance_BadSize : PySem.W.kitOne K (.ref cs.BadChance) (.ref cs.BadSize) = some false
  s_BadChance_NotTable : PySem.W.subIn K (.ref cs.BadChance) (.ref cs.NotTable) = some false
  k_BadChance_NotTable : PySem.W.kitOne K (.ref cs.BadChance) (.ref cs.NotTable) = some false
  s_BadChance_NotWhole : PySem.W.subIn K (.ref cs.BadChance) (.ref cs.NotWhole) = some false
  k_BadChance_NotWhole : PySem.W.kitOne K (.ref cs.BadChance) (.ref cs.NotWhole) = some false
  s_BadChance_NotRounding : PySem.W.subIn K (.ref cs.BadChance) (.ref cs.NotRounding) = some false
  k_BadChance_NotRounding : PySem.W.kitOne K (.ref cs.BadChance) (.ref cs.NotRounding) = some false
  s_BadChance_BadChance : PySem.W.subIn K (.ref cs.BadChance) (.ref cs.BadChance) = some true
  k_BadChance_BadChance : PySem.W.kitOne K (.ref cs.BadChance) (.ref cs.BadChance) = some true
  s_BadChance_Book : PySem.W.subIn K (.ref cs.BadChance) (.ref cs.Book) = some false
  k_BadChance_Book : PySem.W.kitOne K (.ref cs.BadChance) (.ref cs.Book) = some false
  k_BadChance_ValueError : PySem.W.kitOne K (.ref cs.BadChance) (.type "ValueError") = some true
  e_BadSize : ExcC K cs.BadSize
  s_BadSize_BookError : PySem.W.subIn K (.ref cs.BadSize) (.ref cs.BookError) = some true
  k_BadSize_BookError : PySem.W.kitOne K (.ref cs.BadSize) (.ref cs.BookError) = some true
  s_BadSize_ZeroBottom : PySem.W.subIn K (.ref cs.BadSize) (.ref cs.ZeroBottom) = some false
  k_BadSize_ZeroBottom : PySem.W.kitOne K (.ref cs.BadSize) (.ref cs.ZeroBottom) = some false
  s_BadSize_BadName : PySem.W.subIn K (.ref cs.BadSize) (.ref cs.BadName) = some false
  k_BadSize_BadName : PySem.W.kitOne K (.ref cs.BadSize) (.ref cs.BadName) = some false
  s_BadSize_BadSize : PySem.W.subIn K (.ref cs.BadSize) (.ref cs.BadSize) = some true
  k_BadSize_BadSize : PySem.W.kitOne K (.ref cs.BadSize) (.ref cs.BadSize) = some true
  s_BadSize_NotTable : PySem.W.subIn K (.ref cs.BadSize) (.ref cs.NotTable) = some false
  k_BadSize_NotTable : PySem.W.kitOne K (.ref cs.BadSize) (.ref cs.NotTable) = some false
  s_BadSize_NotWhole : PySem.W.subIn K (.ref cs.BadSize) (.ref cs.NotWhole) = some false
  k_BadSize_NotWhole : PySem.W.kitOne K (.ref cs.BadSize) (.ref cs.NotWhole) = some false
  s_BadSize_NotRounding : PySem.W.subIn K (.ref cs.BadSize) (.ref cs.NotRounding) = some false
  k_BadSize_NotRounding : PySem.W.kitOne K (.ref cs.BadSize) (.ref cs.NotRounding) = some false
  s_BadSize_BadChance : PySem.W.subIn K (.ref cs.BadSize) (.ref cs.BadChance) = some false
  k_BadSize_BadChance : PySem.W.kitOne K (.ref cs.BadSize) (.ref cs.BadChance) = some false
  s_BadSize_Book : PySem.W.subIn K (.ref cs.BadSize) (.ref cs.Book) = some false
  k_BadSize_Book : PySem.W.kitOne K (.ref cs.BadSize) (.ref cs.Book) = some false
  k_BadSize_ValueError : PySem.W.kitOne K (.ref cs.BadSize) (.type "ValueError") = some true
  e_NotRounding : ExcC K cs.NotRounding
  s_NotRounding_BookError : PySem.W.subIn K (.ref cs.NotRounding) (.ref cs.BookError) = some true
  k_NotRounding_BookError : PySem.W.kitOne K (.ref cs.NotRounding) (.ref cs.BookError) = some true
  s_NotRounding_ZeroBottom : PySem.W.subIn K (.ref cs.NotRounding) (.ref cs.ZeroBottom) = some false
  k_NotRounding_ZeroBottom : PySem.W.kitOne K (.ref cs.NotRounding) (.ref cs.ZeroBottom) = some false
  s_NotRounding_BadName : PySem.W.subIn K (.ref cs.NotRounding) (.ref cs.BadName) = some false
  k_NotRounding_BadName : PySem.W.kitOne K (.ref cs.NotRounding) (.ref cs.BadName) = some false
  s_NotRounding_BadSize : PySem.W.subIn K (.ref cs.NotRounding) (.ref cs.BadSize) = some false
  k_NotRounding_BadSize : PySem.W.kitOne K (.ref cs.NotRounding) (.ref cs.BadSize) = some false
  s_NotRounding_NotTable : PySem.W.subIn K (.ref cs.NotRounding) (.ref cs.NotTable) = some false
  k_NotRounding_NotTable : PySem.W.kitOne K (.ref cs.NotRounding) (.ref cs.NotTable) = some false
  s_NotRounding_NotWhole : PySem.W.subIn K (.ref cs.NotRounding) (.ref cs.NotWhole) = some false
  k_NotRounding_NotWhole : PySem.W.kitOne K (.ref cs.NotRounding) (.ref cs.NotWhole) = some false
  s_NotRounding_NotRounding : PySem.W.subIn K (.ref cs.NotRounding) (.ref cs.NotRounding) = some true
  k_NotRounding_NotRounding : PySem.W.kitOne K (.ref cs.NotRounding) (.ref cs.NotRounding) = some true
  s_NotRounding_BadChance : PySem.W.subIn K (.ref cs.NotRounding) (.ref cs.BadChance) = some false
  k_NotRounding_BadChance : PySem.W.kitOne K (.ref cs.NotRounding) (.ref cs.BadChance) = some false
  s_NotRounding_Book : PySem.W.subIn K (.ref cs.NotRounding) (.ref cs.Book) = some false
  k_NotRounding_Book : PySem.W.kitOne K (.ref cs.NotRounding) (.ref cs.Book) = some false
  k_NotRounding_ValueError : PySem.W.kitOne K (.ref cs.NotRounding) (.type "ValueError") = some true
  e_NotTable : ExcC K cs.NotTable
  s_NotTable_BookError : PySem.W.subIn K (.ref cs.NotTable) (.ref cs.BookError) = some true
  k_NotTable_BookError : PySem.W.kitOne K (.ref cs.NotTable) (.ref cs.BookError) = some true
  s_NotTable_ZeroBottom : PySem.W.subIn K (.ref cs.NotTable) (.ref cs.ZeroBottom) = some false
  k_NotTable_ZeroBottom : PySem.W.kitOne K (.ref cs.NotTable) (.ref cs.ZeroBottom) = some false
  s_NotTable_BadName : PySem.W.subIn K (.ref cs.NotTable) (.ref cs.BadName) = some false
  k_NotTable_BadName : PySem.W.kitOne K (.ref cs.NotTable) (.ref cs.BadName) = some false
  s_NotTable_BadSize : PySem.W.subIn K (.ref cs.NotTable) (.ref cs.BadSize) = some false
  k_NotTable_BadSize : PySem.W.kitOne K (.ref cs.NotTable) (.ref cs.BadSize) = some false
  s_NotTable_NotTable : PySem.W.subIn K (.ref cs.NotTable) (.ref cs.NotTable) = some true
  k_NotTable_NotTable : PySem.W.kitOne K (.ref cs.NotTable) (.ref cs.NotTable) = some true
  s_NotTable_NotWhole : PySem.W.subIn K (.ref cs.NotTable) (.ref cs.NotWhole) = some false
  k_NotTable_NotWhole : PySem.W.kitOne K (.ref cs.NotTable) (.ref cs.NotWhole) = some false
  s_NotTable_NotRounding : PySem.W.subIn K (.ref cs.NotTable) (.ref cs.NotRounding) = some false
  k_NotTable_NotRounding : PySem.W.kitOne K (.ref cs.NotTable) (.ref cs.NotRounding) = some false
  s_NotTable_BadChance : PySem.W.subIn K (.ref cs.NotTable) (.ref cs.BadChance) = some false
  k_NotTable_BadChance : PySem.W.kitOne K (.ref cs.NotTable) (.ref cs.BadChance) = some false
  s_NotTable_Book : PySem.W.subIn K (.ref cs.NotTable) (.ref cs.Book) = some false
  k_NotTable_Book : PySem.W.kitOne K (.ref cs.NotTable) (.ref cs.Book) = some false
  k_NotTable_ValueError : PySem.W.kitOne K (.ref cs.NotTable) (.type "ValueError") = some true
  e_NotWhole : ExcC K cs.NotWhole
  s_NotWhole_BookError : PySem.W.subIn K (.ref cs.NotWhole) (.ref cs.BookError) = some true
  k_NotWhole_BookError : PySem.W.kitOne K (.ref cs.NotWhole) (.ref cs.BookError) = some true
  s_NotWhole_ZeroBottom : PySem.W.subIn K (.ref cs.NotWhole) (.ref cs.ZeroBottom) = some false
  k_NotWhole_ZeroBottom : PySem.W.kitOne K (.ref cs.NotWhole) (.ref cs.ZeroBottom) = some false
  s_NotWhole_BadName : PySem.W.subIn K (.ref cs.NotWhole) (.ref cs.BadName) = some false
  k_NotWhole_BadName : PySem.W.kitOne K (.ref cs.NotWhole) (.ref cs.BadName) = some false
  s_NotWhole_BadSize : PySem.W.subIn K (.ref cs.NotWhole) (.ref cs.BadSize) = some false
  k_NotWhole_BadSize : PySem.W.kitOne K (.ref cs.NotWhole) (.ref cs.BadSize) = some false
  s_NotWhole_NotTable : PySem.W.subIn K (.ref cs.NotWhole) (.ref cs.NotTable) = some false
  k_NotWhole_NotTable : PySem.W.kitOne K (.ref cs.NotWhole) (.ref cs.NotTable) = some false
  s_NotWhole_NotWhole : PySem.W.subIn K (.ref cs.NotWhole) (.ref cs.NotWhole) = some true
  k_NotWhole_NotWhole : PySem.W.kitOne K (.ref cs.NotWhole) (.ref cs.NotWhole) = some true
  s_NotWhole_NotRounding : PySem.W.subIn K (.ref cs.NotWhole) (.ref cs.NotRounding) = some false
  k_NotWhole_NotRounding : PySem.W.kitOne K (.ref cs.NotWhole) (.ref cs.NotRounding) = some false
  s_NotWhole_BadChance : PySem.W.subIn K (.ref cs.NotWhole) (.ref cs.BadChance) = some false
  k_NotWhole_BadChance : PySem.W.kitOne K (.ref cs.NotWhole) (.ref cs.BadChance) = some false
  s_NotWhole_Book : PySem.W.subIn K (.ref cs.NotWhole) (.ref cs.Book) = some false
  k_NotWhole_Book : PySem.W.kitOne K (.ref cs.NotWhole) (.ref cs.Book) = some false
  k_NotWhole_ValueError : PySem.W.kitOne K (.ref cs.NotWhole) (.type "ValueError") = some true
variable {P : Program} {w : World} {K : PySem.W.Frag} {mg : Str → Option Value} {base : Heap} {cs : Cs}
theorem sc_ratio : FnScope ["top", "bottom", "common"] ["top", "bottom"] (defScope s_ratio) := ⟨rfl, rfl, rfl, by decide +kernel, rfl, by decide +kernel, by decide +kernel⟩
def sp_ratio (K : PySem.W.Frag) (cs : Cs) : Sp := PmX (ι := Int × Int) (fun ⟨t, b⟩ => Lg b < 9000) (fun ⟨t, b⟩ => [rInt t, rInt b]) (fun ⟨t, b⟩ => if b = 0 then .err cs.ZeroBottom else .ok (.val (rNum K ((t : Rat) / (b : Rat)))))
abbrev okr_ratio (K : PySem.W.Frag) : Int × Int → Ret := fun ⟨t, b⟩ => .val (rNum K ((t : Rat) / (b : Rat)))
theorem ok_ratio (T : Txt K mg cs) : Cal P w K mg base 1 "ratio" (sp_ratio K cs) := by
  refine cal_okX T.d_ratio sc_ratio (fun g => rfl) (fun _ _ _ _ _ _ us hl => match us, hl with | [_, _], _ => rfl) ?_
  rintro X rfl rfl rfl rfl rfl B Bf ⟨t, b⟩ F0 H0 D E tk hp R hnx
  refine go_if (dt_eqI (de_var B (i := 1) rfl rfl (.inl rfl)) de_int) (fun hc => ?gt_1) (fun hc => ?gf_2)
  case gt_1 =>
    replace hc : b = 0 := of_decide_eq_true hc
    refine go_raise B tk T.x_ZeroBottom rfl (fun F H σ en => R.er (C := cs.ZeroBottom) ?re1 H en.gr.h)
    (case re1 => exact if_pos hc)
  case gf_2 =>
    replace hc : b ≠ 0 := of_decide_eq_false hc; have hb := hc
    refine go_then ?go_3
    refine go_set B (i := 2) (de_gcd B T.m_gcd (de_var B (i := 0) rfl rfl (.inl rfl)) (de_var B (i := 1) rfl rfl (.inl rfl)) rfl) rfl (.inl rfl) ?go_4
    refine go_if (dt_lt (de_var B (i := 1) rfl rfl (.inl rfl)) de_int) (fun hc => ?gt_5) (fun hc => ?gf_6)
    case gt_5 =>
      replace hc : b < 0 := of_decide_eq_true hc; have hl : lowC t b = -(Int.gcd t b : Int) := if_pos hc
      refine go_set B (i := 2) (de_neg (de_var B (i := 2) rfl rfl (.inl rfl))) rfl (.inl rfl) ?go_7
      refine go_then ?go_8
      refine go_if (dt_eqI (de_var B (i := 2) rfl rfl (.inl rfl)) (de_var B (i := 1) rfl rfl (.inl rfl))) (fun hc => ?gt_9) (fun hc => ?gf_10)
      case gt_9 =>
        replace hc := of_decide_eq_true hc
        refine go_ret (R.rt (ret := .val (rNum X.K ((t : Rat) / (b : Rat)))) ?ro2) (de_divG ?z3 ?d4 (de_var B (i := 0) rfl rfl (.inl rfl)) (de_var B (i := 2) rfl rfl (.inl rfl))) ?rs_11
        (case ro2 => exact if_neg hb)
        (case z3 => rw [← hl]; exact lowC_ne hb)
        (case d4 => rw [← hl]; exact Nat.lt_of_le_of_lt (lg_lowC hb) hp)
        (case rs_11 => rw [← hl]; exact sub_whole (rat_den1 hb (hl.trans hc)) (rat_num hb))
      case gf_10 =>
        replace hc := of_decide_eq_false hc
        refine go_then ?go_12
        refine go_ret (R.rt (ret := .val (rNum X.K ((t : Rat) / (b : Rat)))) ?ro5) (de_tup (da_cons (de_divG ?z6 ?d7 (de_var B (i := 0) rfl rfl (.inl rfl)) (de_var B (i := 2) rfl rfl (.inl rfl))) (da_cons (de_divG ?z8 ?d9 (de_var B (i := 1) rfl rfl (.inl rfl)) (de_var B (i := 2) rfl rfl (.inl rfl))) da_nil)) (show (2 : Nat) ≤ sizeLine by decide)) ?rs_13
        (case ro5 => exact if_neg hb)
        (case z6 => rw [← hl]; exact lowC_ne hb)
        (case d7 => rw [← hl]; exact Nat.lt_of_le_of_lt (lg_lowC hb) hp)
        (case z8 => rw [← hl]; exact lowC_ne hb)
        (case d9 => rw [← hl]; exact Nat.lt_of_le_of_lt (lg_lowC hb) hp)
        (case rs_13 => rw [← hl]; exact sub_pair (rat_denN hb (fun z => hc (hl.symm.trans z))) (rat_num hb) (rat_den hb))
    case gf_6 =>
      replace hc : ¬ b < 0 := of_decide_eq_false hc; have hl : lowC t b = (Int.gcd t b : Int) := if_neg hc
      refine go_then ?go_14
      refine go_if (dt_eqI (de_var B (i := 2) rfl rfl (.inl rfl)) (de_var B (i := 1) rfl rfl (.inl rfl))) (fun hc => ?gt_15) (fun hc => ?gf_16)
      case gt_15 =>
        replace hc := of_decide_eq_true hc
        refine go_ret (R.rt (ret := .val (rNum X.K ((t : Rat) / (b : Rat)))) ?ro10) (de_divG ?z11 ?d12 (de_var B (i := 0) rfl rfl (.inl rfl)) (de_var B (i := 2) rfl rfl (.inl rfl))) ?rs_17
        (case ro10 => exact if_neg hb)
        (case z11 => rw [← hl]; exact lowC_ne hb)
        (case d12 => rw [← hl]; exact Nat.lt_of_le_of_lt (lg_lowC hb) hp)
        (case rs_17 => rw [← hl]; exact sub_whole (rat_den1 hb (hl.trans hc)) (rat_num hb))
      case gf_16 =>
        replace hc := of_decide_eq_false hc
        refine go_then ?go_18
        refine go_ret (R.rt (ret := .val (rNum X.K ((t : Rat) / (b : Rat)))) ?ro13) (de_tup (da_cons (de_divG ?z14 ?d15 (de_var B (i := 0) rfl rfl (.inl rfl)) (de_var B (i := 2) rfl rfl (.inl rfl))) (da_cons (de_divG ?z16 ?d17 (de_var B (i := 1) rfl rfl (.inl rfl)) (de_var B (i := 2) rfl rfl (.inl rfl))) da_nil)) (show (2 : Nat) ≤ sizeLine by decide)) ?rs_19
        (case ro13 => exact if_neg hb)
        (case z14 => rw [← hl]; exact lowC_ne hb)
        (case d15 => rw [← hl]; exact Nat.lt_of_le_of_lt (lg_lowC hb) hp)
        (case z16 => rw [← hl]; exact lowC_ne hb)
        (case d17 => rw [← hl]; exact Nat.lt_of_le_of_lt (lg_lowC hb) hp)
        (case rs_19 => rw [← hl]; exact sub_pair (rat_denN hb (fun z => hc (hl.symm.trans z))) (rat_num hb) (rat_den hb))
theorem sc_is_whole : FnScope ["number"] ["number"] (defScope s_is_whole) := ⟨rfl, rfl, rfl, by decide +kernel, rfl, by decide +kernel, by decide +kernel⟩
def sp_is_whole (K : PySem.W.Frag) (cs : Cs) : Sp := Pm (ι := Rat) (fun q => True) (fun q => [rNum K q]) (fun q => .val (rBl (decide (q.den = 1))))
theorem ok_is_whole (T : Txt K mg cs) : Cal P w K mg base 1 "is_whole" (sp_is_whole K cs) := by
  refine cal_ok T.d_is_whole sc_is_whole (fun g => rfl) (fun _ _ _ _ _ _ us hl => match us, hl with | [_], _ => rfl) ?_
  rintro X rfl rfl rfl rfl rfl B Bf q F0 H0 D hp R hnx
  refine go_ret R (de_not (de_isi (T := "tuple") B T.b_isinstance rty_num kit_numT (de_var B (i := 0) rfl rfl (.inl rfl)) (de_ty B T.b_tuple (by decide +kernel) rfl) rfl)) ?rs_1
  (case rs_1 => exact Sub.of (by simp))
theorem sc_support : FnScope ["numbers", "k", "number"] ["numbers"] (defScope s_support) := ⟨rfl, rfl, rfl, by decide +kernel, rfl, by decide +kernel, by decide +kernel⟩
def sp_support (K : PySem.W.Frag) (cs : Cs) : Sp := Pm (ι := List Rat) (fun qs => qs.length ≤ 1000) (fun qs => [rSeq K (qs.map (rNum K))]) (fun qs => .lst ((suppI qs).map rInt))
theorem ok_support (T : Txt K mg cs) : Cal P w K mg base 1 "support" (sp_support K cs) := by
  refine cal_ok T.d_support sc_support (fun g => rfl) (fun _ _ _ _ _ _ us hl => match us, hl with | [_], _ => rfl) ?_
  rintro X rfl rfl rfl rfl rfl B Bf qs F0 H0 D hp R hnx
  refine go_retL R (DL.to (l' := List.map rInt (suppI qs)) (dl_lc B [("k", 1), ("number", 2)] (sr_enumA (R := (rNum X.K)) (0 : Rat) B T.b_enumerate (de_var B (i := 0) rfl rfl (.inl rfl)) rfl) (blkOk_by (by decide +kernel)) _ _ (fun i : Nat => rInt ((i : Nat) : Int)) ?sz1 (by decide) (fun _ _ _ _ _ B i hi => (dg_tup B (dgs_cons (dg_name B (i := 1) rfl (.inl rfl)) (dgs_cons (dg_name B (i := 2) rfl (.inl rfl)) dgs_nil)))) (fun _ _ _ _ _ B i hi => (dts_one (dt_neN B (de_var B (i := 2) rfl rfl (.inl rfl)) (de_i2n de_int)))) (fun _ _ _ _ _ B i hi hb => (de_var B (i := 1) rfl rfl (.inl rfl)))) ?cl2) ?rs_1
  (case sz1 => exact Nat.lt_of_le_of_lt hp (by decide))
  (case cl2 => unfold suppI suppN; rw [List.map_map]; rfl)
  (case rs_1 => rfl)
theorem sc_lowest : FnScope ["row", "common", "number", "divisor", "x"] ["row"] (defScope s_lowest) := ⟨rfl, rfl, rfl, by decide +kernel, rfl, by decide +kernel, by decide +kernel⟩
def sp_lowest (K : PySem.W.Frag) (cs : Cs) : Sp := Pm (ι := List Int) (fun ns => ns.length ≤ 1000 ∧ ∀ x ∈ ns, Lg x < 8990) (fun ns => [rLst K (ns.map rInt)]) (fun ns => .lst ((lowest ns).map rInt))
theorem ok_lowest (T : Txt K mg cs) : Cal P w K mg base 1 "lowest" (sp_lowest K cs) := by
  refine cal_ok T.d_lowest sc_lowest (fun g => rfl) (fun _ _ _ _ _ _ us hl => match us, hl with | [_], _ => rfl) ?_
  rintro X rfl rfl rfl rfl rfl B Bf ns F0 H0 D hp R hnx
  refine go_set B (i := 1) de_int rfl (.inl rfl) ?go_1
  refine go_forS B (fun i => [(1, .im (rInt ((gl (ns.take i) : Nat) : Int))), (2, .any)]) (fun i => True) (sr_listM (R := rInt) (0 : Int) (de_var B (i := 0) rfl rfl (.inl rfl))) _ (fun i hi => (dg_name B (i := 2) rfl (.inl rfl))) ?h0_2 ?j0_3 (fun F1 u i hi hj => ?gb_4) (fun hj => ?ge_5)
  (case h0_2 => refine .same ?_; refine .im ?h ?_; (case h => exact Sub.rfl); refine .any ?_; refine .same ?_; refine .same ?_; exact .nil)
  (case j0_3 => trivial)
  case gb_4 =>
    refine go_set B (i := 1) (de_gcd B T.m_gcd (de_var B (i := 1) rfl rfl (.inl rfl)) (de_var B (i := 2) rfl rfl (.inl rfl)) rfl) rfl (.inl rfl) ?go_6
    refine go_turnS ?jn_7 ?ln_8
    (case jn_7 => trivial)
    (case ln_8 => refine .same ?_; refine .im ?h ?_; (case h => exact Sub.of (by rw [gl_step hi])); refine .any ?_; refine .same ?_; refine .same ?_; exact .nil)
  case ge_5 =>
    refine go_forS B (fun i => [(2, .any), (3, .any)]) (fun i => ∀ j, j < i → ns.getD j 0 = 0) (sr_listM (R := rInt) (0 : Int) (de_var B (i := 0) rfl rfl (.inl rfl))) _ (fun i hi => (dg_name B (i := 2) rfl (.inl rfl))) ?h0_9 ?j0_10 (fun F1 u i hi hj => ?gb_11) (fun hj => ?ge_12)
    (case h0_9 => refine .same ?_; refine .same ?_; refine .any ?_; refine .any ?_; refine .same ?_; exact .nil)
    (case j0_10 => exact fun j hj => absurd hj (Nat.not_lt_zero j))
    case gb_11 =>
      refine go_if (dt_neI (de_var B (i := 2) rfl rfl (.inl rfl)) de_int) (fun hc => ?gt_13) (fun hc => ?gf_14)
      case gt_13 =>
        replace hc := nd_t hc
        have hi1 := hi
        have hf := fnz_at hi hj hc
        have hsd := sdv_ne hf
        refine go_set B (i := 3) (DE.to (r' := rInt (sdv (gl ns) (ns.getD i 0))) (de_if (dt_gt (de_var B (i := 2) rfl rfl (.inl rfl)) de_int) (fun hc2 => DE.to (r' := rInt (sdv (gl ns) (ns.getD i 0))) (de_var B (i := 1) rfl rfl (.inl rfl)) ?sa1) (fun hc2 => DE.to (r' := rInt (sdv (gl ns) (ns.getD i 0))) (de_neg (de_var B (i := 1) rfl rfl (.inl rfl))) ?sb2)) rfl) rfl (.inr ⟨rfl, Bf _⟩) ?go_15
        (case sa1 => exact congrArg rInt (sdv_t (of_decide_eq_true hc2)))
        (case sb2 => exact congrArg rInt (sdv_f (of_decide_eq_false hc2)))
        refine go_retL (u.rt R) (DL.to (l' := List.map rInt (lowest ns)) (dl_lc B [("x", 4)] (sr_listM (R := rInt) (0 : Int) (de_var B (i := 0) rfl rfl (.inl rfl))) (blkOk_by (by decide +kernel)) _ (fun _ => true) (fun i2 : Nat => rInt ((ns.getD i2 0).fdiv (sdv (gl ns) (ns.getD i 0)))) ?sz5 (by decide) (fun _ _ _ _ _ B i2 hi => (dg_name B (i := 4) rfl (.inl rfl))) (fun _ _ _ _ _ B i2 hi => dts_nil) (fun _ _ _ _ _ B i2 hi hb => (de_divG ?z3 ?d4 (de_var B (i := 4) rfl rfl (.inl rfl)) (de_var B (i := 3) rfl rfl (.inr (.inl rfl)))))) ?cl6) ?rs_16
        (case z3 => exact hsd)
        (case d4 => exact sdv_lg hp.2 hi1 hc)
        (case sz5 => exact Nat.lt_of_le_of_lt hp.1 (by decide))
        (case cl6 => exact low_lc hf)
        (case rs_16 => rfl)
      case gf_14 =>
        skip
        refine go_then ?go_17
        refine go_turnS ?jn_18 ?ln_19
        (case jn_18 => exact zer_more hj (nd_f hc))
        (case ln_19 => refine .same ?_; refine .same ?_; refine .any ?_; refine .any ?_; refine .same ?_; exact .nil)
    case ge_12 =>
      refine go_retL R (dl_list B T.b_list (de_var B (i := 0) rfl rfl (.inl rfl)) rfl) ?rs_20
      (case rs_20 => rw [show lowest ns = ns from by unfold lowest; rw [fnz_all hj]])
theorem sc_lead_at : FnScope ["rows", "cell", "k", "row"] ["rows", "cell"] (defScope s_lead_at) := ⟨rfl, rfl, rfl, by decide +kernel, rfl, by decide +kernel, by decide +kernel⟩
def sp_lead_at (K : PySem.W.Frag) (cs : Cs) : Sp := Pm (ι := List (List Int) × Int) (fun ⟨rows, c⟩ => 0 ≤ c ∧ ∀ r ∈ rows, c < r.length) (fun ⟨rows, c⟩ => [rLst K (rows.map (rRowS K)), rInt c]) (fun ⟨rows, c⟩ => .val (rOp rInt ((leadAt rows c.toNat).map fun k : Nat => (k : Int))))
theorem ok_lead_at (T : Txt K mg cs) : Cal P w K mg base 1 "lead_at" (sp_lead_at K cs) := by
  refine cal_ok T.d_lead_at sc_lead_at (fun g => rfl) (fun _ _ _ _ _ _ us hl => match us, hl with | [_, _], _ => rfl) ?_
  rintro X rfl rfl rfl rfl rfl B Bf ⟨rows, c⟩ F0 H0 D hp R hnx
  refine go_forS B (fun i => [(2, .any), (3, .any)]) (fun i => ∀ j, j < i → (rows.getD j []).getD c.toNat 0 = 0) (sr_enumM (R := (fun l => rSeq X.K (List.map rInt l))) [] B T.b_enumerate (de_var B (i := 0) rfl rfl (.inl rfl)) rfl) _ (fun i hi => (dg_tup B (dgs_cons (dg_name B (i := 2) rfl (.inl rfl)) (dgs_cons (dg_name B (i := 3) rfl (.inl rfl)) dgs_nil)))) ?h0_1 ?j0_2 (fun F1 u i hi hj => ?gb_3) (fun hj => ?ge_4)
  (case h0_1 => refine .same ?_; refine .same ?_; refine .any ?_; refine .any ?_; exact .nil)
  (case j0_2 => exact fun j hj => absurd hj (Nat.not_lt_zero j))
  case gb_3 =>
    refine go_if (dt_neI (de_ixAM (R := rInt) (0 : Int) ?xl1 ?xh2 (de_var B (i := 3) rfl rfl (.inl rfl)) (de_var B (i := 1) rfl rfl (.inl rfl))) de_int) (fun hc => ?gt_5) (fun hc => ?gf_6)
    (case xl1 => exact hp.1)
    (case xh2 => exact hp.2 _ (getD_memL hi))
    case gt_5 =>
      replace hc := nd_t hc
      refine go_ret (u.rt R) (de_oS (R := rInt) (de_var B (i := 2) rfl rfl (.inl rfl))) ?rs_7
      (case rs_7 => exact Sub.of (congrArg (fun o : Option Nat => rOp rInt (o.map fun k : Nat => (k : Int))) (leadAt_at hi hj hc).symm))
    case gf_6 =>
      skip
      refine go_then ?go_8
      refine go_turnS ?jn_9 ?ln_10
      (case jn_9 => exact la_more hj (nd_f hc))
      (case ln_10 => refine .same ?_; refine .same ?_; refine .any ?_; refine .any ?_; exact .nil)
  case ge_4 =>
    refine go_ret R (de_oN (R := rInt) de_non) ?rs_11
    (case rs_11 => exact Sub.of (congrArg (fun o : Option Nat => rOp rInt (o.map fun k : Nat => (k : Int))) (leadAt_all hj).symm))
theorem sc_is_name : FnScope ["text", "sign"] ["text"] (defScope s_is_name) := ⟨rfl, rfl, rfl, by decide +kernel, rfl, by decide +kernel, by decide +kernel⟩
def sp_is_name (K : PySem.W.Frag) (cs : Cs) : Sp := Pm (ι := Str) (fun x => x.length ≤ 100000) (fun x => [rStr x]) (fun x => .val (rBl (isNm x)))
theorem ok_is_name (T : Txt K mg cs) : Cal P w K mg base 1 "is_name" (sp_is_name K cs) := by
  refine cal_ok T.d_is_name sc_is_name (fun g => rfl) (fun _ _ _ _ _ _ us hl => match us, hl with | [_], _ => rfl) ?_
  rintro X rfl rfl rfl rfl rfl B Bf x F0 H0 D hp R hnx
  refine go_if (DW.t (dw_or (dt_not (dt_chain op_le b2_I0 op_le b2_I0 de_int (de_lenS B T.b_len ?gl1 (de_var B (i := 0) rfl rfl (.inl rfl)) rfl) (fun hch => (de_glob B (v := .int 12) T.c_MOST_SIGNS rfl)))) (fun hb1 => (dw_or1 (dt_notInSg (de_ixStr ?gz2 ?xl3 ?xh4 (de_var B (i := 0) rfl rfl (.inl rfl)) de_int) (de_glob B (v := .str "abcdefghijklmnopqrstuvwxyz") T.c_LETTERS rfl)))))) (fun hc => ?gt_1) (fun hc => ?gf_2)
  (case gl1 => exact Nat.le_trans hp (by decide))
  (case gz2 => exact Nat.le_trans hp (by decide))
  (case xl3 => decide)
  (case xh4 => exact (nm_len (nn_f hb1)).1)
  case gt_1 =>
    have hn := nm_f hc rfl
    refine go_ret R de_bl ?rs_3
    (case rs_3 => exact Sub.of (congrArg rBl hn.symm))
  case gf_2 =>
    have hn := nm_t hc rfl
    have hlen := nm_le hc
    refine go_then ?go_4
    refine go_ret R (de_allB B T.b_all (DL.froz (DL.to (l' := List.map rBl (x.cps.toList.map nmS)) (dl_lc B [("sign", 1)] (sr_str (de_var B (i := 0) rfl rfl (.inl rfl))) (blkOk_by (by decide +kernel)) _ (fun _ => true) (fun i : Nat => rBl (nmS (x.cps.toList.getD i 0))) ?sz5 (by decide) (fun _ _ _ _ _ B i hi => (dg_name B (i := 1) rfl (.inl rfl))) (fun _ _ _ _ _ B i hi => dts_nil) (fun _ _ _ _ _ B i hi hb => (de_or (de_inSg (de_var B (i := 1) rfl rfl (.inl rfl)) (de_glob B (v := .str "abcdefghijklmnopqrstuvwxyz") T.c_LETTERS rfl)) (fun hb1 => (de_one (de_inSg (de_var B (i := 1) rfl rfl (.inl rfl)) (de_glob B (v := .str "0123456789") T.c_DIGITS rfl))))))) ?cl6)) rfl) ?rs_5
    (case sz5 => exact Nat.lt_of_le_of_lt hlen (by decide))
    (case cl6 => exact nm_lc)
    (case rs_5 => exact Sub.of (congrArg rBl (nm_all.trans hn)))
theorem sc_top_of : FnScope ["number"] ["number"] (defScope s_top_of) := ⟨rfl, rfl, rfl, by decide +kernel, rfl, by decide +kernel, by decide +kernel⟩
def sp_top_of (K : PySem.W.Frag) (cs : Cs) : Sp := Pm (ι := Rat) (fun q => True) (fun q => [rNum K q]) (fun q => .val (rInt q.num))
theorem ok_top_of (T : Txt K mg cs) : Cal P w K mg base 2 "top_of" (sp_top_of K cs) := by
  refine cal_ok T.d_top_of sc_top_of (fun g => rfl) (fun _ _ _ _ _ _ us hl => match us, hl with | [_], _ => rfl) ?_
  rintro X rfl rfl rfl rfl rfl B Bf q F0 H0 D hp R hnx
  refine go_ret R (de_if (dt_val (CA.val (ca_call B (ok_is_whole T) (by decide) _ trivial (da_cons (de_var B (i := 0) rfl rfl (.inl rfl)) da_nil) rfl))) (fun hc => de_n2i ?n1 (de_var B (i := 0) rfl rfl (.inl rfl))) (fun hc => de_num0 ?n2 (de_var B (i := 0) rfl rfl (.inl rfl)))) ?rs_1
  (case n1 => simpa using hc)
  (case n2 => simpa using hc)
  (case rs_1 => exact Sub.rfl)
theorem sc_bottom_of : FnScope ["number"] ["number"] (defScope s_bottom_of) := ⟨rfl, rfl, rfl, by decide +kernel, rfl, by decide +kernel, by decide +kernel⟩
def sp_bottom_of (K : PySem.W.Frag) (cs : Cs) : Sp := Pm (ι := Rat) (fun q => True) (fun q => [rNum K q]) (fun q => .val (rInt (q.den : Int)))
theorem ok_bottom_of (T : Txt K mg cs) : Cal P w K mg base 2 "bottom_of" (sp_bottom_of K cs) := by
  refine cal_ok T.d_bottom_of sc_bottom_of (fun g => rfl) (fun _ _ _ _ _ _ us hl => match us, hl with | [_], _ => rfl) ?_
  rintro X rfl rfl rfl rfl rfl B Bf q F0 H0 D hp R hnx
  refine go_ret R (de_if (dt_val (CA.val (ca_call B (ok_is_whole T) (by decide) _ trivial (da_cons (de_var B (i := 0) rfl rfl (.inl rfl)) da_nil) rfl))) (fun hc => DE.to (r' := rInt (q.den : Int)) de_int ?e1) (fun hc => de_num1 ?n2 (de_var B (i := 0) rfl rfl (.inl rfl)))) ?rs_1
  (case e1 => have h : q.den = 1 := (by simpa using hc); exact congrArg rInt (by omega))
  (case n2 => simpa using hc)
  (case rs_1 => exact Sub.rfl)
theorem sc_lowered : FnScope ["row", "lead", "cell", "up", "down", "x", "y"] ["row", "lead", "cell"] (defScope s_lowered) := ⟨rfl, rfl, rfl, by decide +kernel, rfl, by decide +kernel, by decide +kernel⟩
def sp_lowered (K : PySem.W.Frag) (cs : Cs) : Sp := Pm (ι := List Int × List Int × Int × Nat) (fun ⟨row, lead, c, n⟩ => (0 ≤ c ∧ c < n ∧ n ≤ 1000) ∧ RowOk n row ∧ RowOk n lead) (fun ⟨row, lead, c, n⟩ => [rSeq K (row.map rInt), rSeq K (lead.map rInt), rInt c]) (fun ⟨row, lead, c, n⟩ => .lst ((lowd row lead c.toNat).map rInt))
theorem ok_lowered (T : Txt K mg cs) : Cal P w K mg base 2 "lowered" (sp_lowered K cs) := by
  refine cal_ok T.d_lowered sc_lowered (fun g => rfl) (fun _ _ _ _ _ _ us hl => match us, hl with | [_, _, _], _ => rfl) ?_
  rintro X rfl rfl rfl rfl rfl B Bf ⟨row, lead, c, n⟩ F0 H0 D hp R hnx
  obtain ⟨⟨hc0, hc1, hn⟩, ⟨hr, hr2⟩, ⟨hl, hl2⟩⟩ := hp
  refine @go_nf _ _ _ _ _ _ [_, _, _, _, _, _, _] rfl ?go_1
  refine go_asg (de_tup (da_cons (de_ixAM (R := rInt) (0 : Int) ?xl1 ?xh2 (de_var B (i := 1) rfl rfl (.inl rfl)) (de_var B (i := 2) rfl rfl (.inl rfl))) (da_cons (de_ixAM (R := rInt) (0 : Int) ?xl3 ?xh4 (de_var B (i := 0) rfl rfl (.inl rfl)) (de_var B (i := 2) rfl rfl (.inl rfl))) da_nil)) (show (2 : Nat) ≤ sizeLine by decide)) (dg_tup B (dgs_cons (dg_name B (i := 3) rfl (.inr ⟨rfl, Bf _⟩)) (dgs_cons (dg_name B (i := 4) rfl (.inr ⟨rfl, Bf _⟩)) dgs_nil))) ?go_2 (hw := by have h := B.hsc; revert h; generalize X.env = env; intro h; cases env; subst h; with_unfolding_all rfl)
  (case xl1 => exact hc0)
  (case xh2 => omega)
  (case xl3 => exact hc0)
  (case xh4 => omega)
  refine @go_nf _ _ _ _ _ _ [_, _, _, _, _, _, _] rfl ?go_3
  refine go_retL R (CA.lst (ca_call B (ok_lowest T) (by decide) _ ?c_lowest_9 (da_cons (DL.froz (DL.to (l' := List.map rInt (crs row lead c.toNat)) (dl_lc B [("x", 5), ("y", 6)] (sr_zipS_M (R := rInt) (R2 := rInt) (0 : Int) (0 : Int) B T.b_zip (de_var B (i := 0) rfl rfl (.inl rfl)) (de_var B (i := 1) rfl rfl (.inl rfl)) rfl) (blkOk_by (by decide +kernel)) _ (fun _ => true) (fun i : Nat => rInt (row.getD i 0 * lead.getD c.toNat 0 - lead.getD i 0 * row.getD c.toNat 0)) ?sz7 (by decide) (fun _ _ _ _ _ B i hi => (dg_tup B (dgs_cons (dg_name B (i := 5) rfl (.inl rfl)) (dgs_cons (dg_name B (i := 6) rfl (.inl rfl)) dgs_nil)))) (fun _ _ _ _ _ B i hi => dts_nil) (fun _ _ _ _ _ B i hi hb => (de_sub (de_mulG ?m5 (de_var B (i := 5) rfl rfl (.inl rfl)) (de_var B (i := 3) rfl rfl (.inr (.inl rfl)))) (de_mulG ?m6 (de_var B (i := 6) rfl rfl (.inl rfl)) (de_var B (i := 4) rfl rfl (.inr (.inl rfl))))))) ?cl8)) da_nil) rfl)) ?rs_4
  (case m5 => first | exact low_m (hr2 _ (getD_memI (by omega))) (hl2 _ (getD_memI (by omega))) | exact low_m (hl2 _ (getD_memI (by omega))) (hr2 _ (getD_memI (by omega))))
  (case m6 => first | exact low_m (hr2 _ (getD_memI (by omega))) (hl2 _ (getD_memI (by omega))) | exact low_m (hl2 _ (getD_memI (by omega))) (hr2 _ (getD_memI (by omega))))
  (case sz7 => exact Nat.lt_of_le_of_lt (Nat.le_trans (Nat.min_le_left _ _) (by omega : row.length ≤ 1000)) (by decide))
  (case cl8 => exact crs_lc)
  (case c_lowest_9 => exact ⟨by rw [crs_len]; omega, crs_lg hr2 hl2⟩)
  (case rs_4 => rfl)
theorem sc_check_names : FnScope ["names", "name"] ["names"] (defScope s_check_names) := ⟨rfl, rfl, rfl, by decide +kernel, rfl, by decide +kernel, by decide +kernel⟩
def sp_check_names (K : PySem.W.Frag) (cs : Cs) : Sp := PmX (ι := List Str) (fun xs => xs.length ≤ 1000 ∧ ∀ x ∈ xs, x.length ≤ 100000) (fun xs => [rLst K (xs.map rStr)]) (fun xs => if namesOk xs = false then .err cs.BadName else .ok (.val rNon))
abbrev okr_check_names (K : PySem.W.Frag) : List Str → Ret := fun xs => .val rNon
theorem ok_check_names (T : Txt K mg cs) : Cal P w K mg base 2 "check_names" (sp_check_names K cs) := by
  refine cal_okX T.d_check_names sc_check_names (fun g => rfl) (fun _ _ _ _ _ _ us hl => match us, hl with | [_], _ => rfl) ?_
  rintro X rfl rfl rfl rfl rfl B Bf xs F0 H0 D E tk hp R hnx
  refine go_forS B (fun i => [(1, .any)]) (fun i => ∀ j, j < i → isNm (xs.getD j default) = true) (sr_listM (R := rStr) (default : Str) (de_var B (i := 0) rfl rfl (.inl rfl))) _ (fun i hi => (dg_name B (i := 1) rfl (.inl rfl))) ?h0_1 ?j0_2 (fun F1 u i hi hj => ?gb_3) (fun hj => ?ge_4)
  (case h0_1 => refine .same ?_; refine .any ?_; exact .nil)
  (case j0_2 => exact fun j hj => absurd hj (Nat.not_lt_zero j))
  case gb_3 =>
    refine go_if (dt_not (dt_val (CA.val (ca_call B (ok_is_name T) (by decide) _ ?c_is_name_1 (da_cons (de_var B (i := 1) rfl rfl (.inl rfl)) da_nil) rfl)))) (fun hc => ?gt_5) (fun hc => ?gf_6)
    (case c_is_name_1 => exact hp.2 _ (DL.getD_mem (d := (default : Str)) hi))
    case gt_5 =>
      skip
      refine go_raise B tk T.x_BadName rfl (fun F H σ en => R.er (C := cs.BadName) ?re2 H en.gr.h)
      (case re2 => first | exact if_pos (nmo_a hi hc) | exact if_pos (nmo_b hc))
    case gf_6 =>
      skip
      refine go_then ?go_7
      refine go_turnS ?jn_8 ?ln_9
      (case jn_8 => exact nmj_more hj hc)
      (case ln_9 => refine .same ?_; refine .any ?_; exact .nil)
  case ge_4 =>
    refine go_if (dt_lt (de_lenSS B T.b_len (de_setS B T.b_set ?zs3 (de_var B (i := 0) rfl rfl (.inl rfl)) rfl) rfl) (de_lenM B T.b_len (de_var B (i := 0) rfl rfl (.inl rfl)) rfl)) (fun hc => ?gt_10) (fun hc => ?gf_11)
    (case zs3 => exact nm_scan hp.1)
    case gt_10 =>
      replace hc := of_decide_eq_true hc
      refine go_raise B tk T.x_BadName rfl (fun F H σ en => R.er (C := cs.BadName) ?re4 H en.gr.h)
      (case re4 => first | exact if_pos (nmo_a hi hc) | exact if_pos (nmo_b hc))
    case gf_11 =>
      replace hc := of_decide_eq_false hc
      refine go_then ?go_12
      refine go_nil (fun F H σ en => (hnx σ H).symm ▸ (R.rt (ret := .val rNon) ?ro5) .non F H en.gr rfl)
      (case ro5 => exact if_neg (nmo_c hj hc))
theorem sc_plus : FnScope ["x", "y", "bottom"] ["x", "y"] (defScope s_plus) := ⟨rfl, rfl, rfl, by decide +kernel, rfl, by decide +kernel, by decide +kernel⟩
def sp_plus (K : PySem.W.Frag) (cs : Cs) : Sp := Pm (ι := Rat × Rat) (fun ⟨q, r⟩ => Sz 4000 q ∧ Sz 4000 r) (fun ⟨q, r⟩ => [rNum K q, rNum K r]) (fun ⟨q, r⟩ => .val (rNum K (q + r)))
theorem ok_plus (T : Txt K mg cs) : Cal P w K mg base 3 "plus" (sp_plus K cs) := by
  refine cal_ok T.d_plus sc_plus (fun g => rfl) (fun _ _ _ _ _ _ us hl => match us, hl with | [_, _], _ => rfl) ?_
  rintro X rfl rfl rfl rfl rfl B Bf ⟨q, r⟩ F0 H0 D hp R hnx
  refine go_set B (i := 2) (CA.val (ca_call B (ok_bottom_of T) (by decide) _ trivial (da_cons (de_var B (i := 1) rfl rfl (.inl rfl)) da_nil) rfl)) rfl (.inl rfl) ?go_1
  refine go_ret R (CA.val (ca_callO (okr_ratio X.K) B (ok_ratio T) (by decide) (_, _) ?c_ratio_4 ?o_ratio_5 (da_cons (de_add (de_mulG ?m1 (CA.val (ca_call B (ok_top_of T) (by decide) _ trivial (da_cons (de_var B (i := 0) rfl rfl (.inl rfl)) da_nil) rfl)) (de_var B (i := 2) rfl rfl (.inl rfl))) (de_mulG ?m2 (CA.val (ca_call B (ok_top_of T) (by decide) _ trivial (da_cons (de_var B (i := 1) rfl rfl (.inl rfl)) da_nil) rfl)) (CA.val (ca_call B (ok_bottom_of T) (by decide) _ trivial (da_cons (de_var B (i := 0) rfl rfl (.inl rfl)) da_nil) rfl)))) (da_cons (de_mulG ?m3 (CA.val (ca_call B (ok_bottom_of T) (by decide) _ trivial (da_cons (de_var B (i := 0) rfl rfl (.inl rfl)) da_nil) rfl)) (de_var B (i := 2) rfl rfl (.inl rfl))) da_nil)) rfl)) ?rs_2
  (case m1 => grind [lg_mul, lg_add, lg_sub, lg_neg, Sz])
  (case m2 => grind [lg_mul, lg_add, lg_sub, lg_neg, Sz])
  (case m3 => grind [lg_mul, lg_add, lg_sub, lg_neg, Sz])
  (case c_ratio_4 => grind [lg_mul, Sz])
  (case o_ratio_5 => exact if_neg (dd_ne q r))
  (case rs_2 => exact Sub.of (by rw [r_plus]))
theorem sc_minus : FnScope ["x", "y", "bottom"] ["x", "y"] (defScope s_minus) := ⟨rfl, rfl, rfl, by decide +kernel, rfl, by decide +kernel, by decide +kernel⟩
def sp_minus (K : PySem.W.Frag) (cs : Cs) : Sp := Pm (ι := Rat × Rat) (fun ⟨q, r⟩ => Sz 4000 q ∧ Sz 4000 r) (fun ⟨q, r⟩ => [rNum K q, rNum K r]) (fun ⟨q, r⟩ => .val (rNum K (q - r)))
theorem ok_minus (T : Txt K mg cs) : Cal P w K mg base 3 "minus" (sp_minus K cs) := by
  refine cal_ok T.d_minus sc_minus (fun g => rfl) (fun _ _ _ _ _ _ us hl => match us, hl with | [_, _], _ => rfl) ?_
  rintro X rfl rfl rfl rfl rfl B Bf ⟨q, r⟩ F0 H0 D hp R hnx
  refine go_set B (i := 2) (CA.val (ca_call B (ok_bottom_of T) (by decide) _ trivial (da_cons (de_var B (i := 1) rfl rfl (.inl rfl)) da_nil) rfl)) rfl (.inl rfl) ?go_1
  refine go_ret R (CA.val (ca_callO (okr_ratio X.K) B (ok_ratio T) (by decide) (_, _) ?c_ratio_4 ?o_ratio_5 (da_cons (de_sub (de_mulG ?m1 (CA.val (ca_call B (ok_top_of T) (by decide) _ trivial (da_cons (de_var B (i := 0) rfl rfl (.inl rfl)) da_nil) rfl)) (de_var B (i := 2) rfl rfl (.inl rfl))) (de_mulG ?m2 (CA.val (ca_call B (ok_top_of T) (by decide) _ trivial (da_cons (de_var B (i := 1) rfl rfl (.inl rfl)) da_nil) rfl)) (CA.val (ca_call B (ok_bottom_of T) (by decide) _ trivial (da_cons (de_var B (i := 0) rfl rfl (.inl rfl)) da_nil) rfl)))) (da_cons (de_mulG ?m3 (CA.val (ca_call B (ok_bottom_of T) (by decide) _ trivial (da_cons (de_var B (i := 0) rfl rfl (.inl rfl)) da_nil) rfl)) (de_var B (i := 2) rfl rfl (.inl rfl))) da_nil)) rfl)) ?rs_2
  (case m1 => grind [lg_mul, lg_add, lg_sub, lg_neg, Sz])
  (case m2 => grind [lg_mul, lg_add, lg_sub, lg_neg, Sz])
  (case m3 => grind [lg_mul, lg_add, lg_sub, lg_neg, Sz])
  (case c_ratio_4 => grind [lg_mul, Sz])
  (case o_ratio_5 => exact if_neg (dd_ne q r))
  (case rs_2 => exact Sub.of (by rw [r_minus]))
theorem sc_times : FnScope ["x", "y"] ["x", "y"] (defScope s_times) := ⟨rfl, rfl, rfl, by decide +kernel, rfl, by decide +kernel, by decide +kernel⟩
def sp_times (K : PySem.W.Frag) (cs : Cs) : Sp := Pm (ι := Rat × Rat) (fun ⟨q, r⟩ => Sz 4000 q ∧ Sz 4000 r) (fun ⟨q, r⟩ => [rNum K q, rNum K r]) (fun ⟨q, r⟩ => .val (rNum K (q * r)))
theorem ok_times (T : Txt K mg cs) : Cal P w K mg base 3 "times" (sp_times K cs) := by
  refine cal_ok T.d_times sc_times (fun g => rfl) (fun _ _ _ _ _ _ us hl => match us, hl with | [_, _], _ => rfl) ?_
  rintro X rfl rfl rfl rfl rfl B Bf ⟨q, r⟩ F0 H0 D hp R hnx
  refine go_ret R (CA.val (ca_callO (okr_ratio X.K) B (ok_ratio T) (by decide) (_, _) ?c_ratio_3 ?o_ratio_4 (da_cons (de_mulG ?m1 (CA.val (ca_call B (ok_top_of T) (by decide) _ trivial (da_cons (de_var B (i := 0) rfl rfl (.inl rfl)) da_nil) rfl)) (CA.val (ca_call B (ok_top_of T) (by decide) _ trivial (da_cons (de_var B (i := 1) rfl rfl (.inl rfl)) da_nil) rfl))) (da_cons (de_mulG ?m2 (CA.val (ca_call B (ok_bottom_of T) (by decide) _ trivial (da_cons (de_var B (i := 0) rfl rfl (.inl rfl)) da_nil) rfl)) (CA.val (ca_call B (ok_bottom_of T) (by decide) _ trivial (da_cons (de_var B (i := 1) rfl rfl (.inl rfl)) da_nil) rfl))) da_nil)) rfl)) ?rs_1
  (case m1 => grind [lg_mul, lg_add, lg_sub, lg_neg, Sz])
  (case m2 => grind [lg_mul, lg_add, lg_sub, lg_neg, Sz])
  (case c_ratio_3 => grind [lg_mul, Sz])
  (case o_ratio_4 => exact if_neg (dd_ne q r))
  (case rs_1 => exact Sub.of (by rw [r_times]))
theorem sc_over : FnScope ["x", "y"] ["x", "y"] (defScope s_over) := ⟨rfl, rfl, rfl, by decide +kernel, rfl, by decide +kernel, by decide +kernel⟩
def sp_over (K : PySem.W.Frag) (cs : Cs) : Sp := PmX (ι := Rat × Rat) (fun ⟨q, r⟩ => Sz 4000 q ∧ Sz 4000 r) (fun ⟨q, r⟩ => [rNum K q, rNum K r]) (fun ⟨q, r⟩ => if r = 0 then .err cs.ZeroBottom else .ok (.val (rNum K (q / r))))
abbrev okr_over (K : PySem.W.Frag) : Rat × Rat → Ret := fun ⟨q, r⟩ => .val (rNum K (q / r))
theorem ok_over (T : Txt K mg cs) : Cal P w K mg base 3 "over" (sp_over K cs) := by
  refine cal_okX T.d_over sc_over (fun g => rfl) (fun _ _ _ _ _ _ us hl => match us, hl with | [_, _], _ => rfl) ?_
  rintro X rfl rfl rfl rfl rfl B Bf ⟨q, r⟩ F0 H0 D E tk hp R hnx
  by_cases hz : r = 0
  · refine go_retE (ex_call B tk (ok_ratio T) (by decide) (_, _) ?c_ratio_3 ?o_ratio_4 (da_cons (de_mulG ?m1 (CA.val (ca_call B (ok_top_of T) (by decide) _ trivial (da_cons (de_var B (i := 0) rfl rfl (.inl rfl)) da_nil) rfl)) (CA.val (ca_call B (ok_bottom_of T) (by decide) _ trivial (da_cons (de_var B (i := 1) rfl rfl (.inl rfl)) da_nil) rfl))) (da_cons (de_mulG ?m2 (CA.val (ca_call B (ok_bottom_of T) (by decide) _ trivial (da_cons (de_var B (i := 0) rfl rfl (.inl rfl)) da_nil) rfl)) (CA.val (ca_call B (ok_top_of T) (by decide) _ trivial (da_cons (de_var B (i := 1) rfl rfl (.inl rfl)) da_nil) rfl))) da_nil)) rfl) (fun F H σ en H1 s1 => R.er (C := cs.ZeroBottom) ?re5 H1 (en.gr.h.trans s1))
    (case m1 => grind [lg_mul, lg_add, lg_sub, lg_neg, Sz])
    (case m2 => grind [lg_mul, lg_add, lg_sub, lg_neg, Sz])
    (case c_ratio_3 => grind [lg_mul, Sz])
    (case o_ratio_4 => first | (subst hz; exact if_pos (by simp)) | exact if_neg (dn_ne hz))
    (case re5 => exact if_pos hz)
  refine go_ret (R.rt (ret := .val (rNum X.K (q / r))) ?ro6) (CA.val (ca_callO (okr_ratio X.K) B (ok_ratio T) (by decide) (_, _) ?c_ratio_9 ?o_ratio_10 (da_cons (de_mulG ?m7 (CA.val (ca_call B (ok_top_of T) (by decide) _ trivial (da_cons (de_var B (i := 0) rfl rfl (.inl rfl)) da_nil) rfl)) (CA.val (ca_call B (ok_bottom_of T) (by decide) _ trivial (da_cons (de_var B (i := 1) rfl rfl (.inl rfl)) da_nil) rfl))) (da_cons (de_mulG ?m8 (CA.val (ca_call B (ok_bottom_of T) (by decide) _ trivial (da_cons (de_var B (i := 0) rfl rfl (.inl rfl)) da_nil) rfl)) (CA.val (ca_call B (ok_top_of T) (by decide) _ trivial (da_cons (de_var B (i := 1) rfl rfl (.inl rfl)) da_nil) rfl))) da_nil)) rfl)) ?rs_1
  (case ro6 => exact if_neg hz)
  (case m7 => grind [lg_mul, lg_add, lg_sub, lg_neg, Sz])
  (case m8 => grind [lg_mul, lg_add, lg_sub, lg_neg, Sz])
  (case c_ratio_9 => grind [lg_mul, Sz])
  (case o_ratio_10 => first | (subst hz; exact if_pos (by simp)) | exact if_neg (dn_ne hz))
  (case rs_1 => exact Sub.of (by rw [r_over _ _ hz]))
theorem sc_less : FnScope ["x", "y"] ["x", "y"] (defScope s_less) := ⟨rfl, rfl, rfl, by decide +kernel, rfl, by decide +kernel, by decide +kernel⟩
def sp_less (K : PySem.W.Frag) (cs : Cs) : Sp := Pm (ι := Rat × Rat) (fun ⟨q, r⟩ => Sz 4000 q ∧ Sz 4000 r) (fun ⟨q, r⟩ => [rNum K q, rNum K r]) (fun ⟨q, r⟩ => .val (rBl (decide (q < r))))
theorem ok_less (T : Txt K mg cs) : Cal P w K mg base 3 "less" (sp_less K cs) := by
  refine cal_ok T.d_less sc_less (fun g => rfl) (fun _ _ _ _ _ _ us hl => match us, hl with | [_, _], _ => rfl) ?_
  rintro X rfl rfl rfl rfl rfl B Bf ⟨q, r⟩ F0 H0 D hp R hnx
  refine go_ret R (de_ltI (de_mulG ?m1 (CA.val (ca_call B (ok_top_of T) (by decide) _ trivial (da_cons (de_var B (i := 0) rfl rfl (.inl rfl)) da_nil) rfl)) (CA.val (ca_call B (ok_bottom_of T) (by decide) _ trivial (da_cons (de_var B (i := 1) rfl rfl (.inl rfl)) da_nil) rfl))) (de_mulG ?m2 (CA.val (ca_call B (ok_top_of T) (by decide) _ trivial (da_cons (de_var B (i := 1) rfl rfl (.inl rfl)) da_nil) rfl)) (CA.val (ca_call B (ok_bottom_of T) (by decide) _ trivial (da_cons (de_var B (i := 0) rfl rfl (.inl rfl)) da_nil) rfl)))) ?rs_1
  (case m1 => grind [lg_mul, lg_add, lg_sub, lg_neg, Sz])
  (case m2 => grind [lg_mul, lg_add, lg_sub, lg_neg, Sz])
  (case rs_1 => exact Sub.of (by rw [r_less]))
theorem sc_floor_of : FnScope ["number"] ["number"] (defScope s_floor_of) := ⟨rfl, rfl, rfl, by decide +kernel, rfl, by decide +kernel, by decide +kernel⟩
def sp_floor_of (K : PySem.W.Frag) (cs : Cs) : Sp := Pm (ι := Rat) (fun q => Sz 4000 q) (fun q => [rNum K q]) (fun q => .val (rInt q.floor))
theorem ok_floor_of (T : Txt K mg cs) : Cal P w K mg base 3 "floor_of" (sp_floor_of K cs) := by
  refine cal_ok T.d_floor_of sc_floor_of (fun g => rfl) (fun _ _ _ _ _ _ us hl => match us, hl with | [_], _ => rfl) ?_
  rintro X rfl rfl rfl rfl rfl B Bf q F0 H0 D hp R hnx
  refine go_ret R (de_divG ?z1 ?d2 (CA.val (ca_call B (ok_top_of T) (by decide) _ trivial (da_cons (de_var B (i := 0) rfl rfl (.inl rfl)) da_nil) rfl)) (CA.val (ca_call B (ok_bottom_of T) (by decide) _ trivial (da_cons (de_var B (i := 0) rfl rfl (.inl rfl)) da_nil) rfl))) ?rs_1
  (case z1 => exact den_neI q)
  (case d2 => grind [Sz])
  (case rs_1 => exact Sub.of (by rw [r_floor]))
theorem sc_ceiling_of : FnScope ["number"] ["number"] (defScope s_ceiling_of) := ⟨rfl, rfl, rfl, by decide +kernel, rfl, by decide +kernel, by decide +kernel⟩
def sp_ceiling_of (K : PySem.W.Frag) (cs : Cs) : Sp := Pm (ι := Rat) (fun q => Sz 4000 q) (fun q => [rNum K q]) (fun q => .val (rInt q.ceil))
theorem ok_ceiling_of (T : Txt K mg cs) : Cal P w K mg base 3 "ceiling_of" (sp_ceiling_of K cs) := by
  refine cal_ok T.d_ceiling_of sc_ceiling_of (fun g => rfl) (fun _ _ _ _ _ _ us hl => match us, hl with | [_], _ => rfl) ?_
  rintro X rfl rfl rfl rfl rfl B Bf q F0 H0 D hp R hnx
  refine go_ret R (de_neg (de_divG ?z1 ?d2 (de_neg (CA.val (ca_call B (ok_top_of T) (by decide) _ trivial (da_cons (de_var B (i := 0) rfl rfl (.inl rfl)) da_nil) rfl))) (CA.val (ca_call B (ok_bottom_of T) (by decide) _ trivial (da_cons (de_var B (i := 0) rfl rfl (.inl rfl)) da_nil) rfl)))) ?rs_1
  (case z1 => exact den_neI q)
  (case d2 => grind [Sz])
  (case rs_1 => exact Sub.of (by rw [r_ceil]))
theorem sc_common_bottom : FnScope ["numbers", "common", "number"] ["numbers"] (defScope s_common_bottom) := ⟨rfl, rfl, rfl, by decide +kernel, rfl, by decide +kernel, by decide +kernel⟩
def sp_common_bottom (K : PySem.W.Frag) (cs : Cs) : Sp := Pm (ι := List Rat) (fun qs => ∃ n, (∀ q ∈ qs, Sz n q) ∧ qs.length * (n + 1) < 9000 ∧ n < 9000) (fun qs => [rLst K (qs.map (rNum K))]) (fun qs => .val (rInt (lcmD qs : Nat)))
theorem ok_common_bottom (T : Txt K mg cs) : Cal P w K mg base 3 "common_bottom" (sp_common_bottom K cs) := by
  refine cal_ok T.d_common_bottom sc_common_bottom (fun g => rfl) (fun _ _ _ _ _ _ us hl => match us, hl with | [_], _ => rfl) ?_
  rintro X rfl rfl rfl rfl rfl B Bf qs F0 H0 D hp R hnx
  obtain ⟨n, hp1, hp2, hp3⟩ := hp
  refine go_set B (i := 1) de_int rfl (.inl rfl) ?go_1
  refine go_forS B (fun i => [(1, .im (rInt (lcmD (qs.take i) : Nat))), (2, .any)]) (fun i => True) (sr_listM (R := (rNum X.K)) (0 : Rat) (de_var B (i := 0) rfl rfl (.inl rfl))) _ (fun i hi => (dg_name B (i := 2) rfl (.inl rfl))) ?h0_2 ?j0_3 (fun F1 u i hi hj => ?gb_4) (fun hj => ?ge_5)
  (case h0_2 => refine .same ?_; refine .im ?h ?_; (case h => exact Sub.rfl); refine .any ?_; exact .nil)
  (case j0_3 => trivial)
  case gb_4 =>
    refine go_set B (i := 1) (de_lcm B T.m_lcm ?l1 ?l2 (de_var B (i := 1) rfl rfl (.inl rfl)) (CA.val (ca_call B (ok_bottom_of T) (by decide) _ trivial (da_cons (de_var B (i := 2) rfl rfl (.inl rfl)) da_nil) rfl)) rfl) rfl (.inl rfl) ?go_6
    (case l1 => first | exact lcmD_small hp1 hp2 (Nat.le_of_lt hi) | exact den_small hp1 hp3 hi)
    (case l2 => first | exact lcmD_small hp1 hp2 (Nat.le_of_lt hi) | exact den_small hp1 hp3 hi)
    refine go_turnS ?jn_7 ?ln_8
    (case jn_7 => trivial)
    (case ln_8 => refine .same ?_; refine .im ?h ?_; (case h => exact Sub.of (by rw [lcmD_step hi]; rfl)); refine .any ?_; exact .nil)
  case ge_5 =>
    refine go_ret R (de_var B (i := 1) rfl rfl (.inl rfl)) ?rs_9
    (case rs_9 => exact Sub.of (by rw [List.take_of_length_le (Nat.le_refl _)]))
theorem sc_without : FnScope ["rows", "lead", "cell", "row"] ["rows", "lead", "cell"] (defScope s_without) := ⟨rfl, rfl, rfl, by decide +kernel, rfl, by decide +kernel, by decide +kernel⟩
def sp_without (K : PySem.W.Frag) (cs : Cs) : Sp := Pm (ι := List (List Int) × List Int × Int × Nat) (fun ⟨rows, lead, c, n⟩ => (0 ≤ c ∧ c < n ∧ n ≤ 1000) ∧ rows.length ≤ 1000 ∧ (∀ r ∈ rows, RowOk n r) ∧ RowOk n lead) (fun ⟨rows, lead, c, n⟩ => [rLst K (rows.map (rRowS K)), rSeq K (lead.map rInt), rInt c]) (fun ⟨rows, lead, c, n⟩ => .lst ((wout rows lead c.toNat).map (rRowS K)))
theorem ok_without (T : Txt K mg cs) : Cal P w K mg base 3 "without" (sp_without K cs) := by
  refine cal_ok T.d_without sc_without (fun g => rfl) (fun _ _ _ _ _ _ us hl => match us, hl with | [_, _, _], _ => rfl) ?_
  rintro X rfl rfl rfl rfl rfl B Bf ⟨rows, lead, c, n⟩ F0 H0 D hp R hnx
  obtain ⟨hc, hrl, hro, hlo⟩ := hp
  have hc0 := hc.1
  have hc1 := hc.2.1
  refine go_retL R (DL.to (l' := List.map (fun l => rSeq X.K (List.map rInt l)) (wout rows lead c.toNat)) (dl_lc B [("row", 3)] (sr_listM (R := (fun l => rSeq X.K (List.map rInt l))) [] (de_var B (i := 0) rfl rfl (.inl rfl))) (blkOk_by (by decide +kernel)) _ (fun _ => true) (fun i : Nat => rRowS X.K (wo1 lead c.toNat (rows.getD i []))) ?sz6 (by decide) (fun _ _ _ _ _ B i hi => (dg_name B (i := 3) rfl (.inl rfl))) (fun _ _ _ _ _ B i hi => dts_nil) (fun _ _ _ _ _ B i hi hb => (DE.to (r' := rRowS X.K (wo1 lead c.toNat (rows.getD i []))) (de_if (dt_eqI (de_ixAM (R := rInt) (0 : Int) ?xl1 ?xh2 (de_var B (i := 3) rfl rfl (.inl rfl)) (de_var B (i := 2) rfl rfl (.inr (.inl rfl)))) de_int) (fun hc => DE.to (r' := rRowS X.K (wo1 lead c.toNat (rows.getD i []))) (de_var B (i := 3) rfl rfl (.inl rfl)) ?wa4) (fun hc => DE.to (r' := rRowS X.K (wo1 lead c.toNat (rows.getD i []))) (DE.sub (DL.froz (CA.lst (ca_call B (ok_lowered T) (by decide) (_, _, _, n) ?c_lowered_3 (da_cons (de_var B (i := 3) rfl rfl (.inl rfl)) (da_cons (de_var B (i := 1) rfl rfl (.inr (.inl rfl))) (da_cons (de_var B (i := 2) rfl rfl (.inr (.inl rfl))) da_nil))) rfl))) sub_lseq) ?wb5)) rfl))) ?cl7) ?rs_1
  (case xl1 => exact hc0)
  (case xh2 => have := (hro _ (getD_memL hi)).1; omega)
  (case c_lowered_3 => exact ⟨⟨hc0, hc1, by omega⟩, hro _ (getD_memL hi), hlo⟩)
  (case wa4 => exact congrArg (rRowS X.K) (wo1_t hc))
  (case wb5 => exact congrArg (rRowS X.K) (wo1_f hc))
  (case sz6 => exact Nat.lt_of_le_of_lt hrl (by decide))
  (case cl7 => exact wout_lc)
  (case rs_1 => rfl)
theorem sc_least_of : FnScope ["numbers", "least", "number"] ["numbers"] (defScope s_least_of) := ⟨rfl, rfl, rfl, by decide +kernel, rfl, by decide +kernel, by decide +kernel⟩
def sp_least_of (K : PySem.W.Frag) (cs : Cs) : Sp := Pm (ι := List Rat) (fun qs => ∀ q ∈ qs, Sz 4000 q) (fun qs => [rLst K (qs.map (rNum K))]) (fun qs => .val (rOpt K (minO qs)))
theorem ok_least_of (T : Txt K mg cs) : Cal P w K mg base 4 "least_of" (sp_least_of K cs) := by
  refine cal_ok T.d_least_of sc_least_of (fun g => rfl) (fun _ _ _ _ _ _ us hl => match us, hl with | [_], _ => rfl) ?_
  rintro X rfl rfl rfl rfl rfl B Bf qs F0 H0 D hp R hnx
  refine go_set B (i := 1) (de_e2o de_non) rfl (.inl rfl) ?go_1
  refine go_forS B (fun i => [(1, .im (rOpt X.K (minO (qs.take i)))), (2, .any)]) (fun i => True) (sr_listM (R := (rNum X.K)) (0 : Rat) (de_var B (i := 0) rfl rfl (.inl rfl))) _ (fun i hi => (dg_name B (i := 2) rfl (.inl rfl))) ?h0_2 ?j0_3 (fun F1 u i hi hj => ?gb_4) (fun hj => ?ge_5)
  (case h0_2 => refine .same ?_; refine .im ?h ?_; (case h => exact Sub.rfl); refine .any ?_; exact .nil)
  (case j0_3 => trivial)
  case gb_4 =>
    refine go_if (DW.t (dw_or (dt_isNo (de_var B (i := 1) rfl rfl (.inl rfl))) (fun hb1 => (dw_or1 (dt_val (CA.val (ca_call B (ok_less T) (by decide) (_, _) ?c_less_2 (da_cons (de_var B (i := 2) rfl rfl (.inl rfl)) (da_cons (de_o2n ?on1 (de_var B (i := 1) rfl rfl (.inl rfl))) da_nil)) rfl))))))) (fun hc => ?gt_6) (fun hc => ?gf_7)
    (case on1 => assumption)
    (case c_less_2 => exact minO_sz hp hi)
    case gt_6 =>
      skip
      refine go_set B (i := 1) (de_n2o (de_var B (i := 2) rfl rfl (.inl rfl))) rfl (.inl rfl) ?go_8
      refine go_then ?go_9
      refine go_turnS ?jn_10 ?ln_11
      (case jn_10 => trivial)
      (case ln_11 => refine .same ?_; refine .im ?h ?_; (case h => first | exact Sub.of (by rw [minO_step hi, stepMin, if_pos hc]) | exact Sub.of (by rw [minO_step hi, stepMin, if_neg (by rw [hc]; exact Bool.false_ne_true)])); refine .any ?_; exact .nil)
    case gf_7 =>
      skip
      refine go_then ?go_12
      refine go_turnS ?jn_13 ?ln_14
      (case jn_13 => trivial)
      (case ln_14 => refine .same ?_; refine .im ?h ?_; (case h => first | exact Sub.of (by rw [minO_step hi, stepMin, if_pos hc]) | exact Sub.of (by rw [minO_step hi, stepMin, if_neg (by rw [hc]; exact Bool.false_ne_true)])); refine .any ?_; exact .nil)
  case ge_5 =>
    refine go_ret R (de_var B (i := 1) rfl rfl (.inl rfl)) ?rs_15
    (case rs_15 => exact Sub.of (by rw [List.take_of_length_le (Nat.le_refl _)]))
theorem sc_scaled : FnScope ["numbers", "factor", "number"] ["numbers", "factor"] (defScope s_scaled) := ⟨rfl, rfl, rfl, by decide +kernel, rfl, by decide +kernel, by decide +kernel⟩
def sp_scaled (K : PySem.W.Frag) (cs : Cs) : Sp := Pm (ι := List Rat × Rat) (fun ⟨qs, m⟩ => (qs.length ≤ 1000 ∧ ∀ q ∈ qs, Sz 4000 q) ∧ Sz 4000 m) (fun ⟨qs, m⟩ => [rSeq K (qs.map (rNum K)), rNum K m]) (fun ⟨qs, m⟩ => .lst ((qs.map fun q => q * m).map (rNum K)))
theorem ok_scaled (T : Txt K mg cs) : Cal P w K mg base 4 "scaled" (sp_scaled K cs) := by
  refine cal_ok T.d_scaled sc_scaled (fun g => rfl) (fun _ _ _ _ _ _ us hl => match us, hl with | [_, _], _ => rfl) ?_
  rintro X rfl rfl rfl rfl rfl B Bf ⟨qs, m⟩ F0 H0 D hp R hnx
  refine go_retL R (DL.to (l' := List.map (rNum X.K) (qs.map fun q => q * m)) (dl_lc B [("number", 2)] (sr_seqM (R := (rNum X.K)) (0 : Rat) (de_var B (i := 0) rfl rfl (.inl rfl))) (blkOk_by (by decide +kernel)) _ (fun _ => true) (fun i : Nat => rNum X.K (qs.getD i 0 * m)) ?sz2 (by decide) (fun _ _ _ _ _ B i hi => (dg_name B (i := 2) rfl (.inl rfl))) (fun _ _ _ _ _ B i hi => dts_nil) (fun _ _ _ _ _ B i hi hb => (CA.val (ca_call B (ok_times T) (by decide) (_, _) ?c_times_1 (da_cons (de_var B (i := 2) rfl rfl (.inl rfl)) (da_cons (de_var B (i := 1) rfl rfl (.inr (.inl rfl))) da_nil)) rfl)))) ?cl3) ?rs_1
  (case c_times_1 => exact ⟨(hp.1.2 _ (getD_mem hi)).mono (by decide), hp.2.mono (by decide)⟩)
  (case sz2 => exact Nat.lt_of_le_of_lt hp.1.1 (by decide))
  (case cl3 => exact lc_num (g := fun q => q * m))
  (case rs_1 => rfl)
theorem sc_added : FnScope ["first", "second", "x", "y"] ["first", "second"] (defScope s_added) := ⟨rfl, rfl, rfl, by decide +kernel, rfl, by decide +kernel, by decide +kernel⟩
def sp_added (K : PySem.W.Frag) (cs : Cs) : Sp := Pm (ι := List Rat × List Rat) (fun ⟨xs, ys⟩ => (xs.length ≤ 1000 ∧ ∀ q ∈ xs, Sz 4000 q) ∧ ∀ q ∈ ys, Sz 4000 q) (fun ⟨xs, ys⟩ => [rLst K (xs.map (rNum K)), rLst K (ys.map (rNum K))]) (fun ⟨xs, ys⟩ => .lst ((zipM (· + ·) xs ys).map (rNum K)))
theorem ok_added (T : Txt K mg cs) : Cal P w K mg base 4 "added" (sp_added K cs) := by
  refine cal_ok T.d_added sc_added (fun g => rfl) (fun _ _ _ _ _ _ us hl => match us, hl with | [_, _], _ => rfl) ?_
  rintro X rfl rfl rfl rfl rfl B Bf ⟨xs, ys⟩ F0 H0 D hp R hnx
  refine go_retL R (DL.to (l' := List.map (rNum X.K) (zipM (· + ·) xs ys)) (dl_lc B [("x", 2), ("y", 3)] (sr_zipM (R := (rNum X.K)) (R2 := (rNum X.K)) (0 : Rat) (0 : Rat) B T.b_zip (de_var B (i := 0) rfl rfl (.inl rfl)) (de_var B (i := 1) rfl rfl (.inl rfl)) rfl) (blkOk_by (by decide +kernel)) _ (fun _ => true) (fun i : Nat => rNum X.K (xs.getD i 0 + ys.getD i 0)) ?sz2 (by decide) (fun _ _ _ _ _ B i hi => (dg_tup B (dgs_cons (dg_name B (i := 2) rfl (.inl rfl)) (dgs_cons (dg_name B (i := 3) rfl (.inl rfl)) dgs_nil)))) (fun _ _ _ _ _ B i hi => dts_nil) (fun _ _ _ _ _ B i hi hb => (CA.val (ca_call B (ok_plus T) (by decide) (_, _) ?c_plus_1 (da_cons (de_var B (i := 2) rfl rfl (.inl rfl)) (da_cons (de_var B (i := 3) rfl rfl (.inl rfl)) da_nil)) rfl)))) ?cl3) ?rs_1
  (case c_plus_1 => exact ⟨(hp.1.2 _ (getD_mem (by omega))).mono (by decide), (hp.2 _ (getD_mem (by omega))).mono (by decide)⟩)
  (case sz2 => exact Nat.lt_of_le_of_lt (Nat.le_trans (Nat.min_le_left _ _) hp.1.1) (by decide))
  (case cl3 => unfold zipM; rw [List.map_map, lc_true]; rfl)
  (case rs_1 => rfl)
theorem sc_primitive : FnScope ["numbers", "bottom", "number"] ["numbers"] (defScope s_primitive) := ⟨rfl, rfl, rfl, by decide +kernel, rfl, by decide +kernel, by decide +kernel⟩
def sp_primitive (K : PySem.W.Frag) (cs : Cs) : Sp := Pm (ι := List Rat) (fun qs => ∃ n, (∀ q ∈ qs, Sz n q) ∧ qs.length * (n + 1) + n < 8900 ∧ qs.length ≤ 1000) (fun qs => [rLst K (qs.map (rNum K))]) (fun qs => .lst ((prim qs).map rInt))
theorem ok_primitive (T : Txt K mg cs) : Cal P w K mg base 4 "primitive" (sp_primitive K cs) := by
  refine cal_ok T.d_primitive sc_primitive (fun g => rfl) (fun _ _ _ _ _ _ us hl => match us, hl with | [_], _ => rfl) ?_
  rintro X rfl rfl rfl rfl rfl B Bf qs F0 H0 D hp R hnx
  obtain ⟨n, hp1, hp2, hp3⟩ := hp
  refine go_set B (i := 1) (CA.val (ca_call B (ok_common_bottom T) (by decide) _ ?c_common_bottom_1 (da_cons (de_var B (i := 0) rfl rfl (.inl rfl)) da_nil) rfl)) rfl (.inr ⟨rfl, Bf _⟩) ?go_1
  (case c_common_bottom_1 => exact ⟨n, hp1, by omega, by omega⟩)
  refine go_retL R (CA.lst (ca_call B (ok_lowest T) (by decide) _ ?c_lowest_7 (da_cons (DL.froz (DL.to (l' := List.map rInt (tops qs)) (dl_lc B [("number", 2)] (sr_listM (R := (rNum X.K)) (0 : Rat) (de_var B (i := 0) rfl rfl (.inl rfl))) (blkOk_by (by decide +kernel)) _ (fun _ => true) (fun i : Nat => rInt (topq (lcmD qs) (qs.getD i 0))) ?sz5 (by decide) (fun _ _ _ _ _ B i hi => (dg_name B (i := 2) rfl (.inl rfl))) (fun _ _ _ _ _ B i hi => dts_nil) (fun _ _ _ _ _ B i hi hb => (de_mulG ?m4 (CA.val (ca_call B (ok_top_of T) (by decide) _ trivial (da_cons (de_var B (i := 2) rfl rfl (.inl rfl)) da_nil) rfl)) (de_divG ?z2 ?d3 (de_var B (i := 1) rfl rfl (.inr (.inl rfl))) (CA.val (ca_call B (ok_bottom_of T) (by decide) _ trivial (da_cons (de_var B (i := 2) rfl rfl (.inl rfl)) da_nil) rfl)))))) ?cl6)) da_nil) rfl)) ?rs_2
  (case z2 => exact den_neI _)
  (case d3 => exact Nat.lt_of_le_of_lt (hp1 _ (getD_mem hi)).2 (by omega))
  (case m4 => exact top_m hp1 (by omega) hi)
  (case sz5 => exact Nat.lt_of_le_of_lt hp3 (by decide))
  (case cl6 => exact lc_int)
  (case c_lowest_7 => exact ⟨by rw [tops_len]; exact hp3, fun x hx => tops_lg hp1 hp2 hx⟩)
  (case rs_2 => rfl)
theorem sc_cleared : FnScope ["rows", "cells", "kept", "leads", "rest", "cell", "at", "lead"] ["rows", "cells"] (defScope s_cleared) := ⟨rfl, rfl, rfl, by decide +kernel, rfl, by decide +kernel, by decide +kernel⟩
def sp_cleared (K : PySem.W.Frag) (cs : Cs) : Sp := Pm (ι := List (List Int) × List Int × Nat) (fun ⟨rows, cells, n⟩ => ClrOk n rows cells) (fun ⟨rows, cells, n⟩ => [rSeq K (rows.map (rRowS K)), rLst K (cells.map rInt)]) (fun ⟨rows, cells, n⟩ => .tfr K ((clr rows cells).K.map rInt) [rLst K ((clr rows cells).L.map (rRowS K)), rLst K ((clr rows cells).R.map (rRowS K))])
theorem ok_cleared (T : Txt K mg cs) : Cal P w K mg base 4 "cleared" (sp_cleared K cs) := by
  refine cal_ok T.d_cleared sc_cleared (fun g => rfl) (fun _ _ _ _ _ _ us hl => match us, hl with | [_, _], _ => rfl) ?_
  rintro X rfl rfl rfl rfl rfl B Bf ⟨rows, cells, n⟩ F0 H0 D hp R hnx
  refine @go_nf _ _ _ _ _ _ [_, _, _, _, _, _, _, _] rfl ?go_1
  refine go_par3 B (i1 := 2) (i2 := 3) (i3 := 4) (dl_lst da_nil (show (0 : Nat) ≤ sizeLine by decide)) (dl_lst da_nil (show (0 : Nat) ≤ sizeLine by decide)) (dl_listA B T.b_list (de_var B (i := 0) rfl rfl (.inl rfl)) rfl) rfl rfl rfl (by decide) (by decide) (by decide) rfl rfl rfl ?go_2 (fun env h => by cases env; subst h; with_unfolding_all rfl)
  refine @go_nf _ _ _ _ _ _ [_, _, _, _, _, _, _, _] rfl ?go_3
  refine go_froz 3 rfl ?go_4
  refine @go_nf _ _ _ _ _ _ [_, _, _, _, _, _, _, _] rfl ?go_5
  refine go_froz 4 rfl ?go_6
  refine @go_nf _ _ _ _ _ _ [_, _, _, _, _, _, _, _] rfl ?go_7
  refine go_forS B (fun i => [(2, .ow ((clr rows (cells.take i)).K.map rInt)), (3, .im (rLst X.K ((clr rows (cells.take i)).L.map (rRowS X.K)))), (4, .im (rLst X.K ((clr rows (cells.take i)).R.map (rRowS X.K)))), (5, .any), (6, .any), (7, .any)]) (fun i => True) (sr_listM (R := rInt) (0 : Int) (de_var B (i := 1) rfl rfl (.inl rfl))) _ (fun i hi => (dg_name B (i := 5) rfl (.inl rfl))) ?h0_8 ?j0_9 (fun F1 u i hi hj => ?gb_10) (fun hj => ?ge_11)
  (case h0_8 => refine .same ?_; refine .same ?_; refine .ow ?h ?_; (case h => rfl); refine .im ?h ?_; (case h => exact Sub.rfl); refine .im ?h ?_; (case h => exact Sub.rfl); refine .any ?_; refine .any ?_; refine .any ?_; exact .nil)
  (case j0_9 => trivial)
  case gb_10 =>
    refine @go_nf _ _ _ _ _ _ [_, _, _, _, _, _, _, _] rfl ?go_12
    have hin := hp.inn _ (getD_memI hi)
    have hok := hp.ok i (Nat.le_of_lt hi)
    have hct := hp.cnt i (Nat.le_of_lt hi)
    refine go_set B (i := 6) (CA.val (ca_call B (ok_lead_at T) (by decide) (_, _) ?c_lead_at_1 (da_cons (de_var B (i := 4) rfl rfl (.inl rfl)) (da_cons (de_var B (i := 5) rfl rfl (.inl rfl)) da_nil)) rfl)) rfl (.inl rfl) ?go_13
    (case c_lead_at_1 => exact ⟨hin.1, fun r hr => by have := (hok r (List.mem_append_right _ hr)).1; omega⟩)
    refine @go_nf _ _ _ _ _ _ [_, _, _, _, _, _, _, _] rfl ?go_14
    refine go_if (dt_oNot (R := rInt) (fun _ => notNon_int) (de_var B (i := 6) rfl rfl (.inl rfl))) (fun hc => ?gt_15) (fun hc => ?gf_16)
    case gt_15 =>
      have hn := hc
      have hat := at_lt hn
      refine go_set B (i := 7) (de_ixM (R := (fun l => rSeq X.K (List.map rInt l))) [] ?xl3 ?xh4 (de_var B (i := 4) rfl rfl (.inl rfl)) (de_oU (R := rInt) (0 : Int) ?oo2 (de_var B (i := 6) rfl rfl (.inl rfl)))) rfl (.inl rfl) ?go_17
      (case oo2 => exact nn_t hn)
      (case xl3 => exact hat.1)
      (case xh4 => have := hat; omega)
      refine @go_nf _ _ _ _ _ _ [_, _, _, _, _, _, _, _] rfl ?go_18
      refine go_append B (i := 2) rfl (de_var B (i := 5) rfl rfl (.inl rfl)) ?s5 rfl (.inl rfl) ?go_19
      (case s5 => first | exact Nat.lt_of_le_of_lt (show _ ≤ 3000 by simp [wout_len]; omega) (by decide) | exact Nat.le_trans (show _ ≤ 3000 by simp [wout_len]; omega) (by decide))
      refine @go_nf _ _ _ _ _ _ [_, _, _, _, _, _, _, _] rfl ?go_20
      refine go_setL B (i := 3) (dl_cat (CA.lst (ca_call B (ok_without T) (by decide) (_, _, _, n) ?c_without_6 (da_cons (de_var B (i := 3) rfl rfl (.inl rfl)) (da_cons (de_var B (i := 7) rfl rfl (.inl rfl)) (da_cons (de_var B (i := 5) rfl rfl (.inl rfl)) da_nil))) rfl)) (dl_lst (da_cons (de_var B (i := 7) rfl rfl (.inl rfl)) da_nil) (show (1 : Nat) ≤ sizeLine by decide)) ?s7) rfl (.inl rfl) ?go_21
      (case c_without_6 => first | exact cl_w1 hp.n1 hin hok hct hat.2 | exact cl_w2 hp.n1 hin hok hct hat.2 (by have := hat.1; omega))
      (case s7 => first | exact Nat.lt_of_le_of_lt (show _ ≤ 3000 by simp [wout_len]; omega) (by decide) | exact Nat.le_trans (show _ ≤ 3000 by simp [wout_len]; omega) (by decide))
      refine @go_nf _ _ _ _ _ _ [_, _, _, _, _, _, _, _] rfl ?go_22
      refine go_froz 3 rfl ?go_23
      refine @go_nf _ _ _ _ _ _ [_, _, _, _, _, _, _, _] rfl ?go_24
      refine go_setL B (i := 4) (CA.lst (ca_call B (ok_without T) (by decide) (_, _, _, n) ?c_without_13 (da_cons (DL.froz (dl_catM (dl_to (de_var B (i := 4) rfl rfl (.inl rfl)) ?sl9 (de_oU (R := rInt) (0 : Int) ?oo8 (de_var B (i := 6) rfl rfl (.inl rfl)))) (dl_from (de_var B (i := 4) rfl rfl (.inl rfl)) ?sl11 (de_add (de_oU (R := rInt) (0 : Int) ?oo10 (de_var B (i := 6) rfl rfl (.inl rfl))) de_int)) ?s12)) (da_cons (de_var B (i := 7) rfl rfl (.inl rfl)) (da_cons (de_var B (i := 5) rfl rfl (.inl rfl)) da_nil))) rfl)) rfl (.inl rfl) ?go_25
      (case oo8 => exact nn_t hn)
      (case sl9 => first | exact hat.1 | (have := hat.1; omega))
      (case oo10 => exact nn_t hn)
      (case sl11 => first | exact hat.1 | (have := hat.1; omega))
      (case s12 => first | exact Nat.lt_of_le_of_lt (show _ ≤ 3000 by simp [wout_len]; omega) (by decide) | exact Nat.le_trans (show _ ≤ 3000 by simp [wout_len]; omega) (by decide))
      (case c_without_13 => first | exact cl_w1 hp.n1 hin hok hct hat.2 | exact cl_w2 hp.n1 hin hok hct hat.2 (by have := hat.1; omega))
      refine @go_nf _ _ _ _ _ _ [_, _, _, _, _, _, _, _] rfl ?go_26
      refine go_froz 4 rfl ?go_27
      refine @go_nf _ _ _ _ _ _ [_, _, _, _, _, _, _, _] rfl ?go_28
      refine go_then ?go_29
      refine go_turnS ?jn_30 ?ln_31
      (case jn_30 => trivial)
      (case ln_31 => refine .same ?_; refine .same ?_; refine .ow ?h ?_; (case h => first | (rw [cl_t hi hn, List.map_append]; rfl) | rw [cl_f hi hn]); refine .im ?h ?_; (case h => first | exact Sub.of (by rw [cl_t hi hn, List.map_append]; rfl) | exact Sub.of (by rw [cl_f hi hn])); refine .im ?h ?_; (case h => first | exact Sub.of (by rw [cl_t hi hn]) | exact Sub.of (by rw [cl_f hi hn])); refine .any ?_; refine .any ?_; refine .any ?_; exact .nil)
    case gf_16 =>
      have hn := hc
      refine go_then ?go_32
      refine go_turnS ?jn_33 ?ln_34
      (case jn_33 => trivial)
      (case ln_34 => refine .same ?_; refine .same ?_; refine .ow ?h ?_; (case h => first | (rw [cl_t hi hn, List.map_append]; rfl) | rw [cl_f hi hn]); refine .im ?h ?_; (case h => first | exact Sub.of (by rw [cl_t hi hn, List.map_append]; rfl) | exact Sub.of (by rw [cl_f hi hn])); refine .im ?h ?_; (case h => first | exact Sub.of (by rw [cl_t hi hn]) | exact Sub.of (by rw [cl_f hi hn])); refine .any ?_; refine .any ?_; refine .any ?_; exact .nil)
  case ge_11 =>
    refine @go_nf _ _ _ _ _ _ [_, _, _, _, _, _, _, _] rfl ?go_35
    rw [List.take_length]
    refine go_retT B (i := 2) R rfl (da_cons (de_var B (i := 3) rfl rfl (.inl rfl)) (da_cons (de_var B (i := 4) rfl rfl (.inl rfl)) da_nil)) rfl (.inl rfl) (show (3 : Nat) ≤ sizeLine by decide)
theorem sc_is_empty : FnScope ["low", "high"] ["low", "high"] (defScope s_is_empty) := ⟨rfl, rfl, rfl, by decide +kernel, rfl, by decide +kernel, by decide +kernel⟩
def sp_is_empty (K : PySem.W.Frag) (cs : Cs) : Sp := Pm (ι := Option Rat × Option Rat) (fun ⟨lo, hi⟩ => SzO lo ∧ SzO hi) (fun ⟨lo, hi⟩ => [rOpt K lo, rOpt K hi]) (fun ⟨lo, hi⟩ => .val (rBl (emptyQ lo hi)))
theorem ok_is_empty (T : Txt K mg cs) : Cal P w K mg base 4 "is_empty" (sp_is_empty K cs) := by
  refine cal_ok T.d_is_empty sc_is_empty (fun g => rfl) (fun _ _ _ _ _ _ us hl => match us, hl with | [_, _], _ => rfl) ?_
  rintro X rfl rfl rfl rfl rfl B Bf ⟨lo, hi⟩ F0 H0 D hp R hnx
  refine go_ret R (de_and (de_notNo (de_var B (i := 0) rfl rfl (.inl rfl))) (fun hb1 => (de_and (de_notNo (de_var B (i := 1) rfl rfl (.inl rfl))) (fun hb2 => (de_one (CA.val (ca_call B (ok_less T) (by decide) (_, _) ?c_less_3 (da_cons (de_o2n ?on1 (de_var B (i := 1) rfl rfl (.inl rfl))) (da_cons (de_o2n ?on2 (de_var B (i := 0) rfl rfl (.inl rfl))) da_nil)) rfl))))))) ?rs_1
  (case on1 => first | (simpa using hb1) | (simpa using hb2))
  (case on2 => first | (simpa using hb1) | (simpa using hb2))
  (case c_less_3 => exact ⟨szo_get hp.2, szo_get hp.1⟩)
  (case rs_1 => exact Sub.of (by rw [empty_is]))
theorem sc_around : FnScope ["numbers", "number"] ["numbers"] (defScope s_around) := ⟨rfl, rfl, rfl, by decide +kernel, rfl, by decide +kernel, by decide +kernel⟩
def sp_around (K : PySem.W.Frag) (cs : Cs) : Sp := Pm (ι := List Rat) (fun qs => qs.length ≤ 1000 ∧ ∀ q ∈ qs, Sz 2000 q) (fun qs => [rLst K (qs.map (rNum K))]) (fun qs => .lst ((aroundQ qs).map (rRg K)))
theorem ok_around (T : Txt K mg cs) : Cal P w K mg base 4 "around" (sp_around K cs) := by
  refine cal_ok T.d_around sc_around (fun g => rfl) (fun _ _ _ _ _ _ us hl => match us, hl with | [_], _ => rfl) ?_
  rintro X rfl rfl rfl rfl rfl B Bf qs F0 H0 D hp R hnx
  refine go_retL R (DL.to (l' := List.map (rRg X.K) (aroundQ qs)) (dl_lc B [("number", 1)] (sr_listM (R := (rNum X.K)) (0 : Rat) (de_var B (i := 0) rfl rfl (.inl rfl))) (blkOk_by (by decide +kernel)) _ (fun _ => true) (fun i : Nat => rRg X.K (some (((qs.getD i 0).floor : Int) : Rat), some (((qs.getD i 0).ceil : Int) : Rat))) ?sz3 (by decide) (fun _ _ _ _ _ B i hi => (dg_name B (i := 1) rfl (.inl rfl))) (fun _ _ _ _ _ B i hi => dts_nil) (fun _ _ _ _ _ B i hi hb => (de_tup (da_cons (de_n2o (de_i2n (CA.val (ca_call B (ok_floor_of T) (by decide) _ ?c_floor_of_1 (da_cons (de_var B (i := 1) rfl rfl (.inl rfl)) da_nil) rfl)))) (da_cons (de_n2o (de_i2n (CA.val (ca_call B (ok_ceiling_of T) (by decide) _ ?c_ceiling_of_2 (da_cons (de_var B (i := 1) rfl rfl (.inl rfl)) da_nil) rfl)))) da_nil)) (show (2 : Nat) ≤ sizeLine by decide)))) ?cl4) ?rs_1
  (case c_floor_of_1 => exact (hp.2 _ (DL.getD_mem hi)).mono (by decide))
  (case c_ceiling_of_2 => exact (hp.2 _ (DL.getD_mem hi)).mono (by decide))
  (case sz3 => exact Nat.lt_of_le_of_lt hp.1 (by decide))
  (case cl4 => exact around_lc)
  (case rs_1 => rfl)
theorem sc_frame_of : FnScope ["rows", "size", "leads", "row", "lead"] ["rows", "size"] (defScope s_frame_of) := ⟨rfl, rfl, rfl, by decide +kernel, rfl, by decide +kernel, by decide +kernel⟩
def sp_frame_of (K : PySem.W.Frag) (cs : Cs) : Sp := Pm (ι := List (List Rat) × Nat) (fun ⟨rows, n⟩ => FrOk n rows) (fun ⟨rows, n⟩ => [rLst K (rows.map fun l => rLst K (l.map (rNum K))), rInt (n : Int)]) (fun ⟨rows, n⟩ => .val (rTup K ((frameQ rows n).map (rRowT K))))
theorem ok_frame_of (T : Txt K mg cs) : Cal P w K mg base 5 "frame_of" (sp_frame_of K cs) := by
  refine cal_ok T.d_frame_of sc_frame_of (fun g => rfl) (fun _ _ _ _ _ _ us hl => match us, hl with | [_, _], _ => rfl) ?_
  rintro X rfl rfl rfl rfl rfl B Bf ⟨rows, n⟩ F0 H0 D hp R hnx
  refine go_set B (i := 2) (de_ixT rfl (CA.tup (ca_call B (ok_cleared T) (by decide) (rows.map prim, upto n, n) ?c_cleared_7 (da_cons (DE.sub (DL.froz (DL.to (l' := List.map (fun l => rLst X.K (List.map rInt l)) (rows.map prim)) (dl_lc B [("row", 3)] (sr_listM (R := (fun l => rLst X.K (List.map (rNum X.K) l))) [] (de_var B (i := 0) rfl rfl (.inl rfl))) (blkOk_by (by decide +kernel)) _ (fun _ => true) (fun i : Nat => rLst X.K ((prim (rows.getD i [])).map rInt)) ?sz2 (by decide) (fun _ _ _ _ _ B i hi => (dg_name B (i := 3) rfl (.inl rfl))) (fun _ _ _ _ _ B i hi => dts_nil) (fun _ _ _ _ _ B i hi hb => (DL.froz (CA.lst (ca_call B (ok_primitive T) (by decide) _ ?c_primitive_1 (da_cons (de_var B (i := 3) rfl rfl (.inl rfl)) da_nil) rfl))))) ?cl3)) (Sub.trans (sub_lstM (R := (fun l => rLst X.K (List.map rInt l))) (R' := (fun l => rSeq X.K (List.map rInt l))) (fun _ => sub_lseq)) sub_lseq)) (da_cons (DL.froz (DL.to (l' := List.map rInt (upto n)) (dl_listRg B T.b_list T.b_range ?rg4 ?rg5 (de_var B (i := 1) rfl rfl (.inl rfl)) rfl rfl) ?cl6)) da_nil)) rfl)) de_int) rfl (.inl rfl) ?go_1
  (case c_primitive_1 => exact hp.pr _ (getD_memL hi))
  (case sz2 => first | exact Nat.lt_of_le_of_lt hp.n2 (by decide) | exact Nat.lt_of_le_of_lt (fr_len hp) (by decide))
  (case cl3 => first | exact prim_lc | exact upto_lc | exact lc_map)
  (case rg4 => first | exact Int.natCast_nonneg _ | exact Int.le_trans (Int.ofNat_le.mpr hp.n1) (by decide))
  (case rg5 => first | exact Int.natCast_nonneg _ | exact Int.le_trans (Int.ofNat_le.mpr hp.n1) (by decide))
  (case cl6 => first | exact prim_lc | exact upto_lc | exact lc_map)
  (case c_cleared_7 => exact hp.cl)
  refine go_ret R (de_tupS T.b_tuple B (DE.sub (DL.froz (DL.to (l' := List.map (fun l => rTup X.K (List.map rInt l)) (frameQ rows n)) (dl_lc B [("lead", 4)] (sr_listM (R := (fun l => rSeq X.K (List.map rInt l))) [] (de_var B (i := 2) rfl rfl (.inl rfl))) (blkOk_by (by decide +kernel)) _ (fun _ => true) (fun i : Nat => rRowT X.K ((frameQ rows n).getD i [])) ?sz8 (by decide) (fun _ _ _ _ _ B i hi => (dg_name B (i := 4) rfl (.inl rfl))) (fun _ _ _ _ _ B i hi => dts_nil) (fun _ _ _ _ _ B i hi hb => (de_tupS T.b_tuple B (de_var B (i := 4) rfl rfl (.inl rfl)) rfl))) ?cl9)) sub_lseq) rfl) ?rs_2
  (case sz8 => first | exact Nat.lt_of_le_of_lt hp.n2 (by decide) | exact Nat.lt_of_le_of_lt (fr_len hp) (by decide))
  (case cl9 => first | exact prim_lc | exact upto_lc | exact lc_map)
  (case rs_2 => exact Sub.rfl)
theorem sc_lies_within : FnScope ["number", "low", "high"] ["number", "low", "high"] (defScope s_lies_within) := ⟨rfl, rfl, rfl, by decide +kernel, rfl, by decide +kernel, by decide +kernel⟩
def sp_lies_within (K : PySem.W.Frag) (cs : Cs) : Sp := Pm (ι := Rat × Option Rat × Option Rat) (fun ⟨q, lo, hi⟩ => Sz 2000 q ∧ SzO lo ∧ SzO hi) (fun ⟨q, lo, hi⟩ => [rNum K q, rOpt K lo, rOpt K hi]) (fun ⟨q, lo, hi⟩ => .val (rBl (liesQ q lo hi)))
theorem ok_lies_within (T : Txt K mg cs) : Cal P w K mg base 5 "lies_within" (sp_lies_within K cs) := by
  refine cal_ok T.d_lies_within sc_lies_within (fun g => rfl) (fun _ _ _ _ _ _ us hl => match us, hl with | [_, _, _], _ => rfl) ?_
  rintro X rfl rfl rfl rfl rfl B Bf ⟨q, lo, hi⟩ F0 H0 D hp R hnx
  refine go_ret R (de_and (de_not (CA.val (ca_call B (ok_is_empty T) (by decide) (_, _) ?c_is_empty_1 (da_cons (de_var B (i := 1) rfl rfl (.inl rfl)) (da_cons (de_n2o (de_var B (i := 0) rfl rfl (.inl rfl))) da_nil)) rfl))) (fun hb1 => (de_one (de_not (CA.val (ca_call B (ok_is_empty T) (by decide) (_, _) ?c_is_empty_2 (da_cons (de_n2o (de_var B (i := 0) rfl rfl (.inl rfl))) (da_cons (de_var B (i := 2) rfl rfl (.inl rfl)) da_nil)) rfl)))))) ?rs_1
  (case c_is_empty_1 => first | exact ⟨hp.2.1, hp.1⟩ | exact ⟨hp.1, hp.2.2⟩)
  (case c_is_empty_2 => first | exact ⟨hp.2.1, hp.1⟩ | exact ⟨hp.1, hp.2.2⟩)
  (case rs_1 => exact Sub.rfl)
theorem sc_all_within : FnScope ["numbers", "box", "number", "low", "high"] ["numbers", "box"] (defScope s_all_within) := ⟨rfl, rfl, rfl, by decide +kernel, rfl, by decide +kernel, by decide +kernel⟩
def sp_all_within (K : PySem.W.Frag) (cs : Cs) : Sp := Pm (ι := List Rat × List Rg) (fun ⟨xs, bx⟩ => (∀ q ∈ xs, Sz 2000 q) ∧ (∀ p ∈ bx, SzR p) ∧ xs.length ≤ 1000 ∧ xs.length = bx.length) (fun ⟨xs, bx⟩ => [rLst K (xs.map (rNum K)), rLst K (bx.map (rRg K))]) (fun ⟨xs, bx⟩ => .val (rBl (withinQ xs bx)))
theorem ok_all_within (T : Txt K mg cs) : Cal P w K mg base 6 "all_within" (sp_all_within K cs) := by
  refine cal_ok T.d_all_within sc_all_within (fun g => rfl) (fun _ _ _ _ _ _ us hl => match us, hl with | [_, _], _ => rfl) ?_
  rintro X rfl rfl rfl rfl rfl B Bf ⟨xs, bx⟩ F0 H0 D hp R hnx
  refine go_ret R (de_allB B T.b_all (DL.froz (DL.to (l' := List.map rBl ((List.range (min xs.length bx.length)).map fun i => liesQ (xs.getD i 0) (bx.getD i (none, none)).1 (bx.getD i (none, none)).2)) (dl_lc B [("number", 2), ("low", 3), ("high", 4)] (sr_zipM (R := (rNum X.K)) (R2 := (rRg X.K)) (0 : Rat) ((none, none) : Rg) B T.b_zip (de_var B (i := 0) rfl rfl (.inl rfl)) (de_var B (i := 1) rfl rfl (.inl rfl)) rfl) (blkOk_by (by decide +kernel)) _ (fun _ => true) (fun i : Nat => rBl (liesQ (xs.getD i 0) (bx.getD i (none, none)).1 (bx.getD i (none, none)).2)) ?sz2 (by decide) (fun _ _ _ _ _ B i hi => (dg_tup B (dgs_cons (dg_name B (i := 2) rfl (.inl rfl)) (dgs_cons (dg_tup B (dgs_cons (dg_name B (i := 3) rfl (.inl rfl)) (dgs_cons (dg_name B (i := 4) rfl (.inl rfl)) dgs_nil))) dgs_nil)))) (fun _ _ _ _ _ B i hi => dts_nil) (fun _ _ _ _ _ B i hi hb => (CA.val (ca_call B (ok_lies_within T) (by decide) (_, _, _) ?c_lies_within_1 (da_cons (de_var B (i := 2) rfl rfl (.inl rfl)) (da_cons (de_var B (i := 3) rfl rfl (.inl rfl)) (da_cons (de_var B (i := 4) rfl rfl (.inl rfl)) da_nil))) rfl)))) ?cl3)) rfl) ?rs_1
  (case c_lies_within_1 => exact ⟨hp.1 _ (DL.getD_mem (by omega)), hp.2.1 _ (DL.getD_mem (d := ((none, none) : Rg)) (by omega))⟩)
  (case sz2 => exact Nat.lt_of_le_of_lt (Nat.le_trans (Nat.min_le_left _ _) hp.2.2.1) (by decide))
  (case cl3 => rw [lc_true, List.map_map]; rfl)
  (case rs_1 => exact Sub.of (by rw [within_is]))
theorem sc_Book : FnScope ["self", "names", "rows", "row"] ["self", "names", "rows"] (defScope s_Book) := ⟨rfl, rfl, rfl, by decide +kernel, rfl, by decide +kernel, by decide +kernel⟩
def sp_Book (K : PySem.W.Frag) (cs : Cs) : Sp := PmI (ι := List Str × List (List Rat)) cs.Book (fun ⟨names, rows⟩ => BookOk names rows) (fun ⟨names, rows⟩ => [rLst K (names.map rStr), rLst K (rows.map fun l => rLst K (l.map (rNum K)))]) ["names", "size", "frame"] (fun ⟨names, rows⟩ => if ¬ (1 ≤ names.length ∧ names.length ≤ 16) then .err cs.BadSize else if namesOk names = false then .err cs.BadName else if lensOk names.length rows = false then .err cs.BadSize else .ok [rTup K (names.map rStr), rInt ((names.length : Nat) : Int), rTup K ((frameQ rows names.length).map (rRowT K))])
abbrev okr_Book (K : PySem.W.Frag) : List Str × List (List Rat) → List Rep := fun ⟨names, rows⟩ => [rTup K (names.map rStr), rInt ((names.length : Nat) : Int), rTup K ((frameQ rows names.length).map (rRowT K))]
theorem ok_Book (T : Txt K mg cs) : CalI P w K mg base 6 "Book" cs.Book (sp_Book K cs) := by
  refine cal_okI T.i_Book sc_Book (fun g => rfl) (fun _ _ _ _ _ _ us hl => match us, hl with | [_, _, _], _ => rfl) ?_
  rintro X rfl rfl rfl rfl rfl B Bf ⟨names, rows⟩ F0 H0 H1 pa dx QE E tk hp nF n0 nd hne eH up R
  refine go_if (dt_not (dt_chain op_le b2_I0 op_le b2_I0 de_int (de_lenM B T.b_len (de_var B (i := 1) rfl rfl (.inl rfl)) rfl) (fun hch => (de_glob B (v := .int 16) T.c_MOST_CELLS rfl)))) (fun hc => ?gt_1) (fun hc => ?gf_2)
  case gt_1 =>
    replace hc := bk_f hc
    refine go_raise B tk T.x_BadSize rfl (fun F H σ en => PrI.er (D0 := cs.BadSize) R ?re1 H (up.trans en.gr.h))
    (case re1 => first | exact if_pos hc | exact (if_neg (fun z => z hs)).trans (if_pos hz1) | exact (if_neg (fun z => z hs)).trans ((if_neg hz1).trans (if_pos (lens_bad hi hr))))
  case gf_2 =>
    have hs := bk_t hc
    refine go_then ?go_3
    by_cases hz1 : namesOk names = false
    · refine go_exprE (ex_call B tk (ok_check_names T) (by decide) _ ?c_check_names_2 (if_pos hz1) (da_cons (de_var B (i := 1) rfl rfl (.inl rfl)) da_nil) rfl) (fun F H σ en H2 s1 => PrI.er (D0 := cs.BadName) R ?re3 H2 ((up.trans en.gr.h).trans s1))
      (case c_check_names_2 => exact ⟨hp.n1, hp.nl⟩)
      (case re3 => first | exact if_pos hc | exact (if_neg (fun z => z hs)).trans (if_pos hz1) | exact (if_neg (fun z => z hs)).trans ((if_neg hz1).trans (if_pos (lens_bad hi hr))))
    refine go_expr (CA.val (ca_callO (okr_check_names X.K) B (ok_check_names T) (by decide) _ ?c_check_names_4 (if_neg hz1) (da_cons (de_var B (i := 1) rfl rfl (.inl rfl)) da_nil) rfl)) ?go_4
    (case c_check_names_4 => exact ⟨hp.n1, hp.nl⟩)
    refine go_forS B (fun i => [(3, .any)]) (fun i => ∀ j, j < i → (rows.getD j []).length = names.length) (sr_listM (R := (fun l => rLst X.K (List.map (rNum X.K) l))) [] (de_var B (i := 2) rfl rfl (.inl rfl))) _ (fun i hi => (dg_name B (i := 3) rfl (.inl rfl))) ?h0_5 ?j0_6 (fun F1 u i hi hj => ?gb_7) (fun hj => ?ge_8)
    (case h0_5 => refine .same ?_; refine .same ?_; refine .same ?_; refine .any ?_; exact .nil)
    (case j0_6 => exact fun j hj => absurd hj (Nat.not_lt_zero j))
    case gb_7 =>
      refine go_if (dt_neI (de_lenM B T.b_len (de_var B (i := 3) rfl rfl (.inl rfl)) rfl) (de_lenM B T.b_len (de_var B (i := 1) rfl rfl (.inl rfl)) rfl)) (fun hc => ?gt_9) (fun hc => ?gf_10)
      case gt_9 =>
        have hr : ¬ (rows.getD i []).length = names.length := fun z => by rw [z] at hc; simp at hc
        refine go_raise B tk T.x_BadSize rfl (fun F H σ en => PrI.er (D0 := cs.BadSize) R ?re5 H (up.trans en.gr.h))
        (case re5 => first | exact if_pos hc | exact (if_neg (fun z => z hs)).trans (if_pos hz1) | exact (if_neg (fun z => z hs)).trans ((if_neg hz1).trans (if_pos (lens_bad hi hr))))
      case gf_10 =>
        have hr : (rows.getD i []).length = names.length := by have := nd_f hc; omega
        refine go_then ?go_11
        refine go_turnS ?jn_12 ?ln_13
        (case jn_12 => exact lens_more hj hr)
        (case ln_13 => refine .same ?_; refine .same ?_; refine .same ?_; refine .any ?_; exact .nil)
    case ge_8 =>
      refine go_fields n0 nd nF eH hne ?go_14
      refine fi_set B T.i_Book.o n0 rfl (de_tupS T.b_tuple B (DE.sub (de_var B (i := 1) rfl rfl (.inl rfl)) sub_lseq) rfl) (i := 0) rfl rfl (.inl rfl) ?go_15
      refine fi_set B T.i_Book.o n0 rfl (de_lenM B T.b_len (de_var B (i := 1) rfl rfl (.inl rfl)) rfl) (i := 0) rfl rfl (.inl rfl) ?go_16
      refine fi_set B T.i_Book.o n0 rfl (CA.val (ca_call B (ok_frame_of T) (by decide) (_, _) ?c_frame_of_6 (da_cons (de_var B (i := 2) rfl rfl (.inl rfl)) (da_cons (de_lenM B T.b_len (de_var B (i := 1) rfl rfl (.inl rfl)) rfl) da_nil)) rfl)) (i := 0) rfl rfl (.inl rfl) ?go_17
      (case c_frame_of_6 => exact hp.fr hs (lens_ok hj))
      refine fi_end (fun F H σ vs g nF hp hr => ?fe)
      (case fe => exact (PrI.ok R ((if_neg (fun z => z hs)).trans ((if_neg hz1).trans (if_neg (by rw [lens_ok hj]; exact Bool.noConfusion))))) F H vs g nF hp hr)
end K45

set_option Elab.async false
set_option linter.all false
set_option maxRecDepth 100000
set_option maxHeartbeats 4000000
namespace K45
open PySem PySem.Spec PyProof.Rows L2 DL
variable {P : Program} {w : World} {K : PySem.W.Frag} {mg : Str → Option Value} {base : Heap} {cs : Cs}
theorem sc_pivots : FnScope ["book", "row"] ["book"] (defScope s_pivots) := ⟨rfl, rfl, rfl, by decide +kernel, rfl, by decide +kernel, by decide +kernel⟩
def sp_pivots (K : PySem.W.Frag) (cs : Cs) : Sp := Pm (ι := Bk) (fun b => PvOk b) (fun b => [rBook K cs.Book b]) (fun b => .lst ((pivL b.frame).map rInt))
theorem ok_pivots (T : Txt K mg cs) : Cal P w K mg base 2 "pivots" (sp_pivots K cs) := by
  refine cal_ok T.d_pivots sc_pivots (fun g => rfl) (fun _ _ _ _ _ _ us hl => match us, hl with | [_], _ => rfl) ?_
  rintro X rfl rfl rfl rfl rfl B Bf b F0 H0 D hp R hnx
  have hl := hp.n
  refine go_retL R (DL.to (l' := List.map rInt (pivL b.frame)) (dl_lc B [("row", 1)] (sr_seqM (R := (fun l => rTup X.K (List.map rInt l))) [] (DE.sub (de_bkF T.i_Book.o (de_var B (i := 0) rfl rfl (.inl rfl))) sub_tseq)) (blkOk_by (by decide +kernel)) _ (fun _ => true) (fun i : Nat => rInt ((suppI (toQ (b.frame.getD i []))).getD 0 0)) ?sz4 (by decide) (fun _ _ _ _ _ B i hi => (dg_name B (i := 1) rfl (.inl rfl))) (fun _ _ _ _ _ B i hi => dts_nil) (fun _ _ _ _ _ B i hi hb => (de_ixM (R := rInt) (0 : Int) ?xl2 ?xh3 (DL.froz (CA.lst (ca_call B (ok_support T) (by decide) _ ?c_support_1 (da_cons (de_ti2sn (de_var B (i := 1) rfl rfl (.inl rfl))) da_nil) rfl))) de_int))) ?cl5) ?rs_1
  (case c_support_1 => rw [toQ_len]; exact hp.l _ (getD_memL hi))
  (case xl2 => decide)
  (case xh3 => have := hp.s _ (getD_memL hi); show (0 : Int) < ((suppI _).length : Nat); omega)
  (case sz4 => exact Nat.lt_of_le_of_lt hl (by decide))
  (case cl5 => exact piv_lc)
  (case rs_1 => rfl)
theorem sc_check_whole : FnScope ["numbers", "number"] ["numbers"] (defScope s_check_whole) := ⟨rfl, rfl, rfl, by decide +kernel, rfl, by decide +kernel, by decide +kernel⟩
def sp_check_whole (K : PySem.W.Frag) (cs : Cs) : Sp := PmX (ι := List Rat) (fun qs => qs.length ≤ 1000) (fun qs => [rLst K (qs.map (rNum K))]) (fun qs => if (qs.all fun q => decide (q.den = 1)) = false then .err cs.NotWhole else .ok (.val rNon))
abbrev okr_check_whole (K : PySem.W.Frag) : List Rat → Ret := fun qs => .val rNon
theorem ok_check_whole (T : Txt K mg cs) : Cal P w K mg base 2 "check_whole" (sp_check_whole K cs) := by
  refine cal_okX T.d_check_whole sc_check_whole (fun g => rfl) (fun _ _ _ _ _ _ us hl => match us, hl with | [_], _ => rfl) ?_
  rintro X rfl rfl rfl rfl rfl B Bf qs F0 H0 D E tk hp R hnx
  refine go_if (dt_not (dt_val (de_allB B T.b_all (DL.froz (DL.to (l' := List.map rBl (qs.map fun q => decide (q.den = 1))) (dl_lc B [("number", 1)] (sr_listM (R := (rNum X.K)) (0 : Rat) (de_var B (i := 0) rfl rfl (.inl rfl))) (blkOk_by (by decide +kernel)) _ (fun _ => true) (fun i : Nat => rBl (decide ((qs.getD i 0).den = 1))) ?sz1 (by decide) (fun _ _ _ _ _ B i hi => (dg_name B (i := 1) rfl (.inl rfl))) (fun _ _ _ _ _ B i hi => dts_nil) (fun _ _ _ _ _ B i hi hb => (CA.val (ca_call B (ok_is_whole T) (by decide) _ trivial (da_cons (de_var B (i := 1) rfl rfl (.inl rfl)) da_nil) rfl)))) ?cl2)) rfl))) (fun hc => ?gt_1) (fun hc => ?gf_2)
  (case sz1 => exact Nat.lt_of_le_of_lt hp (by decide))
  (case cl2 => exact wh_lc)
  case gt_1 =>
    have h2 := nn_t hc
    rw [wh_all] at h2
    refine go_raise B tk T.x_NotWhole rfl (fun F H σ en => R.er (C := cs.NotWhole) ?re3 H en.gr.h)
    (case re3 => exact if_pos h2)
  case gf_2 =>
    have h2 := nn_f hc
    rw [wh_all] at h2
    refine go_then ?go_3
    refine go_nil (fun F H σ en => (hnx σ H).symm ▸ (R.rt (ret := .val rNon) ?ro4) .non F H en.gr rfl)
    (case ro4 => exact if_neg (by rw [h2]; exact Bool.noConfusion))
theorem sc_table_of : FnScope ["book", "values", "entries", "table", "row", "entry", "value"] ["book", "values"] (defScope s_table_of) := ⟨rfl, rfl, rfl, by decide +kernel, rfl, by decide +kernel, by decide +kernel⟩
def sp_table_of (K : PySem.W.Frag) (cs : Cs) : Sp := PmX (ι := Bk × List Rat) (fun ⟨b, vs⟩ => PvOk b ∧ (vs.length = b.frame.length → TbOk b vs)) (fun ⟨b, vs⟩ => [rBook K cs.Book b, rLst K (vs.map (rNum K))]) (fun ⟨b, vs⟩ => if ¬ vs.length = b.frame.length then .err cs.BadSize else .ok (.lst ((tabL b.frame vs b.size).map (rNum K))))
abbrev okr_table_of (K : PySem.W.Frag) : Bk × List Rat → Ret := fun ⟨b, vs⟩ => .lst ((tabL b.frame vs b.size).map (rNum K))
theorem ok_table_of (T : Txt K mg cs) : Cal P w K mg base 5 "table_of" (sp_table_of K cs) := by
  refine cal_okX T.d_table_of sc_table_of (fun g => rfl) (fun _ _ _ _ _ _ us hl => match us, hl with | [_, _], _ => rfl) ?_
  rintro X rfl rfl rfl rfl rfl B Bf ⟨b, vs⟩ F0 H0 D E tk hp R hnx
  refine @go_nf _ _ _ _ _ _ [_, _, _, _, _, _, _] rfl ?go_1
  refine go_setL B (i := 2) (CA.lst (ca_call B (ok_pivots T) (by decide) _ ?c_pivots_1 (da_cons (de_var B (i := 0) rfl rfl (.inl rfl)) da_nil) rfl)) rfl (.inl rfl) ?go_2
  (case c_pivots_1 => exact hp.1)
  refine @go_nf _ _ _ _ _ _ [_, _, _, _, _, _, _] rfl ?go_3
  refine go_froz 2 rfl ?go_4
  refine @go_nf _ _ _ _ _ _ [_, _, _, _, _, _, _] rfl ?go_5
  refine go_if (dt_neI (de_lenM B T.b_len (de_var B (i := 1) rfl rfl (.inl rfl)) rfl) (de_lenM B T.b_len (de_var B (i := 2) rfl rfl (.inl rfl)) rfl)) (fun hc => ?gt_6) (fun hc => ?gf_7)
  case gt_6 =>
    have hv := tb_no hc
    refine go_raise B tk T.x_BadSize rfl (fun F H σ en => R.er (C := cs.BadSize) ?re2 H en.gr.h)
    (case re2 => exact if_pos hv)
  case gf_7 =>
    obtain ⟨hv, ht⟩ := tb_ok hp hc
    have hn := ht.n
    have hpl := pivL_len b.frame
    refine go_then ?go_8
    refine go_setL B (i := 3) (DL.to (l' := List.map (rNum X.K) (List.replicate b.size (0 : Rat))) (dl_rep (dl_lst (da_cons (de_i2n de_int) da_nil) (show (1 : Nat) ≤ sizeLine by decide)) (de_bkS T.i_Book.o (de_var B (i := 0) rfl rfl (.inl rfl))) ?rp3 ?rp4 ?rz5) ?cl6) rfl (.inl rfl) ?go_9
    (case rp3 => omega)
    (case rp4 => omega)
    (case rz5 => exact Nat.le_trans (show _ ≤ 1000 by simp; omega) (by decide))
    (case cl6 => exact rep0_lcN)
    refine @go_nf _ _ _ _ _ _ [_, _, _, _, _, _, _] rfl ?go_10
    refine go_forS B (fun i => [(3, .ow ((tabN b.frame vs b.size i).map (rNum X.K))), (4, .any), (5, .any), (6, .any)]) (fun i => True) (sr_zip3M (R := (fun l => rTup X.K (List.map rInt l))) (R2 := rInt) (R3 := (rNum X.K)) [] (0 : Int) (0 : Rat) B T.b_zip (DE.sub (de_bkF T.i_Book.o (de_var B (i := 0) rfl rfl (.inl rfl))) sub_tseq) (DE.sub (de_var B (i := 2) rfl rfl (.inl rfl)) sub_lseq) (DE.sub (de_var B (i := 1) rfl rfl (.inl rfl)) sub_lseq) rfl) _ (fun i hi => (dg_tup B (dgs_cons (dg_name B (i := 4) rfl (.inl rfl)) (dgs_cons (dg_name B (i := 5) rfl (.inl rfl)) (dgs_cons (dg_name B (i := 6) rfl (.inl rfl)) dgs_nil))))) ?h0_11 ?j0_12 (fun F1 u i hi hj => ?gb_13) (fun hj => ?ge_14)
    (case h0_11 => refine .same ?_; refine .same ?_; refine .same ?_; refine .ow ?h ?_; (case h => rfl); refine .any ?_; refine .any ?_; refine .any ?_; exact .nil)
    (case j0_12 => trivial)
    case gb_13 =>
      refine @go_nf _ _ _ _ _ _ [_, _, _, _, _, _, _] rfl ?go_15
      refine go_setL B (i := 3) (dl_lendF 3 rfl lfr_nums (CA.lst (ca_call B (ok_added T) (by decide) (_, _) ?c_added_12 (da_cons (de_var B (i := 3) rfl rfl (.inl rfl)) (da_cons (DL.froz (CA.lst (ca_call B (ok_scaled T) (by decide) (_, _) ?c_scaled_11 (da_cons (de_ti2sn (de_var B (i := 4) rfl rfl (.inl rfl))) (da_cons (CA.val (ca_callO (okr_over X.K) B (ok_over T) (by decide) (_, _) ?c_over_9 ?o_over_10 (da_cons (de_var B (i := 6) rfl rfl (.inl rfl)) (da_cons (de_i2n (de_ixAM (R := rInt) (0 : Int) ?xl7 ?xh8 (DE.sub (de_var B (i := 4) rfl rfl (.inl rfl)) sub_tseq) (de_var B (i := 5) rfl rfl (.inl rfl)))) da_nil)) rfl)) da_nil)) rfl))) da_nil)) rfl))) rfl (.inl rfl) ?go_16
      (case xl7 => exact (ht.pv i (by omega)).1)
      (case xh8 => rw [ht.row (by omega)]; exact (ht.pv i (by omega)).2.1)
      (case c_over_9 => exact ht.over (by omega) hv)
      (case o_over_10 => exact if_neg (ht.ne (by omega)))
      (case c_scaled_11 => exact ⟨⟨by rw [toQ_len, ht.row (by omega)]; exact hn, fun q hq => (ht.int (by omega) q hq).mono (by decide)⟩, (ht.s3 i (by omega)).mono (by decide)⟩)
      (case c_added_12 => exact ⟨⟨by rw [tabN_len ht.len i (by omega)]; exact hn, fun q hq => (ht.s5 i (by omega) q hq).mono (by decide)⟩, fun q hq => (ht.sc (by omega) q hq).mono (by decide)⟩)
      refine @go_nf _ _ _ _ _ _ [_, _, _, _, _, _, _] rfl ?go_17
      refine go_turnS ?jn_18 ?ln_19
      (case jn_18 => trivial)
      (case ln_19 => refine .same ?_; refine .same ?_; refine .same ?_; refine .ow ?h ?_; (case h => rfl); refine .any ?_; refine .any ?_; refine .any ?_; exact .nil)
    case ge_14 =>
      refine @go_nf _ _ _ _ _ _ [_, _, _, _, _, _, _] rfl ?go_20
      skip
      refine go_retV B (i := 3) (R.rt (ret := .lst ((tabL b.frame vs b.size).map (rNum X.K))) ?ro13) rfl ?rs_21 rfl (.inl rfl)
      (case ro13 => exact if_neg (fun z => z hv))
      (case rs_21 => rw [show min (min b.frame.length (pivL b.frame).length) vs.length = b.frame.length from by omega])
theorem sc_is_table : FnScope ["book", "numbers", "entry"] ["book", "numbers"] (defScope s_is_table) := ⟨rfl, rfl, rfl, by decide +kernel, rfl, by decide +kernel, by decide +kernel⟩
def sp_is_table (K : PySem.W.Frag) (cs : Cs) : Sp := PmX (ι := Bk × List Rat) (fun ⟨b, qs⟩ => PvOk b ∧ (qs.length = b.size → TbOk b ((pivL b.frame).map fun k => qs.getD k.toNat 0) ∧ qs.length ≤ 1000)) (fun ⟨b, qs⟩ => [rBook K cs.Book b, rLst K (qs.map (rNum K))]) (fun ⟨b, qs⟩ => if ¬ qs.length = b.size then .err cs.BadSize else .ok (.val (rBl (isTab b qs))))
abbrev okr_is_table (K : PySem.W.Frag) : Bk × List Rat → Ret := fun ⟨b, qs⟩ => .val (rBl (isTab b qs))
theorem ok_is_table (T : Txt K mg cs) : Cal P w K mg base 6 "is_table" (sp_is_table K cs) := by
  refine cal_okX T.d_is_table sc_is_table (fun g => rfl) (fun _ _ _ _ _ _ us hl => match us, hl with | [_, _], _ => rfl) ?_
  rintro X rfl rfl rfl rfl rfl B Bf ⟨b, qs⟩ F0 H0 D E tk hp R hnx
  refine go_if (dt_neI (de_lenM B T.b_len (de_var B (i := 1) rfl rfl (.inr (.inl rfl))) rfl) (de_bkS T.i_Book.o (de_var B (i := 0) rfl rfl (.inl rfl)))) (fun hc => ?gt_1) (fun hc => ?gf_2)
  case gt_1 =>
    have hv : ¬ qs.length = b.size := fun z => by rw [decide_eq_true (by omega)] at hc; cases hc
    refine go_raise B tk T.x_BadSize rfl (fun F H σ en => R.er (C := cs.BadSize) ?re1 H en.gr.h)
    (case re1 => exact if_pos hv)
  case gf_2 =>
    have hv : qs.length = b.size := by have := of_decide_eq_true (nn_f hc); omega
    obtain ⟨ht, hl⟩ := hp.2 hv
    refine go_then ?go_3
    refine go_ret (R.rt (ret := .val (rBl (isTab b qs))) ?ro2) (de_eqT (dat_lst dat_num) (by decide) B (DL.froz (CA.lst (ca_callO (okr_table_of X.K) B (ok_table_of T) (by decide) (_, _) ?c_table_of_8 ?o_table_of_9 (da_cons (de_var B (i := 0) rfl rfl (.inl rfl)) (da_cons (DL.froz (DL.to (l' := List.map (rNum X.K) ((pivL b.frame).map fun k => qs.getD k.toNat 0)) (dl_lc B [("entry", 2)] (sr_listM (R := rInt) (0 : Int) (DL.froz (CA.lst (ca_call B (ok_pivots T) (by decide) _ ?c_pivots_3 (da_cons (de_var B (i := 0) rfl rfl (.inl rfl)) da_nil) rfl)))) (blkOk_by (by decide +kernel)) _ (fun _ => true) (fun i : Nat => rNum X.K (qs.getD ((pivL b.frame).getD i 0).toNat 0)) ?sz6 (by decide) (fun _ _ _ _ _ B i hi => (dg_name B (i := 2) rfl (.inl rfl))) (fun _ _ _ _ _ B i hi => dts_nil) (fun _ _ _ _ _ B i hi hb => (de_ixM (R := (rNum X.K)) (0 : Rat) ?xl4 ?xh5 (de_var B (i := 1) rfl rfl (.inr (.inl rfl))) (de_var B (i := 2) rfl rfl (.inl rfl))))) ?cl7)) da_nil)) rfl))) (DL.froz (dl_list B T.b_list (de_var B (i := 1) rfl rfl (.inr (.inl rfl))) rfl))) ?rs_4
    (case ro2 => exact if_neg (fun z => z hv))
    (case c_pivots_3 => exact hp.1)
    (case xl4 => exact (ht.pv i (by rw [pivL_len] at hi; exact hi)).1)
    (case xh5 => rw [hv]; exact (ht.pv i (by rw [pivL_len] at hi; exact hi)).2.1)
    (case sz6 => rw [pivL_len]; exact Nat.lt_of_le_of_lt hp.1.n (by decide))
    (case cl7 => exact lc_map (f := fun k : Int => rNum X.K (qs.getD k.toNat 0)) |>.trans (by rw [List.map_map]; rfl))
    (case c_table_of_8 => exact ⟨hp.1, fun _ => ht⟩)
    (case o_table_of_9 => exact if_neg (fun z => z ((List.length_map _).trans (pivL_len _))))
    (case rs_4 => exact Sub.rfl)
theorem sc_check_table : FnScope ["book", "table"] ["book", "table"] (defScope s_check_table) := ⟨rfl, rfl, rfl, by decide +kernel, rfl, by decide +kernel, by decide +kernel⟩
def sp_check_table (K : PySem.W.Frag) (cs : Cs) : Sp := PmX (ι := Bk × List Rat) (fun ⟨b, qs⟩ => PvOk b ∧ (qs.length = b.size → TbOk b ((pivL b.frame).map fun k => qs.getD k.toNat 0) ∧ qs.length ≤ 1000)) (fun ⟨b, qs⟩ => [rBook K cs.Book b, rLst K (qs.map (rNum K))]) (fun ⟨b, qs⟩ => if ¬ qs.length = b.size then .err cs.BadSize else if isTab b qs = false then .err cs.NotTable else .ok (.val rNon))
abbrev okr_check_table (K : PySem.W.Frag) : Bk × List Rat → Ret := fun ⟨b, qs⟩ => .val rNon
theorem ok_check_table (T : Txt K mg cs) : Cal P w K mg base 7 "check_table" (sp_check_table K cs) := by
  refine cal_okX T.d_check_table sc_check_table (fun g => rfl) (fun _ _ _ _ _ _ us hl => match us, hl with | [_, _], _ => rfl) ?_
  rintro X rfl rfl rfl rfl rfl B Bf ⟨b, qs⟩ F0 H0 D E tk hp R hnx
  by_cases hz1 : ¬ qs.length = b.size
  · refine go_ifE (ext_not (ext_val (ex_call B tk (ok_is_table T) (by decide) (_, _) ?c_is_table_1 (if_pos hz1) (da_cons (de_var B (i := 0) rfl rfl (.inl rfl)) (da_cons (de_var B (i := 1) rfl rfl (.inl rfl)) da_nil)) rfl))) (fun F H σ en H1 s1 => R.er (C := cs.BadSize) ?re2 H1 (en.gr.h.trans s1))
    (case c_is_table_1 => exact hp)
    (case re2 => first | exact if_pos hz1 | exact (if_neg hz1).trans (if_pos h2))
  refine go_if (dt_not (dt_val (CA.val (ca_callO (okr_is_table X.K) B (ok_is_table T) (by decide) (_, _) ?c_is_table_3 (if_neg hz1) (da_cons (de_var B (i := 0) rfl rfl (.inl rfl)) (da_cons (de_var B (i := 1) rfl rfl (.inl rfl)) da_nil)) rfl)))) (fun hc => ?gt_1) (fun hc => ?gf_2)
  (case c_is_table_3 => exact hp)
  case gt_1 =>
    have h2 := nn_t hc
    refine go_raise B tk T.x_NotTable rfl (fun F H σ en => R.er (C := cs.NotTable) ?re4 H en.gr.h)
    (case re4 => first | exact if_pos hz1 | exact (if_neg hz1).trans (if_pos h2))
  case gf_2 =>
    have h2 := nn_f hc
    refine go_then ?go_3
    refine go_nil (fun F H σ en => (hnx σ H).symm ▸ (R.rt (ret := .val rNon) ?ro5) .non F H en.gr rfl)
    (case ro5 => exact (if_neg hz1).trans (if_neg (by rw [h2]; exact Bool.noConfusion)))
end K45

set_option Elab.async false
set_option linter.all false
set_option maxRecDepth 100000
set_option maxHeartbeats 4000000
namespace K45
open PySem PySem.Spec PyProof.Rows L2 DL
variable {P : Program} {w : World} {K : PySem.W.Frag} {mg : Str → Option Value} {base : Heap} {cs : Cs}
theorem sc_chance_at : FnScope ["number", "rounded"] ["number", "rounded"] (defScope s_chance_at) := ⟨rfl, rfl, rfl, by decide +kernel, rfl, by decide +kernel, by decide +kernel⟩
def sp_chance_at (K : PySem.W.Frag) (cs : Cs) : Sp := Pm (ι := Rat × Rat) (fun ⟨q, r⟩ => Sz 1000 q) (fun ⟨q, r⟩ => [rNum K q, rNum K r]) (fun ⟨q, r⟩ => .val (rNum K (chaQ q r)))
theorem ok_chance_at (T : Txt K mg cs) : Cal P w K mg base 4 "chance_at" (sp_chance_at K cs) := by
  refine cal_ok T.d_chance_at sc_chance_at (fun g => rfl) (fun _ _ _ _ _ _ us hl => match us, hl with | [_, _], _ => rfl) ?_
  rintro X rfl rfl rfl rfl rfl B Bf ⟨q, r⟩ F0 H0 D hp R hnx
  refine go_if (dt_eqN B (de_var B (i := 1) rfl rfl (.inl rfl)) (de_i2n (CA.val (ca_call B (ok_ceiling_of T) (by decide) _ ?c_ceiling_of_1 (da_cons (de_var B (i := 0) rfl rfl (.inl rfl)) da_nil) rfl)))) (fun hc => ?gt_1) (fun hc => ?gf_2)
  (case c_ceiling_of_1 => exact hp.mono (by decide))
  case gt_1 =>
    skip
    refine go_ret R (CA.val (ca_call B (ok_minus T) (by decide) (_, _) ?c_minus_3 (da_cons (de_var B (i := 0) rfl rfl (.inl rfl)) (da_cons (de_i2n (CA.val (ca_call B (ok_floor_of T) (by decide) _ ?c_floor_of_2 (da_cons (de_var B (i := 0) rfl rfl (.inl rfl)) da_nil) rfl))) da_nil)) rfl)) ?rs_3
    (case c_floor_of_2 => exact hp.mono (by decide))
    (case c_minus_3 => first | exact ⟨hp.mono (by decide), (sz_floor hp).mono (by decide)⟩ | exact ⟨(sz_ceil hp).mono (by decide), hp.mono (by decide)⟩)
    (case rs_3 => exact Sub.of (congrArg (rNum X.K) (cha_t hc)))
  case gf_2 =>
    skip
    refine go_then ?go_4
    refine go_ret R (CA.val (ca_call B (ok_minus T) (by decide) (_, _) ?c_minus_5 (da_cons (de_i2n (CA.val (ca_call B (ok_ceiling_of T) (by decide) _ ?c_ceiling_of_4 (da_cons (de_var B (i := 0) rfl rfl (.inl rfl)) da_nil) rfl))) (da_cons (de_var B (i := 0) rfl rfl (.inl rfl)) da_nil)) rfl)) ?rs_5
    (case c_ceiling_of_4 => exact hp.mono (by decide))
    (case c_minus_5 => first | exact ⟨hp.mono (by decide), (sz_floor hp).mono (by decide)⟩ | exact ⟨(sz_ceil hp).mono (by decide), hp.mono (by decide)⟩)
    (case rs_5 => exact Sub.of (congrArg (rNum X.K) (cha_f hc)))
theorem sc_lies_around : FnScope ["book", "numbers", "table"] ["book", "numbers", "table"] (defScope s_lies_around) := ⟨rfl, rfl, rfl, by decide +kernel, rfl, by decide +kernel, by decide +kernel⟩
def sp_lies_around (K : PySem.W.Frag) (cs : Cs) : Sp := Pm (ι := Bk × List Rat × List Rat) (fun ⟨b, qs, ts⟩ => (PvOk b ∧ (qs.length = b.size → TbOk b ((pivL b.frame).map fun k => qs.getD k.toNat 0) ∧ qs.length ≤ 1000)) ∧ ts.length = b.size ∧ (ts.length ≤ 1000 ∧ ∀ q ∈ ts, Sz 1000 q) ∧ ∀ q ∈ qs, Sz 1000 q) (fun ⟨b, qs, ts⟩ => [rBook K cs.Book b, rLst K (qs.map (rNum K)), rLst K (ts.map (rNum K))]) (fun ⟨b, qs, ts⟩ => .val (rBl (lieA b qs ts)))
theorem ok_lies_around (T : Txt K mg cs) : Cal P w K mg base 7 "lies_around" (sp_lies_around K cs) := by
  refine cal_ok T.d_lies_around sc_lies_around (fun g => rfl) (fun _ _ _ _ _ _ us hl => match us, hl with | [_, _, _], _ => rfl) ?_
  rintro X rfl rfl rfl rfl rfl B Bf ⟨b, qs, ts⟩ F0 H0 D hp R hnx
  refine go_ret R (de_and (de_eqI (de_lenM B T.b_len (de_var B (i := 1) rfl rfl (.inl rfl)) rfl) (de_bkS T.i_Book.o (de_var B (i := 0) rfl rfl (.inl rfl)))) (fun hb1 => (de_and (CA.val (ca_callO (okr_is_table X.K) B (ok_is_table T) (by decide) (_, _) ?c_is_table_1 ?o_is_table_2 (da_cons (de_var B (i := 0) rfl rfl (.inl rfl)) (da_cons (de_var B (i := 1) rfl rfl (.inl rfl)) da_nil)) rfl)) (fun hb2 => (de_one (CA.val (ca_call B (ok_all_within T) (by decide) (_, _) ?c_all_within_4 (da_cons (de_var B (i := 1) rfl rfl (.inl rfl)) (da_cons (DL.froz (CA.lst (ca_call B (ok_around T) (by decide) _ ?c_around_3 (da_cons (de_var B (i := 2) rfl rfl (.inl rfl)) da_nil) rfl))) da_nil)) rfl))))))) ?rs_1
  (case c_is_table_1 => exact hp.1)
  (case o_is_table_2 => exact if_neg (fun z => z (by have := of_decide_eq_true hb1; omega)))
  (case c_around_3 => exact ⟨hp.2.2.1.1, fun q hq => (hp.2.2.1.2 q hq).mono (by decide)⟩)
  (case c_all_within_4 => have e := of_decide_eq_true hb1; (have hl : qs.length = b.size := (by omega)); exact ⟨fun q hq => (hp.2.2.2 q hq).mono (by decide), around_sz hp.2.2.1.2, (hp.1.2 hl).2, by rw [around_len]; omega⟩)
  (case rs_1 => exact Sub.rfl)
theorem sc_is_rounding : FnScope ["book", "numbers", "table", "number"] ["book", "numbers", "table"] (defScope s_is_rounding) := ⟨rfl, rfl, rfl, by decide +kernel, rfl, by decide +kernel, by decide +kernel⟩
def sp_is_rounding (K : PySem.W.Frag) (cs : Cs) : Sp := Pm (ι := Bk × List Rat × List Rat) (fun ⟨b, qs, ts⟩ => (PvOk b ∧ (qs.length = b.size → TbOk b ((pivL b.frame).map fun k => qs.getD k.toNat 0) ∧ qs.length ≤ 1000)) ∧ ts.length = b.size ∧ (ts.length ≤ 1000 ∧ ∀ q ∈ ts, Sz 1000 q) ∧ ∀ q ∈ qs, Sz 1000 q) (fun ⟨b, qs, ts⟩ => [rBook K cs.Book b, rLst K (qs.map (rNum K)), rLst K (ts.map (rNum K))]) (fun ⟨b, qs, ts⟩ => .val (rBl (lieA b qs ts && whA qs)))
theorem ok_is_rounding (T : Txt K mg cs) : Cal P w K mg base 8 "is_rounding" (sp_is_rounding K cs) := by
  refine cal_ok T.d_is_rounding sc_is_rounding (fun g => rfl) (fun _ _ _ _ _ _ us hl => match us, hl with | [_, _, _], _ => rfl) ?_
  rintro X rfl rfl rfl rfl rfl B Bf ⟨b, qs, ts⟩ F0 H0 D hp R hnx
  refine go_ret R (de_and (CA.val (ca_call B (ok_lies_around T) (by decide) (_, _, _) ?c_lies_around_1 (da_cons (de_var B (i := 0) rfl rfl (.inl rfl)) (da_cons (de_var B (i := 1) rfl rfl (.inl rfl)) (da_cons (de_var B (i := 2) rfl rfl (.inl rfl)) da_nil))) rfl)) (fun hb1 => (de_one (de_allB B T.b_all (DL.froz (DL.to (l' := List.map rBl (qs.map fun q => decide (q.den = 1))) (dl_lc B [("number", 3)] (sr_listM (R := (rNum X.K)) (0 : Rat) (de_var B (i := 1) rfl rfl (.inl rfl))) (blkOk_by (by decide +kernel)) _ (fun _ => true) (fun i : Nat => rBl (decide ((qs.getD i 0).den = 1))) ?sz2 (by decide) (fun _ _ _ _ _ B i hi => (dg_name B (i := 3) rfl (.inl rfl))) (fun _ _ _ _ _ B i hi => dts_nil) (fun _ _ _ _ _ B i hi hb => (CA.val (ca_call B (ok_is_whole T) (by decide) _ trivial (da_cons (de_var B (i := 3) rfl rfl (.inl rfl)) da_nil) rfl)))) ?cl3)) rfl)))) ?rs_1
  (case c_lies_around_1 => exact hp)
  (case sz2 => have e := (lieA_len hb1); exact Nat.lt_of_le_of_lt (hp.1.2 e).2 (by decide))
  (case cl3 => exact wh_lc)
  (case rs_1 => exact Sub.of (by rw [wh_all]; rfl))
theorem sc_paper_chance : FnScope ["book", "table", "whole", "number", "rounded"] ["book", "table", "whole"] (defScope s_paper_chance) := ⟨rfl, rfl, rfl, by decide +kernel, rfl, by decide +kernel, by decide +kernel⟩
def sp_paper_chance (K : PySem.W.Frag) (cs : Cs) : Sp := PmX (ι := Bk × List Rat × List Rat) (fun ⟨b, ts, ws⟩ => ((PvOk b ∧ (ts.length = b.size → TbOk b ((pivL b.frame).map fun k => ts.getD k.toNat 0) ∧ ts.length ≤ 1000)) ∧ (PvOk b ∧ (ws.length = b.size → TbOk b ((pivL b.frame).map fun k => ws.getD k.toNat 0) ∧ ws.length ≤ 1000))) ∧ (ts.length ≤ 1000 ∧ ∀ q ∈ ts, Sz 800 q) ∧ (ws.length ≤ 1000 ∧ ∀ q ∈ ws, Sz 800 q)) (fun ⟨b, ts, ws⟩ => [rBook K cs.Book b, rLst K (ts.map (rNum K)), rLst K (ws.map (rNum K))]) (fun ⟨b, ts, ws⟩ => if ¬ ts.length = b.size then .err cs.BadSize else if isTab b ts = false then .err cs.NotTable else if ¬ ws.length = b.size then .err cs.BadSize else if isTab b ws = false then .err cs.NotTable else if whA ws = false then .err cs.NotWhole else if (lieA b ws ts && whA ws) = false then .err cs.NotRounding else .ok (.val (rNum K (chaM ts ws))))
abbrev okr_paper_chance (K : PySem.W.Frag) : Bk × List Rat × List Rat → Ret := fun ⟨b, ts, ws⟩ => .val (rNum K (chaM ts ws))
theorem ok_paper_chance (T : Txt K mg cs) : Cal P w K mg base 9 "paper_chance" (sp_paper_chance K cs) := by
  refine cal_okX T.d_paper_chance sc_paper_chance (fun g => rfl) (fun _ _ _ _ _ _ us hl => match us, hl with | [_, _, _], _ => rfl) ?_
  rintro X rfl rfl rfl rfl rfl B Bf ⟨b, ts, ws⟩ F0 H0 D E tk hp R hnx
  by_cases hz1 : ¬ ts.length = b.size
  · refine go_exprE (ex_call B tk (ok_check_table T) (by decide) (_, _) ?c_ct_1 (if_pos hz1) (da_cons (de_var B (i := 0) rfl rfl (.inl rfl)) (da_cons (de_var B (i := 1) rfl rfl (.inl rfl)) da_nil)) rfl) (fun F H σ en H1 s1 => R.er (C := cs.BadSize) ?re2 H1 (en.gr.h.trans s1))
    (case c_ct_1 => exact hp.1.1)
    (case re2 => first | exact (if_pos hz1) | exact (if_neg hz1).trans ((if_pos hz2)) | exact (if_neg hz1).trans ((if_neg hz2).trans ((if_pos hz3))) | exact (if_neg hz1).trans ((if_neg hz2).trans ((if_neg hz3).trans ((if_pos hz4)))) | exact (if_neg hz1).trans ((if_neg hz2).trans ((if_neg hz3).trans ((if_neg hz4).trans ((if_pos hz5))))) | exact (if_neg hz1).trans ((if_neg hz2).trans ((if_neg hz3).trans ((if_neg hz4).trans ((if_neg hz5).trans ((if_pos h2)))))))
  by_cases hz2 : isTab b ts = false
  · refine go_exprE (ex_call B tk (ok_check_table T) (by decide) (_, _) ?c_ct_3 ((if_neg hz1).trans (if_pos hz2)) (da_cons (de_var B (i := 0) rfl rfl (.inl rfl)) (da_cons (de_var B (i := 1) rfl rfl (.inl rfl)) da_nil)) rfl) (fun F H σ en H1 s1 => R.er (C := cs.NotTable) ?re4 H1 (en.gr.h.trans s1))
    (case c_ct_3 => exact hp.1.1)
    (case re4 => first | exact (if_pos hz1) | exact (if_neg hz1).trans ((if_pos hz2)) | exact (if_neg hz1).trans ((if_neg hz2).trans ((if_pos hz3))) | exact (if_neg hz1).trans ((if_neg hz2).trans ((if_neg hz3).trans ((if_pos hz4)))) | exact (if_neg hz1).trans ((if_neg hz2).trans ((if_neg hz3).trans ((if_neg hz4).trans ((if_pos hz5))))) | exact (if_neg hz1).trans ((if_neg hz2).trans ((if_neg hz3).trans ((if_neg hz4).trans ((if_neg hz5).trans ((if_pos h2)))))))
  refine go_expr (CA.val (ca_callO (okr_check_table X.K) B (ok_check_table T) (by decide) (_, _) ?c_ct_5 ((if_neg hz1).trans (if_neg hz2)) (da_cons (de_var B (i := 0) rfl rfl (.inl rfl)) (da_cons (de_var B (i := 1) rfl rfl (.inl rfl)) da_nil)) rfl)) ?go_1
  (case c_ct_5 => exact hp.1.1)
  by_cases hz3 : ¬ ws.length = b.size
  · refine go_exprE (ex_call B tk (ok_check_table T) (by decide) (_, _) ?c_cw_6 (if_pos hz3) (da_cons (de_var B (i := 0) rfl rfl (.inl rfl)) (da_cons (de_var B (i := 2) rfl rfl (.inl rfl)) da_nil)) rfl) (fun F H σ en H1 s1 => R.er (C := cs.BadSize) ?re7 H1 (en.gr.h.trans s1))
    (case c_cw_6 => exact hp.1.2)
    (case re7 => first | exact (if_pos hz1) | exact (if_neg hz1).trans ((if_pos hz2)) | exact (if_neg hz1).trans ((if_neg hz2).trans ((if_pos hz3))) | exact (if_neg hz1).trans ((if_neg hz2).trans ((if_neg hz3).trans ((if_pos hz4)))) | exact (if_neg hz1).trans ((if_neg hz2).trans ((if_neg hz3).trans ((if_neg hz4).trans ((if_pos hz5))))) | exact (if_neg hz1).trans ((if_neg hz2).trans ((if_neg hz3).trans ((if_neg hz4).trans ((if_neg hz5).trans ((if_pos h2)))))))
  by_cases hz4 : isTab b ws = false
  · refine go_exprE (ex_call B tk (ok_check_table T) (by decide) (_, _) ?c_cw_8 ((if_neg hz3).trans (if_pos hz4)) (da_cons (de_var B (i := 0) rfl rfl (.inl rfl)) (da_cons (de_var B (i := 2) rfl rfl (.inl rfl)) da_nil)) rfl) (fun F H σ en H1 s1 => R.er (C := cs.NotTable) ?re9 H1 (en.gr.h.trans s1))
    (case c_cw_8 => exact hp.1.2)
    (case re9 => first | exact (if_pos hz1) | exact (if_neg hz1).trans ((if_pos hz2)) | exact (if_neg hz1).trans ((if_neg hz2).trans ((if_pos hz3))) | exact (if_neg hz1).trans ((if_neg hz2).trans ((if_neg hz3).trans ((if_pos hz4)))) | exact (if_neg hz1).trans ((if_neg hz2).trans ((if_neg hz3).trans ((if_neg hz4).trans ((if_pos hz5))))) | exact (if_neg hz1).trans ((if_neg hz2).trans ((if_neg hz3).trans ((if_neg hz4).trans ((if_neg hz5).trans ((if_pos h2)))))))
  refine go_expr (CA.val (ca_callO (okr_check_table X.K) B (ok_check_table T) (by decide) (_, _) ?c_cw_10 ((if_neg hz3).trans (if_neg hz4)) (da_cons (de_var B (i := 0) rfl rfl (.inl rfl)) (da_cons (de_var B (i := 2) rfl rfl (.inl rfl)) da_nil)) rfl)) ?go_2
  (case c_cw_10 => exact hp.1.2)
  by_cases hz5 : whA ws = false
  · refine go_exprE (ex_call B tk (ok_check_whole T) (by decide) _ ?c_check_whole_11 (if_pos hz5) (da_cons (de_var B (i := 2) rfl rfl (.inl rfl)) da_nil) rfl) (fun F H σ en H1 s1 => R.er (C := cs.NotWhole) ?re12 H1 (en.gr.h.trans s1))
    (case c_check_whole_11 => exact hp.2.2.1)
    (case re12 => first | exact (if_pos hz1) | exact (if_neg hz1).trans ((if_pos hz2)) | exact (if_neg hz1).trans ((if_neg hz2).trans ((if_pos hz3))) | exact (if_neg hz1).trans ((if_neg hz2).trans ((if_neg hz3).trans ((if_pos hz4)))) | exact (if_neg hz1).trans ((if_neg hz2).trans ((if_neg hz3).trans ((if_neg hz4).trans ((if_pos hz5))))) | exact (if_neg hz1).trans ((if_neg hz2).trans ((if_neg hz3).trans ((if_neg hz4).trans ((if_neg hz5).trans ((if_pos h2)))))))
  refine go_expr (CA.val (ca_callO (okr_check_whole X.K) B (ok_check_whole T) (by decide) _ ?c_check_whole_13 (if_neg hz5) (da_cons (de_var B (i := 2) rfl rfl (.inl rfl)) da_nil) rfl)) ?go_3
  (case c_check_whole_13 => exact hp.2.2.1)
  refine go_if (dt_not (dt_val (CA.val (ca_call B (ok_is_rounding T) (by decide) (_, _, _) ?c_is_rounding_14 (da_cons (de_var B (i := 0) rfl rfl (.inl rfl)) (da_cons (de_var B (i := 2) rfl rfl (.inl rfl)) (da_cons (de_var B (i := 1) rfl rfl (.inl rfl)) da_nil))) rfl)))) (fun hc => ?gt_4) (fun hc => ?gf_5)
  (case c_is_rounding_14 => exact ⟨hp.1.2, Classical.not_not.mp hz1, ⟨hp.2.1.1, fun q hq => (hp.2.1.2 q hq).mono (by decide)⟩, fun q hq => (hp.2.2.2 q hq).mono (by decide)⟩)
  case gt_4 =>
    have h2 := nn_t hc
    refine go_raise B tk T.x_NotRounding rfl (fun F H σ en => R.er (C := cs.NotRounding) ?re15 H en.gr.h)
    (case re15 => first | exact (if_pos hz1) | exact (if_neg hz1).trans ((if_pos hz2)) | exact (if_neg hz1).trans ((if_neg hz2).trans ((if_pos hz3))) | exact (if_neg hz1).trans ((if_neg hz2).trans ((if_neg hz3).trans ((if_pos hz4)))) | exact (if_neg hz1).trans ((if_neg hz2).trans ((if_neg hz3).trans ((if_neg hz4).trans ((if_pos hz5))))) | exact (if_neg hz1).trans ((if_neg hz2).trans ((if_neg hz3).trans ((if_neg hz4).trans ((if_neg hz5).trans ((if_pos h2)))))))
  case gf_5 =>
    have h2 := nn_f hc
    refine go_then ?go_6
    refine go_ret (R.rt (ret := .val (rNum X.K (chaM ts ws))) ?ro16) (de_o2n ?on23 (CA.val (ca_call B (ok_least_of T) (by decide) _ ?c_least_of_22 (da_cons (DL.froz (DL.to (l' := List.map (rNum X.K) (((1 : Int) : Rat) :: chaL ts ws)) (dl_catH ?cz20 (DL.hfz (dl_lst (da_cons (de_i2n de_int) da_nil) (show (1 : Nat) ≤ sizeLine by decide))) (DL.hfz (DL.to (l' := List.map (rNum X.K) (chaL ts ws)) (dl_lc B [("number", 3), ("rounded", 4)] (sr_zipM (R := (rNum X.K)) (R2 := (rNum X.K)) (0 : Rat) (0 : Rat) B T.b_zip (de_var B (i := 1) rfl rfl (.inl rfl)) (de_var B (i := 2) rfl rfl (.inl rfl)) rfl) (blkOk_by (by decide +kernel)) _ _ (fun i : Nat => rNum X.K (chaQ (ts.getD i 0) (ws.getD i 0))) ?sz18 (by decide) (fun _ _ _ _ _ B i hi => (dg_tup B (dgs_cons (dg_name B (i := 3) rfl (.inl rfl)) (dgs_cons (dg_name B (i := 4) rfl (.inl rfl)) dgs_nil)))) (fun _ _ _ _ _ B i hi => (dts_one (dt_not (dt_val (CA.val (ca_call B (ok_is_whole T) (by decide) _ trivial (da_cons (de_var B (i := 3) rfl rfl (.inl rfl)) da_nil) rfl)))))) (fun _ _ _ _ _ B i hi hb => (CA.val (ca_call B (ok_chance_at T) (by decide) (_, _) ?c_chance_at_17 (da_cons (de_var B (i := 3) rfl rfl (.inl rfl)) (da_cons (de_var B (i := 4) rfl rfl (.inl rfl)) da_nil)) rfl)))) ?cl19))) ?cl21)) da_nil) rfl))) ?rs_7
    (case ro16 => exact (if_neg hz1).trans ((if_neg hz2).trans ((if_neg hz3).trans ((if_neg hz4).trans ((if_neg hz5).trans ((if_neg (by rw [h2]; exact Bool.noConfusion))))))))
    (case c_chance_at_17 => exact (hp.2.1.2 _ (DL.getD_mem (by omega))).mono (by decide))
    (case sz18 => exact Nat.lt_of_le_of_lt (Nat.le_trans (Nat.min_le_left _ _) hp.2.1.1) (by decide))
    (case cl19 => first | exact cha_lc | exact chaM_lc)
    (case cz20 => rw [List.length_map]; have h0 := chaL_len ts ws; have h9 := hp.2.1.1; exact Nat.le_trans (show _ ≤ 1001 by simp; omega) (by decide))
    (case cl21 => first | exact cha_lc | exact chaM_lc)
    (case c_least_of_22 => exact fun q hq => (chaL_sz hp.2.1.2 q hq).mono (by decide))
    (case on23 => exact minO_ne)
    (case rs_7 => exact Sub.rfl)
theorem sc_rest_after : FnScope ["book", "table", "whole", "chance", "rest"] ["book", "table", "whole"] (defScope s_rest_after) := ⟨rfl, rfl, rfl, by decide +kernel, rfl, by decide +kernel, by decide +kernel⟩
def sp_rest_after (K : PySem.W.Frag) (cs : Cs) : Sp := PmX (ι := Bk × List Rat × List Rat) (fun ⟨b, ts, ws⟩ => ((PvOk b ∧ (ts.length = b.size → TbOk b ((pivL b.frame).map fun k => ts.getD k.toNat 0) ∧ ts.length ≤ 1000)) ∧ (PvOk b ∧ (ws.length = b.size → TbOk b ((pivL b.frame).map fun k => ws.getD k.toNat 0) ∧ ws.length ≤ 1000))) ∧ (ts.length ≤ 1000 ∧ ∀ q ∈ ts, Sz 800 q) ∧ (ws.length ≤ 1000 ∧ ∀ q ∈ ws, Sz 800 q)) (fun ⟨b, ts, ws⟩ => [rBook K cs.Book b, rLst K (ts.map (rNum K)), rLst K (ws.map (rNum K))]) (fun ⟨b, ts, ws⟩ => if ¬ ts.length = b.size then .err cs.BadSize else if isTab b ts = false then .err cs.NotTable else if ¬ ws.length = b.size then .err cs.BadSize else if isTab b ws = false then .err cs.NotTable else if whA ws = false then .err cs.NotWhole else if (lieA b ws ts && whA ws) = false then .err cs.NotRounding else if chaM ts ws = 1 then .err cs.BadChance else .ok (.lst ((restQ ts ws).map (rNum K))))
abbrev okr_rest_after (K : PySem.W.Frag) : Bk × List Rat × List Rat → Ret := fun ⟨b, ts, ws⟩ => .lst ((restQ ts ws).map (rNum K))
theorem ok_rest_after (T : Txt K mg cs) : Cal P w K mg base 10 "rest_after" (sp_rest_after K cs) := by
  refine cal_okX T.d_rest_after sc_rest_after (fun g => rfl) (fun _ _ _ _ _ _ us hl => match us, hl with | [_, _, _], _ => rfl) ?_
  rintro X rfl rfl rfl rfl rfl B Bf ⟨b, ts, ws⟩ F0 H0 D E tk hp R hnx
  by_cases hz1 : ¬ ts.length = b.size
  · refine go_setE B (ex_call B tk (ok_paper_chance T) (by decide) (_, _, _) ?c_paper_chance_1 (if_pos hz1) (da_cons (de_var B (i := 0) rfl rfl (.inl rfl)) (da_cons (de_var B (i := 1) rfl rfl (.inl rfl)) (da_cons (de_var B (i := 2) rfl rfl (.inl rfl)) da_nil))) rfl) (i := 3) rfl (.inl rfl) (fun F H σ en H1 s1 => R.er (C := cs.BadSize) ?re2 H1 (en.gr.h.trans s1))
    (case c_paper_chance_1 => exact hp)
    (case re2 => first | exact (if_pos hz1) | exact (if_neg hz1).trans ((if_pos hz2)) | exact (if_neg hz1).trans ((if_neg hz2).trans ((if_pos hz3))) | exact (if_neg hz1).trans ((if_neg hz2).trans ((if_neg hz3).trans ((if_pos hz4)))) | exact (if_neg hz1).trans ((if_neg hz2).trans ((if_neg hz3).trans ((if_neg hz4).trans ((if_pos hz5))))) | exact (if_neg hz1).trans ((if_neg hz2).trans ((if_neg hz3).trans ((if_neg hz4).trans ((if_neg hz5).trans ((if_pos hz6)))))) | exact (if_neg hz1).trans ((if_neg hz2).trans ((if_neg hz3).trans ((if_neg hz4).trans ((if_neg hz5).trans ((if_neg hz6).trans ((if_pos h2))))))))
  by_cases hz2 : isTab b ts = false
  · refine go_setE B (ex_call B tk (ok_paper_chance T) (by decide) (_, _, _) ?c_paper_chance_3 ((if_neg hz1).trans (if_pos hz2)) (da_cons (de_var B (i := 0) rfl rfl (.inl rfl)) (da_cons (de_var B (i := 1) rfl rfl (.inl rfl)) (da_cons (de_var B (i := 2) rfl rfl (.inl rfl)) da_nil))) rfl) (i := 3) rfl (.inl rfl) (fun F H σ en H1 s1 => R.er (C := cs.NotTable) ?re4 H1 (en.gr.h.trans s1))
    (case c_paper_chance_3 => exact hp)
    (case re4 => first | exact (if_pos hz1) | exact (if_neg hz1).trans ((if_pos hz2)) | exact (if_neg hz1).trans ((if_neg hz2).trans ((if_pos hz3))) | exact (if_neg hz1).trans ((if_neg hz2).trans ((if_neg hz3).trans ((if_pos hz4)))) | exact (if_neg hz1).trans ((if_neg hz2).trans ((if_neg hz3).trans ((if_neg hz4).trans ((if_pos hz5))))) | exact (if_neg hz1).trans ((if_neg hz2).trans ((if_neg hz3).trans ((if_neg hz4).trans ((if_neg hz5).trans ((if_pos hz6)))))) | exact (if_neg hz1).trans ((if_neg hz2).trans ((if_neg hz3).trans ((if_neg hz4).trans ((if_neg hz5).trans ((if_neg hz6).trans ((if_pos h2))))))))
  by_cases hz3 : ¬ ws.length = b.size
  · refine go_setE B (ex_call B tk (ok_paper_chance T) (by decide) (_, _, _) ?c_paper_chance_5 ((if_neg hz1).trans ((if_neg hz2).trans (if_pos hz3))) (da_cons (de_var B (i := 0) rfl rfl (.inl rfl)) (da_cons (de_var B (i := 1) rfl rfl (.inl rfl)) (da_cons (de_var B (i := 2) rfl rfl (.inl rfl)) da_nil))) rfl) (i := 3) rfl (.inl rfl) (fun F H σ en H1 s1 => R.er (C := cs.BadSize) ?re6 H1 (en.gr.h.trans s1))
    (case c_paper_chance_5 => exact hp)
    (case re6 => first | exact (if_pos hz1) | exact (if_neg hz1).trans ((if_pos hz2)) | exact (if_neg hz1).trans ((if_neg hz2).trans ((if_pos hz3))) | exact (if_neg hz1).trans ((if_neg hz2).trans ((if_neg hz3).trans ((if_pos hz4)))) | exact (if_neg hz1).trans ((if_neg hz2).trans ((if_neg hz3).trans ((if_neg hz4).trans ((if_pos hz5))))) | exact (if_neg hz1).trans ((if_neg hz2).trans ((if_neg hz3).trans ((if_neg hz4).trans ((if_neg hz5).trans ((if_pos hz6)))))) | exact (if_neg hz1).trans ((if_neg hz2).trans ((if_neg hz3).trans ((if_neg hz4).trans ((if_neg hz5).trans ((if_neg hz6).trans ((if_pos h2))))))))
  by_cases hz4 : isTab b ws = false
  · refine go_setE B (ex_call B tk (ok_paper_chance T) (by decide) (_, _, _) ?c_paper_chance_7 ((if_neg hz1).trans ((if_neg hz2).trans ((if_neg hz3).trans (if_pos hz4)))) (da_cons (de_var B (i := 0) rfl rfl (.inl rfl)) (da_cons (de_var B (i := 1) rfl rfl (.inl rfl)) (da_cons (de_var B (i := 2) rfl rfl (.inl rfl)) da_nil))) rfl) (i := 3) rfl (.inl rfl) (fun F H σ en H1 s1 => R.er (C := cs.NotTable) ?re8 H1 (en.gr.h.trans s1))
    (case c_paper_chance_7 => exact hp)
    (case re8 => first | exact (if_pos hz1) | exact (if_neg hz1).trans ((if_pos hz2)) | exact (if_neg hz1).trans ((if_neg hz2).trans ((if_pos hz3))) | exact (if_neg hz1).trans ((if_neg hz2).trans ((if_neg hz3).trans ((if_pos hz4)))) | exact (if_neg hz1).trans ((if_neg hz2).trans ((if_neg hz3).trans ((if_neg hz4).trans ((if_pos hz5))))) | exact (if_neg hz1).trans ((if_neg hz2).trans ((if_neg hz3).trans ((if_neg hz4).trans ((if_neg hz5).trans ((if_pos hz6)))))) | exact (if_neg hz1).trans ((if_neg hz2).trans ((if_neg hz3).trans ((if_neg hz4).trans ((if_neg hz5).trans ((if_neg hz6).trans ((if_pos h2))))))))
  by_cases hz5 : whA ws = false
  · refine go_setE B (ex_call B tk (ok_paper_chance T) (by decide) (_, _, _) ?c_paper_chance_9 ((if_neg hz1).trans ((if_neg hz2).trans ((if_neg hz3).trans ((if_neg hz4).trans (if_pos hz5))))) (da_cons (de_var B (i := 0) rfl rfl (.inl rfl)) (da_cons (de_var B (i := 1) rfl rfl (.inl rfl)) (da_cons (de_var B (i := 2) rfl rfl (.inl rfl)) da_nil))) rfl) (i := 3) rfl (.inl rfl) (fun F H σ en H1 s1 => R.er (C := cs.NotWhole) ?re10 H1 (en.gr.h.trans s1))
    (case c_paper_chance_9 => exact hp)
    (case re10 => first | exact (if_pos hz1) | exact (if_neg hz1).trans ((if_pos hz2)) | exact (if_neg hz1).trans ((if_neg hz2).trans ((if_pos hz3))) | exact (if_neg hz1).trans ((if_neg hz2).trans ((if_neg hz3).trans ((if_pos hz4)))) | exact (if_neg hz1).trans ((if_neg hz2).trans ((if_neg hz3).trans ((if_neg hz4).trans ((if_pos hz5))))) | exact (if_neg hz1).trans ((if_neg hz2).trans ((if_neg hz3).trans ((if_neg hz4).trans ((if_neg hz5).trans ((if_pos hz6)))))) | exact (if_neg hz1).trans ((if_neg hz2).trans ((if_neg hz3).trans ((if_neg hz4).trans ((if_neg hz5).trans ((if_neg hz6).trans ((if_pos h2))))))))
  by_cases hz6 : (lieA b ws ts && whA ws) = false
  · refine go_setE B (ex_call B tk (ok_paper_chance T) (by decide) (_, _, _) ?c_paper_chance_11 ((if_neg hz1).trans ((if_neg hz2).trans ((if_neg hz3).trans ((if_neg hz4).trans ((if_neg hz5).trans (if_pos hz6)))))) (da_cons (de_var B (i := 0) rfl rfl (.inl rfl)) (da_cons (de_var B (i := 1) rfl rfl (.inl rfl)) (da_cons (de_var B (i := 2) rfl rfl (.inl rfl)) da_nil))) rfl) (i := 3) rfl (.inl rfl) (fun F H σ en H1 s1 => R.er (C := cs.NotRounding) ?re12 H1 (en.gr.h.trans s1))
    (case c_paper_chance_11 => exact hp)
    (case re12 => first | exact (if_pos hz1) | exact (if_neg hz1).trans ((if_pos hz2)) | exact (if_neg hz1).trans ((if_neg hz2).trans ((if_pos hz3))) | exact (if_neg hz1).trans ((if_neg hz2).trans ((if_neg hz3).trans ((if_pos hz4)))) | exact (if_neg hz1).trans ((if_neg hz2).trans ((if_neg hz3).trans ((if_neg hz4).trans ((if_pos hz5))))) | exact (if_neg hz1).trans ((if_neg hz2).trans ((if_neg hz3).trans ((if_neg hz4).trans ((if_neg hz5).trans ((if_pos hz6)))))) | exact (if_neg hz1).trans ((if_neg hz2).trans ((if_neg hz3).trans ((if_neg hz4).trans ((if_neg hz5).trans ((if_neg hz6).trans ((if_pos h2))))))))
  refine go_set B (i := 3) (CA.val (ca_callO (okr_paper_chance X.K) B (ok_paper_chance T) (by decide) (_, _, _) ?c_paper_chance_13 ((if_neg hz1).trans ((if_neg hz2).trans ((if_neg hz3).trans ((if_neg hz4).trans ((if_neg hz5).trans (if_neg hz6)))))) (da_cons (de_var B (i := 0) rfl rfl (.inl rfl)) (da_cons (de_var B (i := 1) rfl rfl (.inl rfl)) (da_cons (de_var B (i := 2) rfl rfl (.inl rfl)) da_nil))) rfl)) rfl (.inl rfl) ?go_1
  (case c_paper_chance_13 => exact hp)
  refine go_if (dt_eqN B (de_var B (i := 3) rfl rfl (.inl rfl)) (de_i2n de_int)) (fun hc => ?gt_2) (fun hc => ?gf_3)
  case gt_2 =>
    have h2 : chaM ts ws = 1 := of_decide_eq_true hc
    refine go_raise B tk T.x_BadChance rfl (fun F H σ en => R.er (C := cs.BadChance) ?re14 H en.gr.h)
    (case re14 => first | exact (if_pos hz1) | exact (if_neg hz1).trans ((if_pos hz2)) | exact (if_neg hz1).trans ((if_neg hz2).trans ((if_pos hz3))) | exact (if_neg hz1).trans ((if_neg hz2).trans ((if_neg hz3).trans ((if_pos hz4)))) | exact (if_neg hz1).trans ((if_neg hz2).trans ((if_neg hz3).trans ((if_neg hz4).trans ((if_pos hz5))))) | exact (if_neg hz1).trans ((if_neg hz2).trans ((if_neg hz3).trans ((if_neg hz4).trans ((if_neg hz5).trans ((if_pos hz6)))))) | exact (if_neg hz1).trans ((if_neg hz2).trans ((if_neg hz3).trans ((if_neg hz4).trans ((if_neg hz5).trans ((if_neg hz6).trans ((if_pos h2))))))))
  case gf_3 =>
    have h2 : ¬ chaM ts ws = 1 := of_decide_eq_false hc
    have hl : ws.length = ts.length := (Classical.not_not.mp hz3).trans (Classical.not_not.mp hz1).symm
    refine go_then ?go_4
    refine go_setL B (i := 4) (CA.lst (ca_call B (ok_added T) (by decide) (_, _) ?c_added_17 (da_cons (de_var B (i := 1) rfl rfl (.inl rfl)) (da_cons (DL.froz (CA.lst (ca_call B (ok_scaled T) (by decide) (_, _) ?c_scaled_16 (da_cons (DE.sub (de_var B (i := 2) rfl rfl (.inl rfl)) sub_lseq) (da_cons (CA.val (ca_call B (ok_minus T) (by decide) (_, _) ?c_minus_15 (da_cons (de_i2n de_int) (da_cons (de_var B (i := 3) rfl rfl (.inl rfl)) da_nil)) rfl)) da_nil)) rfl))) da_nil)) rfl)) rfl (.inl rfl) ?go_5
    (case c_minus_15 => exact ⟨sz_int (by decide), (rest_sz hp.2.1.2 hp.2.2.2).1.mono (by decide)⟩)
    (case c_scaled_16 => first | exact ⟨⟨hp.2.2.1, fun q hq => (hp.2.2.2 q hq).mono (by decide)⟩, (rest_sz hp.2.1.2 hp.2.2.2).2.1.mono (by decide)⟩ | exact ⟨⟨by unfold zipM; rw [List.length_map, List.length_range]; exact Nat.le_trans (Nat.min_le_left _ _) hp.2.1.1, fun q hq => ((rest_sz hp.2.1.2 hp.2.2.2).2.2.2.2 q hq).mono (by decide)⟩, (sz_div (rest_ne h2) (sz_int (n := 0) (by decide)) (rest_sz hp.2.1.2 hp.2.2.2).2.2.1).mono (by decide)⟩)
    (case c_added_17 => exact ⟨⟨hp.2.1.1, fun q hq => (hp.2.1.2 q hq).mono (by decide)⟩, fun q hq => ((rest_sz hp.2.1.2 hp.2.2.2).2.2.2.1 q hq).mono (by decide)⟩)
    refine go_froz 4 rfl ?go_6
    refine go_retL (R.rt (ret := .lst ((restQ ts ws).map (rNum X.K))) ?ro18) (CA.lst (ca_call B (ok_scaled T) (by decide) (_, _) ?c_scaled_22 (da_cons (DE.sub (de_var B (i := 4) rfl rfl (.inl rfl)) sub_lseq) (da_cons (CA.val (ca_callO (okr_over X.K) B (ok_over T) (by decide) (_, _) ?c_over_20 ?o_over_21 (da_cons (de_i2n de_int) (da_cons (CA.val (ca_call B (ok_minus T) (by decide) (_, _) ?c_minus_19 (da_cons (de_i2n de_int) (da_cons (de_var B (i := 3) rfl rfl (.inl rfl)) da_nil)) rfl)) da_nil)) rfl)) da_nil)) rfl)) ?rs_7
    (case ro18 => exact (if_neg hz1).trans ((if_neg hz2).trans ((if_neg hz3).trans ((if_neg hz4).trans ((if_neg hz5).trans ((if_neg hz6).trans ((if_neg h2))))))))
    (case c_minus_19 => exact ⟨sz_int (by decide), (rest_sz hp.2.1.2 hp.2.2.2).1.mono (by decide)⟩)
    (case c_over_20 => exact ⟨sz_int (by decide), (rest_sz hp.2.1.2 hp.2.2.2).2.2.1.mono (by decide)⟩)
    (case o_over_21 => exact if_neg (rest_ne h2))
    (case c_scaled_22 => first | exact ⟨⟨hp.2.2.1, fun q hq => (hp.2.2.2 q hq).mono (by decide)⟩, (rest_sz hp.2.1.2 hp.2.2.2).2.1.mono (by decide)⟩ | exact ⟨⟨by unfold zipM; rw [List.length_map, List.length_range]; exact Nat.le_trans (Nat.min_le_left _ _) hp.2.1.1, fun q hq => ((rest_sz hp.2.1.2 hp.2.2.2).2.2.2.2 q hq).mono (by decide)⟩, (sz_div (rest_ne h2) (sz_int (n := 0) (by decide)) (rest_sz hp.2.1.2 hp.2.2.2).2.2.1).mono (by decide)⟩)
    (case rs_7 => rfl)
end K45

set_option Elab.async false
set_option linter.all false
set_option maxRecDepth 100000
set_option maxHeartbeats 4000000
namespace K45
open PySem PySem.Spec PyProof.Rows L2 DL
variable {P : Program} {w : World} {K : PySem.W.Frag} {mg : Str → Option Value} {base : Heap} {cs : Cs}
theorem sc__law_cell : FnScope ["_law_script", "_law_k"] ["_law_script", "_law_k"] (defScope s__law_cell) := ⟨rfl, rfl, rfl, by decide +kernel, rfl, by decide +kernel, by decide +kernel⟩
def sp__law_cell (K : PySem.W.Frag) (cs : Cs) : Sp := Pm (ι := List Int × Nat) (fun ⟨ns, k⟩ => True) (fun ⟨ns, k⟩ => [rLst K (ns.map rInt), rInt (k : Int)]) (fun ⟨ns, k⟩ => .val (rInt (ns.getD k 0)))
theorem ok__law_cell (T : Txt K mg cs) : Cal P w K mg base 1 "_law_cell" (sp__law_cell K cs) := by
  refine cal_ok T.d__law_cell sc__law_cell (fun g => rfl) (fun _ _ _ _ _ _ us hl => match us, hl with | [_, _], _ => rfl) ?_
  rintro X rfl rfl rfl rfl rfl B Bf ⟨ns, k⟩ F0 H0 D hp R hnx
  refine go_if (dt_lt (de_var B (i := 1) rfl rfl (.inl rfl)) (de_lenM B T.b_len (de_var B (i := 0) rfl rfl (.inl rfl)) rfl)) (fun hc => ?gt_1) (fun hc => ?gf_2)
  case gt_1 =>
    try (simp only [decide_eq_true_eq, decide_eq_false_iff_not, Bool.not_eq_true', Bool.not_eq_false', Bool.not_eq_true, Bool.not_eq_false] at hc)
    refine go_ret R (de_ixM (R := rInt) (0 : Int) ?xl1 ?xh2 (de_var B (i := 0) rfl rfl (.inl rfl)) (de_var B (i := 1) rfl rfl (.inl rfl))) ?rs_3
    (case xl1 => omega)
    (case xh2 => simpa using hc)
    (case rs_3 => exact Sub.rfl)
  case gf_2 =>
    try (simp only [decide_eq_true_eq, decide_eq_false_iff_not, Bool.not_eq_true', Bool.not_eq_false', Bool.not_eq_true, Bool.not_eq_false] at hc)
    refine go_then ?go_4
    refine go_ret R de_int ?rs_5
    (case rs_5 => exact Sub.of (by rw [getD_out (by simpa using hc)]))
theorem sc__law_gcd : FnScope ["_law_one", "_law_other", "_law_k"] ["_law_one", "_law_other"] (defScope s__law_gcd) := ⟨rfl, rfl, rfl, by decide +kernel, rfl, by decide +kernel, by decide +kernel⟩
def sp__law_gcd (K : PySem.W.Frag) (cs : Cs) : Sp := Pm (ι := Int × Int) (fun ⟨s, t⟩ => Lg s < 990 ∧ Lg t < 990) (fun ⟨s, t⟩ => [rInt s, rInt t]) (fun ⟨s, t⟩ => .val (rInt (Int.gcd s t : Nat)))
theorem ok__law_gcd (T : Txt K mg cs) : Cal P w K mg base 1 "_law_gcd" (sp__law_gcd K cs) := by
  refine cal_ok T.d__law_gcd sc__law_gcd (fun g => rfl) (fun _ _ _ _ _ _ us hl => match us, hl with | [_, _], _ => rfl) ?_
  rintro X rfl rfl rfl rfl rfl B Bf ⟨s, t⟩ F0 H0 D hp R hnx
  refine go_set B (i := 0) (de_abs B T.b_abs (de_var B (i := 0) rfl rfl (.inl rfl)) rfl) rfl (.inl rfl) ?go_1
  refine go_set B (i := 1) (de_abs B T.b_abs (de_var B (i := 1) rfl rfl (.inl rfl)) rfl) rfl (.inl rfl) ?go_2
  refine go_forS B (fun i => [(0, .im (rInt (eu i ((s.natAbs : Int), (t.natAbs : Int))).1)), (1, .im (rInt (eu i ((s.natAbs : Int), (t.natAbs : Int))).2)), (2, .any)]) (fun i => EuJ (s.natAbs : Int) (t.natAbs : Int) i) (sr_range1 B T.b_range de_int rfl ?r1 ?r2) _ (fun i hi => (dg_name B (i := 2) rfl (.inl rfl))) ?h0_3 ?j0_4 (fun F1 u i hi hj => ?gb_5) (fun hj => ?ge_6)
  (case r1 => decide)
  (case r2 => decide)
  (case h0_3 => refine .im ?h ?_; (case h => exact Sub.rfl); refine .im ?h ?_; (case h => exact Sub.rfl); refine .any ?_; exact .nil)
  (case j0_4 => exact euJ0 (by omega) (by omega))
  case gb_5 =>
    refine go_if (dt_eqI (de_var B (i := 1) rfl rfl (.inl rfl)) de_int) (fun hc => ?gt_7) (fun hc => ?gf_8)
    case gt_7 =>
      replace hc := of_decide_eq_true hc
      refine go_brk u ?gk_9
      case gk_9 =>
        refine go_ret R (de_var B (i := 0) rfl rfl (.inl rfl)) ?rs_10
        (case rs_10 => first | exact Sub.of (by rw [eu_gcd hj hc, gcd_abs]) | exact Sub.of (by rw [eu_gcd hj (eu_end hj (by omega) (by omega) (lg_abs hp.1) (lg_abs hp.2)), gcd_abs]))
    case gf_8 =>
      replace hc := of_decide_eq_false hc
      refine go_then ?go_11
      refine go_par B (i := 0) (j := 1) (de_var B (i := 1) rfl rfl (.inl rfl)) (de_mod ?z3 (de_toInt B T.b_int (de_var B (i := 0) rfl rfl (.inl rfl)) rfl) (de_var B (i := 1) rfl rfl (.inl rfl))) rfl rfl (by decide) rfl rfl ?go_12 (fun env h => by cases env; subst h; with_unfolding_all rfl)
      (case z3 => exact hc)
      refine go_turnS ?jn_13 ?ln_14
      (case jn_13 => exact euJ_step hj hc)
      (case ln_14 => refine .im ?h ?_; (case h => exact Sub.rfl); refine .im ?h ?_; (case h => exact Sub.rfl); refine .any ?_; exact .nil)
  case ge_6 =>
    refine go_ret R (de_var B (i := 0) rfl rfl (.inl rfl)) ?rs_15
    (case rs_15 => first | exact Sub.of (by rw [eu_gcd hj hc, gcd_abs]) | exact Sub.of (by rw [eu_gcd hj (eu_end hj (by omega) (by omega) (lg_abs hp.1) (lg_abs hp.2)), gcd_abs]))
theorem sc__law_top : FnScope ["_law_x"] ["_law_x"] (defScope s__law_top) := ⟨rfl, rfl, rfl, by decide +kernel, rfl, by decide +kernel, by decide +kernel⟩
def sp__law_top (K : PySem.W.Frag) (cs : Cs) : Sp := Pm (ι := Rat) (fun q => True) (fun q => [rNum K q]) (fun q => .val (rInt q.num))
theorem ok__law_top (T : Txt K mg cs) : Cal P w K mg base 1 "_law_top" (sp__law_top K cs) := by
  refine cal_ok T.d__law_top sc__law_top (fun g => rfl) (fun _ _ _ _ _ _ us hl => match us, hl with | [_], _ => rfl) ?_
  rintro X rfl rfl rfl rfl rfl B Bf q F0 H0 D hp R hnx
  refine go_if (dt_val (de_isi (T := "tuple") B T.b_isinstance rty_num kit_numT (de_var B (i := 0) rfl rfl (.inl rfl)) (de_ty B T.b_tuple (by decide +kernel) rfl) rfl)) (fun hc => ?gt_1) (fun hc => ?gf_2)
  case gt_1 =>
    try (simp only [decide_eq_true_eq, decide_eq_false_iff_not, Bool.not_eq_true', Bool.not_eq_false', Bool.not_eq_true, Bool.not_eq_false] at hc)
    refine go_ret R (de_num0 ?n1 (de_var B (i := 0) rfl rfl (.inl rfl))) ?rs_3
    (case n1 => simpa using hc)
    (case rs_3 => exact Sub.rfl)
  case gf_2 =>
    try (simp only [decide_eq_true_eq, decide_eq_false_iff_not, Bool.not_eq_true', Bool.not_eq_false', Bool.not_eq_true, Bool.not_eq_false] at hc)
    refine go_then ?go_4
    refine go_ret R (de_n2i ?n2 (de_var B (i := 0) rfl rfl (.inl rfl))) ?rs_5
    (case n2 => simpa using hc)
    (case rs_5 => exact Sub.rfl)
theorem sc__law_bottom : FnScope ["_law_x"] ["_law_x"] (defScope s__law_bottom) := ⟨rfl, rfl, rfl, by decide +kernel, rfl, by decide +kernel, by decide +kernel⟩
def sp__law_bottom (K : PySem.W.Frag) (cs : Cs) : Sp := Pm (ι := Rat) (fun q => True) (fun q => [rNum K q]) (fun q => .val (rInt (q.den : Int)))
theorem ok__law_bottom (T : Txt K mg cs) : Cal P w K mg base 1 "_law_bottom" (sp__law_bottom K cs) := by
  refine cal_ok T.d__law_bottom sc__law_bottom (fun g => rfl) (fun _ _ _ _ _ _ us hl => match us, hl with | [_], _ => rfl) ?_
  rintro X rfl rfl rfl rfl rfl B Bf q F0 H0 D hp R hnx
  refine go_if (dt_val (de_isi (T := "tuple") B T.b_isinstance rty_num kit_numT (de_var B (i := 0) rfl rfl (.inl rfl)) (de_ty B T.b_tuple (by decide +kernel) rfl) rfl)) (fun hc => ?gt_1) (fun hc => ?gf_2)
  case gt_1 =>
    try (simp only [decide_eq_true_eq, decide_eq_false_iff_not, Bool.not_eq_true', Bool.not_eq_false', Bool.not_eq_true, Bool.not_eq_false] at hc)
    refine go_ret R (de_num1 ?n1 (de_var B (i := 0) rfl rfl (.inl rfl))) ?rs_3
    (case n1 => simpa using hc)
    (case rs_3 => exact Sub.rfl)
  case gf_2 =>
    try (simp only [decide_eq_true_eq, decide_eq_false_iff_not, Bool.not_eq_true', Bool.not_eq_false', Bool.not_eq_true, Bool.not_eq_false] at hc)
    refine go_then ?go_4
    refine go_ret R de_int ?rs_5
    (case rs_5 => exact Sub.of (congrArg rInt (by simp at hc; omega)))
theorem sc__law_is_int : FnScope ["_law_x"] ["_law_x"] (defScope s__law_is_int) := ⟨rfl, rfl, rfl, by decide +kernel, rfl, by decide +kernel, by decide +kernel⟩
def sp__law_is_int (K : PySem.W.Frag) (cs : Cs) : Sp := Pm (ι := Rat) (fun q => True) (fun q => [rNum K q]) (fun q => .val (rBl (decide (q.den = 1))))
theorem ok__law_is_int (T : Txt K mg cs) : Cal P w K mg base 1 "_law_is_int" (sp__law_is_int K cs) := by
  refine cal_ok T.d__law_is_int sc__law_is_int (fun g => rfl) (fun _ _ _ _ _ _ us hl => match us, hl with | [_], _ => rfl) ?_
  rintro X rfl rfl rfl rfl rfl B Bf q F0 H0 D hp R hnx
  refine go_ret R (de_and (de_isi (T := "int") B T.b_isinstance rty_num kit_numI (de_var B (i := 0) rfl rfl (.inl rfl)) (de_ty B T.b_int (by decide +kernel) rfl) rfl) (fun hb1 => (de_one (de_not (de_isi (T := "bool") B T.b_isinstance rty_num kit_numB (de_var B (i := 0) rfl rfl (.inl rfl)) (de_ty B T.b_bool (by decide +kernel) rfl) rfl))))) ?rs_1
  (case rs_1 => exact Sub.of (by simp))
theorem sc__law_numbers : FnScope ["_law_script", "_law_k", "_law_many", "_law_cell_here", "_law_row", "_law_j", "_law_mixed"] ["_law_script", "_law_k", "_law_many"] (defScope s__law_numbers) := ⟨rfl, rfl, rfl, by decide +kernel, rfl, by decide +kernel, by decide +kernel⟩
def sp__law_numbers (K : PySem.W.Frag) (cs : Cs) : Sp := Pm (ι := List Int × Nat × Nat) (fun ⟨ns, k, many⟩ => many ≤ 100) (fun ⟨ns, k, many⟩ => [rLst K (ns.map rInt), rInt (k : Int), rInt (many : Int)]) (fun ⟨ns, k, many⟩ => .lst ((lawNums ns k many).map rInt))
theorem ok__law_numbers (T : Txt K mg cs) : Cal P w K mg base 2 "_law_numbers" (sp__law_numbers K cs) := by
  refine cal_ok T.d__law_numbers sc__law_numbers (fun g => rfl) (fun _ _ _ _ _ _ us hl => match us, hl with | [_, _, _], _ => rfl) ?_
  rintro X rfl rfl rfl rfl rfl B Bf ⟨ns, k, many⟩ F0 H0 D hp R hnx
  refine @go_nf _ _ _ _ _ _ [_, _, _, _, _, _, _] rfl ?go_1
  refine go_set B (i := 3) (de_abs B T.b_abs (CA.val (ca_call B (ok__law_cell T) (by decide) (_, _) trivial (da_cons (de_var B (i := 0) rfl rfl (.inl rfl)) (da_cons (de_var B (i := 1) rfl rfl (.inl rfl)) da_nil)) rfl)) rfl) rfl (.inl rfl) ?go_2
  refine @go_nf _ _ _ _ _ _ [_, _, _, _, _, _, _] rfl ?go_3
  refine go_setL B (i := 4) (dl_lst da_nil (show (0 : Nat) ≤ sizeLine by decide)) rfl (.inl rfl) ?go_4
  refine @go_nf _ _ _ _ _ _ [_, _, _, _, _, _, _] rfl ?go_5
  refine go_if (dt_ge (de_var B (i := 3) rfl rfl (.inl rfl)) (de_pow ⟨by decide, by decide, by decide⟩ de_int de_int)) (fun hc => ?gt_6) (fun hc => ?gf_7)
  case gt_6 =>
    replace hc : (10 : Int) ^ 18 ≤ ((ns.getD k 0).natAbs : Int) := of_decide_eq_true hc
    refine go_forS B (fun i => [(3, .im (rInt (divs (ns.getD k 0).natAbs i))), (4, .ow (((List.range i).map (bigN (ns.getD k 0).natAbs)).map rInt)), (5, .any)]) (fun i => True) (sr_range1 B T.b_range (de_var B (i := 2) rfl rfl (.inl rfl)) rfl ?r1 ?r2) _ (fun i hi => (dg_name B (i := 5) rfl (.inl rfl))) ?h0_8 ?j0_9 (fun F1 u i hi hj => ?gb_10) (fun hj => ?ge_11)
    (case r1 => first | omega | (have := hp; omega))
    (case r2 => first | omega | (have := hp; omega))
    (case h0_8 => refine .same ?_; refine .same ?_; refine .same ?_; refine .im ?h ?_; (case h => exact Sub.rfl); refine .ow ?h ?_; (case h => rfl); refine .any ?_; refine .same ?_; exact .nil)
    (case j0_9 => trivial)
    case gb_10 =>
      refine @go_nf _ _ _ _ _ _ [_, _, _, _, _, _, _] rfl ?go_12
      refine go_append B (i := 4) rfl (de_mod ?z3 (de_toInt B T.b_int (de_var B (i := 3) rfl rfl (.inl rfl)) rfl) de_int) ?s4 rfl (.inl rfl) ?go_13
      (case z3 => decide)
      (case s4 => simp; exact Nat.lt_of_le_of_lt (by omega : i ≤ 100) (by decide))
      refine @go_nf _ _ _ _ _ _ [_, _, _, _, _, _, _] rfl ?go_14
      refine go_set B (i := 3) (de_divG ?z5 ?d6 (de_var B (i := 3) rfl rfl (.inl rfl)) de_int) rfl (.inl rfl) ?go_15
      (case z5 => decide)
      (case d6 => decide)
      refine @go_nf _ _ _ _ _ _ [_, _, _, _, _, _, _] rfl ?go_16
      refine go_turnS ?jn_17 ?ln_18
      (case jn_17 => trivial)
      (case ln_18 => refine .same ?_; refine .same ?_; refine .same ?_; refine .im ?h ?_; (case h => exact Sub.rfl); refine .ow ?h ?_; (case h => rw [List.range_succ]; simp [bigN]); refine .any ?_; refine .same ?_; exact .nil)
    case ge_11 =>
      refine @go_nf _ _ _ _ _ _ [_, _, _, _, _, _, _] rfl ?go_19
      refine go_retV B (i := 4) R rfl ?rs_20 rfl (.inl rfl)
      (case rs_20 => first | rw [lawNums, if_pos hc, Int.toNat_natCast] | rw [lawNums, if_neg hc, Int.toNat_natCast])
  case gf_7 =>
    replace hc : ¬ (10 : Int) ^ 18 ≤ ((ns.getD k 0).natAbs : Int) := of_decide_eq_false hc; have hc2 : (((ns.getD k 0).natAbs : Int)).natAbs < 18446744073709551616 := by omega
    refine go_then ?go_21
    refine go_forS B (fun i => [(4, .ow (((List.range i).map (smallN (ns.getD k 0).natAbs)).map rInt)), (5, .any), (6, .any)]) (fun i => True) (sr_range1 B T.b_range (de_var B (i := 2) rfl rfl (.inl rfl)) rfl ?r7 ?r8) _ (fun i hi => (dg_name B (i := 5) rfl (.inl rfl))) ?h0_22 ?j0_23 (fun F1 u i hi hj => ?gb_24) (fun hj => ?ge_25)
    (case r7 => first | omega | (have := hp; omega))
    (case r8 => first | omega | (have := hp; omega))
    (case h0_22 => refine .same ?_; refine .same ?_; refine .same ?_; refine .same ?_; refine .ow ?h ?_; (case h => rfl); refine .any ?_; refine .any ?_; exact .nil)
    (case j0_23 => trivial)
    case gb_24 =>
      refine @go_nf _ _ _ _ _ _ [_, _, _, _, _, _, _] rfl ?go_26
      refine go_set B (i := 6) (de_mod ?z11 (de_toInt B T.b_int (de_add (de_add (de_mulG ?m9 (de_var B (i := 3) rfl rfl (.inl rfl)) de_int) (de_mulG ?m10 de_int (de_var B (i := 5) rfl rfl (.inl rfl)))) de_int) rfl) de_int) rfl (.inl rfl) ?go_27
      (case m9 => first | exact mul_s hc2 (by decide) | exact mul_s (by decide) (by omega) | exact mul_s (sm16 _) (by decide))
      (case m10 => first | exact mul_s hc2 (by decide) | exact mul_s (by decide) (by omega) | exact mul_s (sm16 _) (by decide))
      (case z11 => decide)
      refine @go_nf _ _ _ _ _ _ [_, _, _, _, _, _, _] rfl ?go_28
      refine go_append B (i := 4) rfl (de_mod ?z15 (de_toInt B T.b_int (de_add (de_mulG ?m14 (de_divG ?z12 ?d13 (de_var B (i := 6) rfl rfl (.inl rfl)) de_int) de_int) (de_var B (i := 5) rfl rfl (.inl rfl))) rfl) de_int) ?s16 rfl (.inl rfl) ?go_29
      (case z12 => decide)
      (case d13 => decide)
      (case m14 => first | exact mul_s hc2 (by decide) | exact mul_s (by decide) (by omega) | exact mul_s (sm16 _) (by decide))
      (case z15 => decide)
      (case s16 => simp; exact Nat.lt_of_le_of_lt (by omega : i ≤ 100) (by decide))
      refine @go_nf _ _ _ _ _ _ [_, _, _, _, _, _, _] rfl ?go_30
      refine go_turnS ?jn_31 ?ln_32
      (case jn_31 => trivial)
      (case ln_32 => refine .same ?_; refine .same ?_; refine .same ?_; refine .same ?_; refine .ow ?h ?_; (case h => rw [List.range_succ]; simp [smallN]); refine .any ?_; refine .any ?_; exact .nil)
    case ge_25 =>
      refine @go_nf _ _ _ _ _ _ [_, _, _, _, _, _, _] rfl ?go_33
      refine go_retV B (i := 4) R rfl ?rs_34 rfl (.inl rfl)
      (case rs_34 => first | rw [lawNums, if_pos hc, Int.toNat_natCast] | rw [lawNums, if_neg hc, Int.toNat_natCast])
theorem sc__law_make : FnScope ["_law_top_here", "_law_bottom_here", "_law_common"] ["_law_top_here", "_law_bottom_here"] (defScope s__law_make) := ⟨rfl, rfl, rfl, by decide +kernel, rfl, by decide +kernel, by decide +kernel⟩
def sp__law_make (K : PySem.W.Frag) (cs : Cs) : Sp := Pm (ι := Int × Int) (fun ⟨t, b⟩ => b ≠ 0 ∧ Lg t < 990 ∧ Lg b < 990) (fun ⟨t, b⟩ => [rInt t, rInt b]) (fun ⟨t, b⟩ => .val (rNum K ((t : Rat) / (b : Rat))))
theorem ok__law_make (T : Txt K mg cs) : Cal P w K mg base 2 "_law_make" (sp__law_make K cs) := by
  refine cal_ok T.d__law_make sc__law_make (fun g => rfl) (fun _ _ _ _ _ _ us hl => match us, hl with | [_, _], _ => rfl) ?_
  rintro X rfl rfl rfl rfl rfl B Bf ⟨t, b⟩ F0 H0 D hp R hnx
  obtain ⟨hb, hp1, hp2⟩ := hp
  refine go_set B (i := 2) (CA.val (ca_call B (ok__law_gcd T) (by decide) (_, _) ?c_law_gcd_1 (da_cons (de_var B (i := 0) rfl rfl (.inl rfl)) (da_cons (de_var B (i := 1) rfl rfl (.inl rfl)) da_nil)) rfl)) rfl (.inl rfl) ?go_1
  (case c_law_gcd_1 => exact ⟨hp1, hp2⟩)
  refine go_if (dt_lt (de_var B (i := 1) rfl rfl (.inl rfl)) de_int) (fun hc => ?gt_2) (fun hc => ?gf_3)
  case gt_2 =>
    replace hc : b < 0 := of_decide_eq_true hc; have hl : lowC t b = -(Int.gcd t b : Int) := if_pos hc
    refine go_set B (i := 2) (de_neg (de_var B (i := 2) rfl rfl (.inl rfl))) rfl (.inl rfl) ?go_4
    refine go_then ?go_5
    refine go_if (dt_eqI (de_divG ?z2 ?d3 (de_var B (i := 1) rfl rfl (.inl rfl)) (de_var B (i := 2) rfl rfl (.inl rfl))) de_int) (fun hc => ?gt_6) (fun hc => ?gf_7)
    (case z2 => rw [← hl]; exact lowC_ne hb)
    (case d3 => rw [← hl]; exact Nat.lt_of_le_of_lt (lg_lowC hb) (Nat.lt_trans hp2 (by decide)))
    case gt_6 =>
      replace hc := of_decide_eq_true hc
      refine go_ret R (de_divG ?z4 ?d5 (de_var B (i := 0) rfl rfl (.inl rfl)) (de_var B (i := 2) rfl rfl (.inl rfl))) ?rs_8
      (case z4 => rw [← hl]; exact lowC_ne hb)
      (case d5 => rw [← hl]; exact Nat.lt_of_le_of_lt (lg_lowC hb) (Nat.lt_trans hp2 (by decide)))
      (case rs_8 => rw [← hl] at hc ⊢; exact sub_whole (rat_den1b hb hc) (rat_num hb))
    case gf_7 =>
      replace hc := of_decide_eq_false hc
      refine go_then ?go_9
      refine go_ret R (de_tup (da_cons (de_divG ?z6 ?d7 (de_var B (i := 0) rfl rfl (.inl rfl)) (de_var B (i := 2) rfl rfl (.inl rfl))) (da_cons (de_divG ?z8 ?d9 (de_var B (i := 1) rfl rfl (.inl rfl)) (de_var B (i := 2) rfl rfl (.inl rfl))) da_nil)) (show (2 : Nat) ≤ sizeLine by decide)) ?rs_10
      (case z6 => rw [← hl]; exact lowC_ne hb)
      (case d7 => rw [← hl]; exact Nat.lt_of_le_of_lt (lg_lowC hb) (Nat.lt_trans hp2 (by decide)))
      (case z8 => rw [← hl]; exact lowC_ne hb)
      (case d9 => rw [← hl]; exact Nat.lt_of_le_of_lt (lg_lowC hb) (Nat.lt_trans hp2 (by decide)))
      (case rs_10 => rw [← hl] at hc ⊢; exact sub_pair hc (rat_num hb) (rat_den hb))
  case gf_3 =>
    replace hc : ¬ b < 0 := of_decide_eq_false hc; have hl : lowC t b = (Int.gcd t b : Int) := if_neg hc
    refine go_then ?go_11
    refine go_if (dt_eqI (de_divG ?z10 ?d11 (de_var B (i := 1) rfl rfl (.inl rfl)) (de_var B (i := 2) rfl rfl (.inl rfl))) de_int) (fun hc => ?gt_12) (fun hc => ?gf_13)
    (case z10 => rw [← hl]; exact lowC_ne hb)
    (case d11 => rw [← hl]; exact Nat.lt_of_le_of_lt (lg_lowC hb) (Nat.lt_trans hp2 (by decide)))
    case gt_12 =>
      replace hc := of_decide_eq_true hc
      refine go_ret R (de_divG ?z12 ?d13 (de_var B (i := 0) rfl rfl (.inl rfl)) (de_var B (i := 2) rfl rfl (.inl rfl))) ?rs_14
      (case z12 => rw [← hl]; exact lowC_ne hb)
      (case d13 => rw [← hl]; exact Nat.lt_of_le_of_lt (lg_lowC hb) (Nat.lt_trans hp2 (by decide)))
      (case rs_14 => rw [← hl] at hc ⊢; exact sub_whole (rat_den1b hb hc) (rat_num hb))
    case gf_13 =>
      replace hc := of_decide_eq_false hc
      refine go_then ?go_15
      refine go_ret R (de_tup (da_cons (de_divG ?z14 ?d15 (de_var B (i := 0) rfl rfl (.inl rfl)) (de_var B (i := 2) rfl rfl (.inl rfl))) (da_cons (de_divG ?z16 ?d17 (de_var B (i := 1) rfl rfl (.inl rfl)) (de_var B (i := 2) rfl rfl (.inl rfl))) da_nil)) (show (2 : Nat) ≤ sizeLine by decide)) ?rs_16
      (case z14 => rw [← hl]; exact lowC_ne hb)
      (case d15 => rw [← hl]; exact Nat.lt_of_le_of_lt (lg_lowC hb) (Nat.lt_trans hp2 (by decide)))
      (case z16 => rw [← hl]; exact lowC_ne hb)
      (case d17 => rw [← hl]; exact Nat.lt_of_le_of_lt (lg_lowC hb) (Nat.lt_trans hp2 (by decide)))
      (case rs_16 => rw [← hl] at hc ⊢; exact sub_pair hc (rat_num hb) (rat_den hb))
theorem sc__law_is_number : FnScope ["_law_x"] ["_law_x"] (defScope s__law_is_number) := ⟨rfl, rfl, rfl, by decide +kernel, rfl, by decide +kernel, by decide +kernel⟩
def sp__law_is_number (K : PySem.W.Frag) (cs : Cs) : Sp := Pm (ι := Rat) (fun q => Sz 989 q) (fun q => [rNum K q]) (fun q => .val (rBl true))
theorem ok__law_is_number (T : Txt K mg cs) : Cal P w K mg base 2 "_law_is_number" (sp__law_is_number K cs) := by
  refine cal_ok T.d__law_is_number sc__law_is_number (fun g => rfl) (fun _ _ _ _ _ _ us hl => match us, hl with | [_], _ => rfl) ?_
  rintro X rfl rfl rfl rfl rfl B Bf q F0 H0 D hp R hnx
  refine go_if (dt_val (CA.val (ca_call B (ok__law_is_int T) (by decide) _ trivial (da_cons (de_var B (i := 0) rfl rfl (.inl rfl)) da_nil) rfl))) (fun hc => ?gt_1) (fun hc => ?gf_2)
  case gt_1 =>
    skip
    refine go_ret R de_bl ?rs_3
    (case rs_3 => exact Sub.rfl)
  case gf_2 =>
    have hd : q.den ≠ 1 := by simpa using hc
    refine go_then ?go_4
    refine go_if (DW.t (dw_or (dt_not (dt_val (de_isi (T := "tuple") B T.b_isinstance rty_num kit_numT (de_var B (i := 0) rfl rfl (.inl rfl)) (de_ty B T.b_tuple (by decide +kernel) rfl) rfl))) (fun hb1 => (dw_or (dt_neI (de_lenT B T.b_len (de_n2t ?n1 (de_var B (i := 0) rfl rfl (.inl rfl))) rfl) de_int) (fun hb2 => (dw_or (dt_not (dt_val (CA.val (ca_call B (ok__law_is_int T) (by decide) _ trivial (da_cons (de_i2n (de_num0 ?n2 (de_var B (i := 0) rfl rfl (.inl rfl)))) da_nil) rfl)))) (fun hb3 => (dw_or1 (dt_not (dt_val (CA.val (ca_call B (ok__law_is_int T) (by decide) _ trivial (da_cons (de_i2n (de_num1 ?n3 (de_var B (i := 0) rfl rfl (.inl rfl)))) da_nil) rfl)))))))))))) (fun hc => ?gt_5) (fun hc => ?gf_6)
    (case n1 => exact hd)
    (case n2 => exact hd)
    (case n3 => exact hd)
    case gt_5 =>
      try (simp only [decide_eq_true_eq, decide_eq_false_iff_not, Bool.not_eq_true', Bool.not_eq_false', Bool.not_eq_true, Bool.not_eq_false] at hc)
      refine go_ret R de_bl ?rs_7
      (case rs_7 => exfalso; simp [hd] at hc)
    case gf_6 =>
      try (simp only [decide_eq_true_eq, decide_eq_false_iff_not, Bool.not_eq_true', Bool.not_eq_false', Bool.not_eq_true, Bool.not_eq_false] at hc)
      refine go_then ?go_8
      refine go_ret R (de_and (de_geI (de_num1 ?n4 (de_var B (i := 0) rfl rfl (.inl rfl))) de_int) (fun hb1 => (de_one (de_eqI (CA.val (ca_call B (ok__law_gcd T) (by decide) (_, _) ?c_law_gcd_7 (da_cons (de_num0 ?n5 (de_var B (i := 0) rfl rfl (.inl rfl))) (da_cons (de_num1 ?n6 (de_var B (i := 0) rfl rfl (.inl rfl))) da_nil)) rfl)) de_int)))) ?rs_9
      (case n4 => exact hd)
      (case n5 => exact hd)
      (case n6 => exact hd)
      (case c_law_gcd_7 => exact ⟨Nat.lt_of_le_of_lt hp.1 (by decide), Nat.lt_of_le_of_lt hp.2 (by decide)⟩)
      (case rs_9 => exact Sub.of (by rw [low_terms hd]))
theorem sc__law_less : FnScope ["_law_x", "_law_y"] ["_law_x", "_law_y"] (defScope s__law_less) := ⟨rfl, rfl, rfl, by decide +kernel, rfl, by decide +kernel, by decide +kernel⟩
def sp__law_less (K : PySem.W.Frag) (cs : Cs) : Sp := Pm (ι := Rat × Rat) (fun ⟨q, r⟩ => Sz 400 q ∧ Sz 400 r) (fun ⟨q, r⟩ => [rNum K q, rNum K r]) (fun ⟨q, r⟩ => .val (rBl (decide (q < r))))
theorem ok__law_less (T : Txt K mg cs) : Cal P w K mg base 2 "_law_less" (sp__law_less K cs) := by
  refine cal_ok T.d__law_less sc__law_less (fun g => rfl) (fun _ _ _ _ _ _ us hl => match us, hl with | [_, _], _ => rfl) ?_
  rintro X rfl rfl rfl rfl rfl B Bf ⟨q, r⟩ F0 H0 D hp R hnx
  refine go_ret R (de_ltI (de_mulG ?m1 (CA.val (ca_call B (ok__law_top T) (by decide) _ trivial (da_cons (de_var B (i := 0) rfl rfl (.inl rfl)) da_nil) rfl)) (CA.val (ca_call B (ok__law_bottom T) (by decide) _ trivial (da_cons (de_var B (i := 1) rfl rfl (.inl rfl)) da_nil) rfl))) (de_mulG ?m2 (CA.val (ca_call B (ok__law_top T) (by decide) _ trivial (da_cons (de_var B (i := 1) rfl rfl (.inl rfl)) da_nil) rfl)) (CA.val (ca_call B (ok__law_bottom T) (by decide) _ trivial (da_cons (de_var B (i := 0) rfl rfl (.inl rfl)) da_nil) rfl)))) ?rs_1
  (case m1 => grind [Sz])
  (case m2 => grind [Sz])
  (case rs_1 => exact Sub.of (by rw [r_less]))
theorem sc__law_cleared : FnScope ["_law_row", "_law_lead", "_law_cell_here", "_law_made", "_law_common", "_law_number", "_law_k"] ["_law_row", "_law_lead", "_law_cell_here"] (defScope s__law_cleared) := ⟨rfl, rfl, rfl, by decide +kernel, rfl, by decide +kernel, by decide +kernel⟩
def sp__law_cleared (K : PySem.W.Frag) (cs : Cs) : Sp := Pm (ι := List Int × List Int × Nat × Nat) (fun ⟨row, lead, n, c⟩ => (Sm5 n row ∧ Sm5 n lead) ∧ c < n ∧ n ≤ 40) (fun ⟨row, lead, n, c⟩ => [rLst K (row.map rInt), rLst K (lead.map rInt), rInt (c : Int)]) (fun ⟨row, lead, n, c⟩ => .val (rLst K ((lcl row lead c).map rInt)))
theorem ok__law_cleared (T : Txt K mg cs) : Cal P w K mg base 2 "_law_cleared" (sp__law_cleared K cs) := by
  refine cal_ok T.d__law_cleared sc__law_cleared (fun g => rfl) (fun _ _ _ _ _ _ us hl => match us, hl with | [_, _, _], _ => rfl) ?_
  rintro X rfl rfl rfl rfl rfl B Bf ⟨row, lead, n, c⟩ F0 H0 D hp R hnx
  obtain ⟨⟨hr, hd⟩, hc1, hn⟩ := hp
  have hr1 := hr.1
  have hd1 := hd.1
  refine @go_nf _ _ _ _ _ _ [_, _, _, _, _, _, _] rfl ?go_1
  refine go_setLc (l' := List.map rInt (lmade row lead c)) B [("_law_k", 6)] (sr_range1 B T.b_range (de_lenM B T.b_len (de_var B (i := 0) rfl rfl (.inr (.inl rfl))) rfl) rfl ?r1 ?r2) (blkOk_by (by decide +kernel)) _ (fun _ => true) (fun i : Nat => rInt (row.getD ((i : Nat) : Int).toNat 0 * lead.getD ((c : Nat) : Int).toNat 0 - lead.getD ((i : Nat) : Int).toNat 0 * row.getD ((c : Nat) : Int).toNat 0)) ?sz13 (by decide) (fun _ _ _ _ _ B i hi => (dg_name B (i := 6) rfl (.inl rfl))) (fun _ _ _ _ _ B i hi => dts_nil) (fun _ _ _ _ _ B i hi hb => (de_sub (de_mulG ?m7 (de_ixM (R := rInt) (0 : Int) ?xl3 ?xh4 (de_var B (i := 0) rfl rfl (.inr (.inl rfl))) (de_var B (i := 6) rfl rfl (.inl rfl))) (de_ixM (R := rInt) (0 : Int) ?xl5 ?xh6 (de_var B (i := 1) rfl rfl (.inr (.inl rfl))) (de_var B (i := 2) rfl rfl (.inr (.inl rfl))))) (de_mulG ?m12 (de_ixM (R := rInt) (0 : Int) ?xl8 ?xh9 (de_var B (i := 1) rfl rfl (.inr (.inl rfl))) (de_var B (i := 6) rfl rfl (.inl rfl))) (de_ixM (R := rInt) (0 : Int) ?xl10 ?xh11 (de_var B (i := 0) rfl rfl (.inr (.inl rfl))) (de_var B (i := 2) rfl rfl (.inr (.inl rfl))))))) (hl := ?cl14) (iy := 3) (hNy := rfl) (hyl := rfl) (h := ?go_2) (hsw := fun env h => by cases env; subst h; with_unfolding_all rfl)
  (case r1 => first | omega | decide)
  (case r2 => first | omega | decide)
  (case xl3 => omega)
  (case xh4 => omega)
  (case xl5 => omega)
  (case xh6 => omega)
  (case m7 => first | exact low_m (Nat.lt_trans (hr.2 _) (by decide)) (Nat.lt_trans (hd.2 _) (by decide)) | exact low_m (Nat.lt_trans (hd.2 _) (by decide)) (Nat.lt_trans (hr.2 _) (by decide)))
  (case xl8 => omega)
  (case xh9 => omega)
  (case xl10 => omega)
  (case xh11 => omega)
  (case m12 => first | exact low_m (Nat.lt_trans (hr.2 _) (by decide)) (Nat.lt_trans (hd.2 _) (by decide)) | exact low_m (Nat.lt_trans (hd.2 _) (by decide)) (Nat.lt_trans (hr.2 _) (by decide)))
  (case sz13 => first | (rw [lmade_len]; exact Nat.lt_of_le_of_lt (show _ ≤ 40 by omega) (by decide)) | exact Nat.lt_of_le_of_lt (show _ ≤ 40 by omega) (by decide))
  (case cl14 => first | exact lmade_lc | exact lc_mapI (g := fun x => x.fdiv (gl (lmade row lead c) : Nat)))
  refine @go_nf _ _ _ _ _ _ [_, _, _, _, _, _, _] rfl ?go_3
  refine go_froz 3 rfl ?go_4
  refine @go_nf _ _ _ _ _ _ [_, _, _, _, _, _, _] rfl ?go_5
  refine go_set B (i := 4) de_int rfl (.inr ⟨rfl, Bf _⟩) ?go_6
  refine @go_nf _ _ _ _ _ _ [_, _, _, _, _, _, _] rfl ?go_7
  refine go_forS B (fun i => [(4, .im (rInt ((gl ((lmade row lead c).take i) : Nat) : Int))), (5, .any)]) (fun i => True) (sr_listM (R := rInt) (0 : Int) (de_var B (i := 3) rfl rfl (.inl rfl))) _ (fun i hi => (dg_name B (i := 5) rfl (.inl rfl))) ?h0_8 ?j0_9 (fun F1 u i hi hj => ?gb_10) (fun hj => ?ge_11)
  (case h0_8 => refine .same ?_; refine .same ?_; refine .same ?_; refine .same ?_; refine .im ?h ?_; (case h => exact Sub.rfl); refine .any ?_; refine .same ?_; exact .nil)
  (case j0_9 => trivial)
  case gb_10 =>
    refine @go_nf _ _ _ _ _ _ [_, _, _, _, _, _, _] rfl ?go_12
    refine go_set B (i := 4) (CA.val (ca_call B (ok__law_gcd T) (by decide) (_, _) ?c_law_gcd_15 (da_cons (de_var B (i := 4) rfl rfl (.inr (.inl rfl))) (da_cons (de_var B (i := 5) rfl rfl (.inl rfl)) da_nil)) rfl)) rfl (.inr ⟨rfl, Bf _⟩) ?go_13
    (case c_law_gcd_15 => exact ⟨Nat.lt_trans (gl_lgT (m := 989) (fun j => lmade_lg5 hr hd) (by decide)) (by decide), Nat.lt_trans (lmade_lg5 hr hd) (by decide)⟩)
    refine @go_nf _ _ _ _ _ _ [_, _, _, _, _, _, _] rfl ?go_14
    refine go_turnS ?jn_15 ?ln_16
    (case jn_15 => trivial)
    (case ln_16 => refine .same ?_; refine .same ?_; refine .same ?_; refine .same ?_; refine .im ?h ?_; (case h => exact Sub.of (by rw [gl_step hi])); refine .any ?_; refine .same ?_; exact .nil)
  case ge_11 =>
    refine @go_nf _ _ _ _ _ _ [_, _, _, _, _, _, _] rfl ?go_17
    rw [List.take_length]
    refine go_if (dt_eqI (de_var B (i := 4) rfl rfl (.inr (.inl rfl))) de_int) (fun hc => ?gt_18) (fun hc => ?gf_19)
    case gt_18 =>
      have h0 := hc
      refine go_ret R (de_var B (i := 3) rfl rfl (.inl rfl)) ?rs_20
      (case rs_20 => exact Sub.of (congrArg (fun l => rLst X.K (List.map rInt l)) (lcl_t h0)))
    case gf_19 =>
      have h0 := hc
      have h1 := of_decide_eq_false hc
      refine go_then ?go_21
      refine go_ret R (DL.froz (DL.to (l' := List.map rInt ((lmade row lead c).map (fun x => x.fdiv (gl (lmade row lead c) : Nat)))) (dl_lc B [("_law_number", 5)] (sr_listM (R := rInt) (0 : Int) (de_var B (i := 3) rfl rfl (.inl rfl))) (blkOk_by (by decide +kernel)) _ (fun _ => true) (fun i : Nat => rInt (((lmade row lead c).getD i 0).fdiv (gl (lmade row lead c) : Nat))) ?sz18 (by decide) (fun _ _ _ _ _ B i hi => (dg_name B (i := 5) rfl (.inl rfl))) (fun _ _ _ _ _ B i hi => dts_nil) (fun _ _ _ _ _ B i hi hb => (de_divG ?z16 ?d17 (de_var B (i := 5) rfl rfl (.inl rfl)) (de_var B (i := 4) rfl rfl (.inr (.inl rfl)))))) ?cl19)) ?rs_22
      (case z16 => exact h1)
      (case d17 => have := gl_lgT (l := lmade row lead c) (i := (lmade row lead c).length) (m := 989) (fun j => lmade_lg5 hr hd) (by decide); rw [List.take_length] at this; exact Nat.lt_trans this (by decide))
      (case sz18 => first | (rw [lmade_len]; exact Nat.lt_of_le_of_lt (show _ ≤ 40 by omega) (by decide)) | exact Nat.lt_of_le_of_lt (show _ ≤ 40 by omega) (by decide))
      (case cl19 => first | exact lmade_lc | exact lc_mapI (g := fun x => x.fdiv (gl (lmade row lead c) : Nat)))
      (case rs_22 => exact Sub.of (congrArg (fun l => rLst X.K (List.map rInt l)) (lcl_f h0)))
theorem sc__law_floor : FnScope ["_law_x"] ["_law_x"] (defScope s__law_floor) := ⟨rfl, rfl, rfl, by decide +kernel, rfl, by decide +kernel, by decide +kernel⟩
def sp__law_floor (K : PySem.W.Frag) (cs : Cs) : Sp := Pm (ι := Rat) (fun q => Sz 400 q) (fun q => [rNum K q]) (fun q => .val (rInt q.floor))
theorem ok__law_floor (T : Txt K mg cs) : Cal P w K mg base 2 "_law_floor" (sp__law_floor K cs) := by
  refine cal_ok T.d__law_floor sc__law_floor (fun g => rfl) (fun _ _ _ _ _ _ us hl => match us, hl with | [_], _ => rfl) ?_
  rintro X rfl rfl rfl rfl rfl B Bf q F0 H0 D hp R hnx
  refine go_ret R (de_divG ?z1 ?d2 (CA.val (ca_call B (ok__law_top T) (by decide) _ trivial (da_cons (de_var B (i := 0) rfl rfl (.inl rfl)) da_nil) rfl)) (CA.val (ca_call B (ok__law_bottom T) (by decide) _ trivial (da_cons (de_var B (i := 0) rfl rfl (.inl rfl)) da_nil) rfl))) ?rs_1
  (case z1 => exact den_neI q)
  (case d2 => grind [Sz])
  (case rs_1 => exact Sub.of (by rw [r_floor]))
theorem sc__law_ceiling : FnScope ["_law_x"] ["_law_x"] (defScope s__law_ceiling) := ⟨rfl, rfl, rfl, by decide +kernel, rfl, by decide +kernel, by decide +kernel⟩
def sp__law_ceiling (K : PySem.W.Frag) (cs : Cs) : Sp := Pm (ι := Rat) (fun q => Sz 400 q) (fun q => [rNum K q]) (fun q => .val (rInt q.ceil))
theorem ok__law_ceiling (T : Txt K mg cs) : Cal P w K mg base 2 "_law_ceiling" (sp__law_ceiling K cs) := by
  refine cal_ok T.d__law_ceiling sc__law_ceiling (fun g => rfl) (fun _ _ _ _ _ _ us hl => match us, hl with | [_], _ => rfl) ?_
  rintro X rfl rfl rfl rfl rfl B Bf q F0 H0 D hp R hnx
  refine go_ret R (de_neg (de_divG ?z1 ?d2 (de_neg (CA.val (ca_call B (ok__law_top T) (by decide) _ trivial (da_cons (de_var B (i := 0) rfl rfl (.inl rfl)) da_nil) rfl))) (CA.val (ca_call B (ok__law_bottom T) (by decide) _ trivial (da_cons (de_var B (i := 0) rfl rfl (.inl rfl)) da_nil) rfl)))) ?rs_1
  (case z1 => exact den_neI q)
  (case d2 => grind [Sz])
  (case rs_1 => exact Sub.of (by rw [r_ceil]))
theorem sc__law_plus : FnScope ["_law_x", "_law_y", "_law_top_here"] ["_law_x", "_law_y"] (defScope s__law_plus) := ⟨rfl, rfl, rfl, by decide +kernel, rfl, by decide +kernel, by decide +kernel⟩
def sp__law_plus (K : PySem.W.Frag) (cs : Cs) : Sp := Pm (ι := Rat × Rat) (fun ⟨q, r⟩ => Sz 400 q ∧ Sz 400 r) (fun ⟨q, r⟩ => [rNum K q, rNum K r]) (fun ⟨q, r⟩ => .val (rNum K (q + r)))
theorem ok__law_plus (T : Txt K mg cs) : Cal P w K mg base 3 "_law_plus" (sp__law_plus K cs) := by
  refine cal_ok T.d__law_plus sc__law_plus (fun g => rfl) (fun _ _ _ _ _ _ us hl => match us, hl with | [_, _], _ => rfl) ?_
  rintro X rfl rfl rfl rfl rfl B Bf ⟨q, r⟩ F0 H0 D hp R hnx
  refine go_set B (i := 2) (de_add (de_mulG ?m1 (CA.val (ca_call B (ok__law_top T) (by decide) _ trivial (da_cons (de_var B (i := 0) rfl rfl (.inl rfl)) da_nil) rfl)) (CA.val (ca_call B (ok__law_bottom T) (by decide) _ trivial (da_cons (de_var B (i := 1) rfl rfl (.inl rfl)) da_nil) rfl))) (de_mulG ?m2 (CA.val (ca_call B (ok__law_top T) (by decide) _ trivial (da_cons (de_var B (i := 1) rfl rfl (.inl rfl)) da_nil) rfl)) (CA.val (ca_call B (ok__law_bottom T) (by decide) _ trivial (da_cons (de_var B (i := 0) rfl rfl (.inl rfl)) da_nil) rfl)))) rfl (.inl rfl) ?go_1
  (case m1 => grind [Sz])
  (case m2 => grind [Sz])
  refine go_ret R (CA.val (ca_call B (ok__law_make T) (by decide) (_, _) ?c_law_make_4 (da_cons (de_var B (i := 2) rfl rfl (.inl rfl)) (da_cons (de_mulG ?m3 (CA.val (ca_call B (ok__law_bottom T) (by decide) _ trivial (da_cons (de_var B (i := 0) rfl rfl (.inl rfl)) da_nil) rfl)) (CA.val (ca_call B (ok__law_bottom T) (by decide) _ trivial (da_cons (de_var B (i := 1) rfl rfl (.inl rfl)) da_nil) rfl))) da_nil)) rfl)) ?rs_2
  (case m3 => grind [Sz])
  (case c_law_make_4 => exact lp_ok hp.1 hp.2)
  (case rs_2 => exact Sub.of (by rw [r_plus]))
theorem sc__law_times : FnScope ["_law_x", "_law_y"] ["_law_x", "_law_y"] (defScope s__law_times) := ⟨rfl, rfl, rfl, by decide +kernel, rfl, by decide +kernel, by decide +kernel⟩
def sp__law_times (K : PySem.W.Frag) (cs : Cs) : Sp := Pm (ι := Rat × Rat) (fun ⟨q, r⟩ => Lg q.num + Lg r.num < 980 ∧ Lg (q.den : Int) + Lg (r.den : Int) < 980) (fun ⟨q, r⟩ => [rNum K q, rNum K r]) (fun ⟨q, r⟩ => .val (rNum K (q * r)))
theorem ok__law_times (T : Txt K mg cs) : Cal P w K mg base 3 "_law_times" (sp__law_times K cs) := by
  refine cal_ok T.d__law_times sc__law_times (fun g => rfl) (fun _ _ _ _ _ _ us hl => match us, hl with | [_, _], _ => rfl) ?_
  rintro X rfl rfl rfl rfl rfl B Bf ⟨q, r⟩ F0 H0 D hp R hnx
  refine go_ret R (CA.val (ca_call B (ok__law_make T) (by decide) (_, _) ?c_law_make_3 (da_cons (de_mulG ?m1 (CA.val (ca_call B (ok__law_top T) (by decide) _ trivial (da_cons (de_var B (i := 0) rfl rfl (.inl rfl)) da_nil) rfl)) (CA.val (ca_call B (ok__law_top T) (by decide) _ trivial (da_cons (de_var B (i := 1) rfl rfl (.inl rfl)) da_nil) rfl))) (da_cons (de_mulG ?m2 (CA.val (ca_call B (ok__law_bottom T) (by decide) _ trivial (da_cons (de_var B (i := 0) rfl rfl (.inl rfl)) da_nil) rfl)) (CA.val (ca_call B (ok__law_bottom T) (by decide) _ trivial (da_cons (de_var B (i := 1) rfl rfl (.inl rfl)) da_nil) rfl))) da_nil)) rfl)) ?rs_1
  (case m1 => grind [Sz])
  (case m2 => grind [Sz])
  (case c_law_make_3 => exact lt_ok hp.1 hp.2)
  (case rs_1 => exact Sub.of (by rw [r_times]))
theorem sc__law_rank : FnScope ["_law_size", "_law_rows_here", "_law_rest_here", "_law_count", "_law_cell_here", "_law_lead", "_law_others", "_law_row"] ["_law_size", "_law_rows_here"] (defScope s__law_rank) := ⟨rfl, rfl, rfl, by decide +kernel, rfl, by decide +kernel, by decide +kernel⟩
def sp__law_rank (K : PySem.W.Frag) (cs : Cs) : Sp := Pm (ι := List (List Int) × Nat) (fun ⟨rows, n⟩ => R5 n rows) (fun ⟨rows, n⟩ => [rInt (n : Int), rLst K (rows.map fun l => rLst K (l.map rInt))]) (fun ⟨rows, n⟩ => .val (rInt (((gre (Sp (rows.map vi)) [] (List.range n)).length : Nat) : Int)))
theorem ok__law_rank (T : Txt K mg cs) : Cal P w K mg base 3 "_law_rank" (sp__law_rank K cs) := by
  refine cal_ok T.d__law_rank sc__law_rank (fun g => rfl) (fun _ _ _ _ _ _ us hl => match us, hl with | [_, _], _ => rfl) ?_
  rintro X rfl rfl rfl rfl rfl B Bf ⟨rows, n⟩ F0 H0 D hp R hnx
  have hn := hp.n6
  have hm := hp.m
  refine @go_nf _ _ _ _ _ _ [_, _, _, _, _, _, _, _] rfl ?go_1
  refine go_setLc (l' := List.map (fun l => rLst X.K (List.map rInt l)) (rows)) B [("_law_row", 7)] (sr_listM (R := (fun l => rLst X.K (List.map rInt l))) [] (de_var B (i := 1) rfl rfl (.inl rfl))) (blkOk_by (by decide +kernel)) _ (fun _ => true) (fun i : Nat => rLst X.K ((rows.getD i []).map rInt)) ?sz1 (by decide) (fun _ _ _ _ _ B i hi => (dg_name B (i := 7) rfl (.inl rfl))) (fun _ _ _ _ _ B i hi => dts_nil) (fun _ _ _ _ _ B i hi hb => (DL.froz (dl_list B T.b_list (de_var B (i := 7) rfl rfl (.inl rfl)) rfl))) (hl := ?cl2) (iy := 2) (hNy := rfl) (hyl := rfl) (h := ?go_2) (hsw := fun env h => by cases env; subst h; with_unfolding_all rfl)
  (case sz1 => first | exact Nat.lt_of_le_of_lt hm (by decide) | (have := spl_all (R := (lk rows i).2) (c := i); have := (spl_sub (R := (lk rows i).2) (c := i) (Nat.le_refl _)).2.1; rw [spl_all] at this; exact Nat.lt_of_le_of_lt (show _ ≤ 12 by omega) (by decide)))
  (case cl2 => first | exact (lc_map (f := fun r : List Int => rLst X.K (r.map rInt))) | exact lc_mapL (g := fun row => lcl row ((spl (lk rows i).2 i).1.getD []) i))
  refine @go_nf _ _ _ _ _ _ [_, _, _, _, _, _, _, _] rfl ?go_3
  refine go_froz 2 rfl ?go_4
  refine @go_nf _ _ _ _ _ _ [_, _, _, _, _, _, _, _] rfl ?go_5
  refine go_set B (i := 3) de_int rfl (.inl rfl) ?go_6
  refine @go_nf _ _ _ _ _ _ [_, _, _, _, _, _, _, _] rfl ?go_7
  refine go_forS B (fun i => [(2, .im (rLst X.K (((lk rows i).2).map fun l => rLst X.K (l.map rInt)))), (3, .im (rInt (((lk rows i).1 : Nat) : Int))), (4, .any), (5, .any), (6, .any), (7, .any)]) (fun i => True) (sr_range1 B T.b_range (de_var B (i := 0) rfl rfl (.inl rfl)) rfl ?r3 ?r4) _ (fun i hi => (dg_name B (i := 4) rfl (.inr ⟨rfl, Bf _⟩))) ?h0_8 ?j0_9 (fun F1 u i hi hj => ?gb_10) (fun hj => ?ge_11)
  (case r3 => first | omega | decide)
  (case r4 => first | omega | decide)
  (case h0_8 => refine .same ?_; refine .same ?_; refine .im ?h ?_; (case h => exact Sub.rfl); refine .im ?h ?_; (case h => exact Sub.rfl); refine .any ?_; refine .any ?_; refine .any ?_; refine .any ?_; exact .nil)
  (case j0_9 => trivial)
  case gb_10 =>
    refine @go_nf _ _ _ _ _ _ [_, _, _, _, _, _, _, _] rfl ?go_12
    obtain ⟨hk1, hk2, hk3⟩ := lk5 hp (Nat.le_of_lt (show i < n by omega))
    refine go_set B (i := 5) (de_oN (R := (fun l => rLst X.K (List.map rInt l))) de_non) rfl (.inr ⟨rfl, Bf _⟩) ?go_13
    refine @go_nf _ _ _ _ _ _ [_, _, _, _, _, _, _, _] rfl ?go_14
    refine go_setL B (i := 6) (dl_lst da_nil (show (0 : Nat) ≤ sizeLine by decide)) rfl (.inl rfl) ?go_15
    refine @go_nf _ _ _ _ _ _ [_, _, _, _, _, _, _, _] rfl ?go_16
    refine go_forS B (fun i2 => [(5, .im (rOp (fun l => rLst X.K (List.map rInt l)) (spl ((lk rows i).2.take i2) i).1)), (6, .ow ((spl ((lk rows i).2.take i2) i).2.map fun l => rLst X.K (l.map rInt))), (7, .any)]) (fun i2 => True) (sr_listM (R := (fun l => rLst X.K (List.map rInt l))) [] (de_var B (i := 2) rfl rfl (.inl rfl))) _ (fun i2 hi2 => (dg_name B (i := 7) rfl (.inl rfl))) ?h0_17 ?j0_18 (fun F12 u2 i2 hi2 hj2 => ?gb_19) (fun hj2 => ?ge_20)
    (case h0_17 => refine .same ?_; refine .same ?_; refine .same ?_; refine .same ?_; refine .same ?_; refine .im ?h ?_; (case h => exact Sub.rfl); refine .ow ?h ?_; (case h => rfl); refine .any ?_; exact .nil)
    (case j0_18 => trivial)
    case gb_19 =>
      refine @go_nf _ _ _ _ _ _ [_, _, _, _, _, _, _, _] rfl ?go_21
      refine go_if (DW.t (dw_and (dt_oIs (R := (fun l => rLst X.K (List.map rInt l))) (fun _ => notNon_lst) (de_var B (i := 5) rfl rfl (.inr (.inl rfl)))) (fun hb1 => (dw_and1 (dt_neI (de_ixM (R := rInt) (0 : Int) ?xl5 ?xh6 (de_var B (i := 7) rfl rfl (.inl rfl)) (de_var B (i := 4) rfl rfl (.inr (.inl rfl)))) de_int))))) (fun hc => ?gt_22) (fun hc => ?gf_23)
      (case xl5 => omega)
      (case xh6 => (rw [(hk1 _ (getD_memL hi2)).1]; omega))
      case gt_22 =>
        skip
        refine go_set B (i := 5) (de_oS (R := (fun l => rLst X.K (List.map rInt l))) (de_var B (i := 7) rfl rfl (.inl rfl))) rfl (.inr ⟨rfl, Bf _⟩) ?go_24
        refine @go_nf _ _ _ _ _ _ [_, _, _, _, _, _, _, _] rfl ?go_25
        refine go_then ?go_26
        refine go_turnS ?jn_27 ?ln_28
        (case jn_27 => trivial)
        (case ln_28 => refine .same ?_; refine .same ?_; refine .same ?_; refine .same ?_; refine .same ?_; refine .im ?h ?_; (case h => first | exact Sub.of (by rw [spl_t hi2 hc]) | exact Sub.of (by rw [spl_f hi2 hc])); refine .ow ?h ?_; (case h => first | rw [spl_t hi2 hc] | (rw [spl_f hi2 hc, List.map_append]; rfl)); refine .any ?_; exact .nil)
      case gf_23 =>
        skip
        refine go_append B (i := 6) rfl (de_var B (i := 7) rfl rfl (.inl rfl)) ?s7 rfl (.inl rfl) ?go_29
        (case s7 => rw [List.length_map]; have := (spl_sub (c := i) (Nat.le_of_lt hi2)).2.1; exact Nat.lt_of_le_of_lt (show _ ≤ 12 by omega) (by decide))
        refine @go_nf _ _ _ _ _ _ [_, _, _, _, _, _, _, _] rfl ?go_30
        refine go_then ?go_31
        refine go_turnS ?jn_32 ?ln_33
        (case jn_32 => trivial)
        (case ln_33 => refine .same ?_; refine .same ?_; refine .same ?_; refine .same ?_; refine .same ?_; refine .im ?h ?_; (case h => first | exact Sub.of (by rw [spl_t hi2 hc]) | exact Sub.of (by rw [spl_f hi2 hc])); refine .ow ?h ?_; (case h => first | rw [spl_t hi2 hc] | (rw [spl_f hi2 hc, List.map_append]; rfl)); refine .any ?_; exact .nil)
    case ge_20 =>
      refine @go_nf _ _ _ _ _ _ [_, _, _, _, _, _, _, _] rfl ?go_34
      rw [spl_all]
      refine go_if (dt_oNot (R := (fun l => rLst X.K (List.map rInt l))) (fun _ => notNon_lst) (de_var B (i := 5) rfl rfl (.inr (.inl rfl)))) (fun hc => ?gt_35) (fun hc => ?gf_36)
      case gt_35 =>
        skip
        refine go_set B (i := 3) (de_add (de_var B (i := 3) rfl rfl (.inl rfl)) de_int) rfl (.inl rfl) ?go_37
        refine @go_nf _ _ _ _ _ _ [_, _, _, _, _, _, _, _] rfl ?go_38
        refine go_frozH 6 rfl ?go_39
        refine @go_nf _ _ _ _ _ _ [_, _, _, _, _, _, _, _] rfl ?go_40
        refine go_setLc (l' := List.map (fun l => rLst X.K (List.map rInt l)) (((spl (lk rows i).2 i).2).map fun row => lcl row ((spl (lk rows i).2 i).1.getD []) i)) B [("_law_row", 7)] (sr_listM (R := (fun l => rLst X.K (List.map rInt l))) [] (de_h2l (de_var B (i := 6) rfl rfl (.inl rfl)))) (blkOk_by (by decide +kernel)) _ (fun _ => true) (fun i2 : Nat => rLst X.K ((lcl ((spl (lk rows i).2 i).2.getD i2 []) ((spl (lk rows i).2 i).1.getD []) i).map rInt)) ?sz10 (by decide) (fun _ _ _ _ _ B i2 hi => (dg_name B (i := 7) rfl (.inl rfl))) (fun _ _ _ _ _ B i2 hi => dts_nil) (fun _ _ _ _ _ B i2 hi hb => (CA.val (ca_call B (ok__law_cleared T) (by decide) (_, _, n, _) ?c_law_cleared_9 (da_cons (de_var B (i := 7) rfl rfl (.inl rfl)) (da_cons (de_oU (R := (fun l => rLst X.K (List.map rInt l))) [] ?oo8 (de_var B (i := 5) rfl rfl (.inr (.inl rfl)))) (da_cons (de_var B (i := 4) rfl rfl (.inr (.inl rfl))) da_nil))) rfl))) (hl := ?cl11) (iy := 2) (hNy := rfl) (hyl := rfl) (h := ?go_41) (hsw := fun env h => by cases env; subst h; with_unfolding_all rfl)
        (case oo8 => exact nn_t hc)
        (case c_law_cleared_9 => exact ⟨rk_cl5 hk1 hi hc, by omega, by omega⟩)
        (case sz10 => first | exact Nat.lt_of_le_of_lt hm (by decide) | (have := spl_all (R := (lk rows i).2) (c := i); have := (spl_sub (R := (lk rows i).2) (c := i) (Nat.le_refl _)).2.1; rw [spl_all] at this; exact Nat.lt_of_le_of_lt (show _ ≤ 12 by omega) (by decide)))
        (case cl11 => first | exact (lc_map (f := fun r : List Int => rLst X.K (r.map rInt))) | exact lc_mapL (g := fun row => lcl row ((spl (lk rows i).2 i).1.getD []) i))
        refine @go_nf _ _ _ _ _ _ [_, _, _, _, _, _, _, _] rfl ?go_42
        refine go_froz 2 rfl ?go_43
        refine @go_nf _ _ _ _ _ _ [_, _, _, _, _, _, _, _] rfl ?go_44
        refine go_then ?go_45
        refine go_turnS ?jn_46 ?ln_47
        (case jn_46 => trivial)
        (case ln_47 => refine .same ?_; refine .same ?_; refine .im ?h ?_; (case h => first | exact Sub.of (by rw [lk_t (isNone_f (d := []) (nn_t hc))]) | exact Sub.of (by rw [lk_f (isNone_t (nn_f hc))])); refine .im ?h ?_; (case h => first | exact Sub.of (by rw [lk_t (isNone_f (d := []) (nn_t hc))]; rfl) | exact Sub.of (by rw [lk_f (isNone_t (nn_f hc))])); refine .any ?_; refine .any ?_; refine .any ?_; refine .any ?_; exact .nil)
      case gf_36 =>
        skip
        refine go_then ?go_48
        refine go_turnS ?jn_49 ?ln_50
        (case jn_49 => trivial)
        (case ln_50 => refine .same ?_; refine .same ?_; refine .im ?h ?_; (case h => first | exact Sub.of (by rw [lk_t (isNone_f (d := []) (nn_t hc))]) | exact Sub.of (by rw [lk_f (isNone_t (nn_f hc))])); refine .im ?h ?_; (case h => first | exact Sub.of (by rw [lk_t (isNone_f (d := []) (nn_t hc))]; rfl) | exact Sub.of (by rw [lk_f (isNone_t (nn_f hc))])); refine .any ?_; refine .any ?_; refine .any ?_; refine .any ?_; exact .nil)
  case ge_11 =>
    refine @go_nf _ _ _ _ _ _ [_, _, _, _, _, _, _, _] rfl ?go_51
    refine go_ret R (de_var B (i := 3) rfl rfl (.inl rfl)) ?rs_52
    (case rs_52 => exact Sub.of (congrArg (fun k : Nat => rInt (k : Int)) (by rw [Int.toNat_natCast]; exact lk_all hp.len)))
theorem sc__law_spans : FnScope ["_law_size", "_law_rows_here", "_law_numbers_here", "_law_common", "_law_x", "_law_whole"] ["_law_size", "_law_rows_here", "_law_numbers_here"] (defScope s__law_spans) := ⟨rfl, rfl, rfl, by decide +kernel, rfl, by decide +kernel, by decide +kernel⟩
def sp__law_spans (K : PySem.W.Frag) (cs : Cs) : Sp := Pm (ι := List Str × List (List Int) × List Rat) (fun ⟨names, rows, qs⟩ => SpOk names rows qs) (fun ⟨names, rows, qs⟩ => [rInt ((names.length : Nat) : Int), rLh (rows.map fun l => rLst K (l.map rInt)), rLst K (qs.map (rNum K))]) (fun ⟨names, rows, qs⟩ => .val (rBl (isTab (bkR names rows) qs)))
theorem ok__law_spans (T : Txt K mg cs) : Cal P w K mg base 4 "_law_spans" (sp__law_spans K cs) := by
  refine cal_ok T.d__law_spans sc__law_spans (fun g => rfl) (fun _ _ _ _ _ _ us hl => match us, hl with | [_, _, _], _ => rfl) ?_
  rintro X rfl rfl rfl rfl rfl B Bf ⟨names, rows, qs⟩ F0 H0 D hp R hnx
  obtain ⟨D, hD1, hD2, hN⟩ := hp.nums
  have hn6 := hp.n6
  have hql := hp.ql
  refine @go_nf _ _ _ _ _ _ [_, _, _, _, _, _] rfl ?go_1
  refine go_set B (i := 3) de_int rfl (.inr ⟨rfl, Bf _⟩) ?go_2
  refine @go_nf _ _ _ _ _ _ [_, _, _, _, _, _] rfl ?go_3
  refine go_forS B (fun i => [(3, .im (rInt ((lcmD (qs.take i) : Nat) : Int))), (4, .any)]) (fun i => True) (sr_listM (R := (rNum X.K)) (0 : Rat) (de_var B (i := 2) rfl rfl (.inl rfl))) _ (fun i hi => (dg_name B (i := 4) rfl (.inl rfl))) ?h0_4 ?j0_5 (fun F1 u i hi hj => ?gb_6) (fun hj => ?ge_7)
  (case h0_4 => refine .same ?_; refine .same ?_; refine .same ?_; refine .im ?h ?_; (case h => exact Sub.rfl); refine .any ?_; refine .same ?_; exact .nil)
  (case j0_5 => trivial)
  case gb_6 =>
    refine @go_nf _ _ _ _ _ _ [_, _, _, _, _, _] rfl ?go_8
    refine go_set B (i := 3) (de_divG ?z3 ?d4 (de_mulG ?m1 (de_var B (i := 3) rfl rfl (.inr (.inl rfl))) (CA.val (ca_call B (ok__law_bottom T) (by decide) _ trivial (da_cons (de_var B (i := 4) rfl rfl (.inl rfl)) da_nil) rfl))) (CA.val (ca_call B (ok__law_gcd T) (by decide) (_, _) ?c_law_gcd_2 (da_cons (de_var B (i := 3) rfl rfl (.inr (.inl rfl))) (da_cons (CA.val (ca_call B (ok__law_bottom T) (by decide) _ trivial (da_cons (de_var B (i := 4) rfl rfl (.inl rfl)) da_nil) rfl)) da_nil)) rfl))) rfl (.inr ⟨rfl, Bf _⟩) ?go_9
    (case m1 => first | exact low_m (Nat.lt_trans (hN.lcmT hD2 (by decide) i) (by decide)) (Nat.lt_trans (hN.den hD2 (by decide) (DL.getD_mem hi)) (by decide)) | exact hN.top_m hD2 hi)
    (case c_law_gcd_2 => exact ⟨Nat.lt_trans (hN.lcmT hD2 (by decide) i) (by decide), Nat.lt_trans (hN.den hD2 (by decide) (DL.getD_mem hi)) (by decide)⟩)
    (case z3 => first | exact gcd_nz | exact den_neI _)
    (case d4 => first | exact hN.gcd hD2 hi | exact Nat.lt_trans (hN.den hD2 (by decide) (DL.getD_mem hi)) (by decide))
    refine @go_nf _ _ _ _ _ _ [_, _, _, _, _, _] rfl ?go_10
    refine go_turnS ?jn_11 ?ln_12
    (case jn_11 => trivial)
    (case ln_12 => refine .same ?_; refine .same ?_; refine .same ?_; refine .im ?h ?_; (case h => exact Sub.of (by rw [lcmD_step hi, lcm_fdiv])); refine .any ?_; refine .same ?_; exact .nil)
  case ge_7 =>
    refine @go_nf _ _ _ _ _ _ [_, _, _, _, _, _] rfl ?go_13
    rw [List.take_length]
    refine go_setLc (l' := List.map rInt (tops qs)) B [("_law_x", 4)] (sr_listM (R := (rNum X.K)) (0 : Rat) (de_var B (i := 2) rfl rfl (.inl rfl))) (blkOk_by (by decide +kernel)) _ (fun _ => true) (fun i : Nat => rInt (topq (lcmD qs) (qs.getD i 0))) ?sz8 (by decide) (fun _ _ _ _ _ B i hi => (dg_name B (i := 4) rfl (.inl rfl))) (fun _ _ _ _ _ B i hi => dts_nil) (fun _ _ _ _ _ B i hi hb => (de_mulG ?m7 (CA.val (ca_call B (ok__law_top T) (by decide) _ trivial (da_cons (de_var B (i := 4) rfl rfl (.inl rfl)) da_nil) rfl)) (de_divG ?z5 ?d6 (de_var B (i := 3) rfl rfl (.inr (.inl rfl))) (CA.val (ca_call B (ok__law_bottom T) (by decide) _ trivial (da_cons (de_var B (i := 4) rfl rfl (.inl rfl)) da_nil) rfl))))) (hl := ?cl9) (iy := 5) (hNy := rfl) (hyl := rfl) (h := ?go_14) (hsw := fun env h => by cases env; subst h; with_unfolding_all rfl)
    (case z5 => first | exact gcd_nz | exact den_neI _)
    (case d6 => first | exact hN.gcd hD2 hi | exact Nat.lt_trans (hN.den hD2 (by decide) (DL.getD_mem hi)) (by decide))
    (case m7 => first | exact low_m (Nat.lt_trans (hN.lcmT hD2 (by decide) i) (by decide)) (Nat.lt_trans (hN.den hD2 (by decide) (DL.getD_mem hi)) (by decide)) | exact hN.top_m hD2 hi)
    (case sz8 => exact Nat.lt_of_le_of_lt (show _ ≤ 6 by omega) (by decide))
    (case cl9 => first | exact lc_int | (rw [List.map_append]; rfl))
    refine @go_nf _ _ _ _ _ _ [_, _, _, _, _, _] rfl ?go_15
    refine go_froz 5 rfl ?go_16
    refine @go_nf _ _ _ _ _ _ [_, _, _, _, _, _] rfl ?go_17
    refine go_ret R (de_eqI (CA.val (ca_call B (ok__law_rank T) (by decide) (rows ++ [tops qs], names.length) ?c_k1_12 (da_cons (de_var B (i := 0) rfl rfl (.inl rfl)) (da_cons (DL.froz (DL.to (l' := List.map (fun l => rLst X.K (List.map rInt l)) (rows ++ [tops qs])) (dl_catH ?cz10 (de_var B (i := 1) rfl rfl (.inl rfl)) (DL.hfz (dl_lst (da_cons (de_var B (i := 5) rfl rfl (.inl rfl)) da_nil) (show (1 : Nat) ≤ sizeLine by decide)))) ?cl11)) da_nil)) rfl)) (CA.val (ca_call B (ok__law_rank T) (by decide) (rows, names.length) ?c_k2_13 (da_cons (de_var B (i := 0) rfl rfl (.inl rfl)) (da_cons (de_h2l (de_var B (i := 1) rfl rfl (.inl rfl))) da_nil)) rfl))) ?rs_18
    (case cz10 => rw [List.length_map]; have := hp.m; exact Nat.le_trans (show _ ≤ 12 by simp; omega) (by decide))
    (case cl11 => first | exact lc_int | (rw [List.map_append]; rfl))
    (case c_k1_12 => exact hp.r1 hN)
    (case c_k2_13 => exact hp.r2)
    (case rs_18 => exact Sub.of (congrArg rBl (hp.ans)))
end K45

set_option Elab.async false
set_option linter.all false
set_option maxRecDepth 100000
set_option maxHeartbeats 4000000
namespace K45
open PySem PySem.Spec PyProof.Rows L2 DL
variable {P : Program} {w : World} {K : PySem.W.Frag} {mg : Str → Option Value} {base : Heap} {cs : Cs}
theorem sc__law_rows : FnScope ["_law_size", "_law_many", "_law_numbers_here", "_law_head", "_law_reach", "_law_k", "_law_j"] ["_law_size", "_law_many", "_law_numbers_here", "_law_head"] (defScope s__law_rows) := ⟨rfl, rfl, rfl, by decide +kernel, rfl, by decide +kernel, by decide +kernel⟩
def sp__law_rows (K : PySem.W.Frag) (cs : Cs) : Sp := Pm (ι := Nat × Nat × List Int × List Int) (fun ⟨n, many, ds, hd⟩ => n ≤ 6 ∧ many ≤ 6 ∧ ds.length = 36 ∧ 4 ≤ hd.length) (fun ⟨n, many, ds, hd⟩ => [rInt (n : Int), rInt (many : Int), rLst K (ds.map rInt), rLst K (hd.map rInt)]) (fun ⟨n, many, ds, hd⟩ => .lst ((rowsW n many ds hd).map fun l => rLst K (l.map rInt)))
theorem ok__law_rows (T : Txt K mg cs) : Cal P w K mg base 1 "_law_rows" (sp__law_rows K cs) := by
  refine cal_ok T.d__law_rows sc__law_rows (fun g => rfl) (fun _ _ _ _ _ _ us hl => match us, hl with | [_, _, _, _], _ => rfl) ?_
  rintro X rfl rfl rfl rfl rfl B Bf ⟨n, many, ds, hd⟩ F0 H0 D hp R hnx
  obtain ⟨h1, h2, h3, h4⟩ := hp
  have hb := rchZ_b hd
  refine @go_nf _ _ _ _ _ _ [_, _, _, _, _, _, _] rfl ?go_1
  refine go_if (dt_eqI (de_mod ?z3 (de_toInt B T.b_int (de_ixM (R := rInt) (0 : Int) ?xl1 ?xh2 (de_var B (i := 3) rfl rfl (.inl rfl)) de_int) rfl) de_int) de_int) (fun hc => ?gt_2) (fun hc => ?gf_3)
  (case xl1 => first | decide | omega)
  (case xh2 => omega)
  (case z3 => first | decide | (show (2 * rchZ hd + 1 : Int) ≠ 0; omega))
  case gt_2 =>
    have hr := hc
    refine go_retL R (DL.to (l' := List.map (fun l => rLst X.K (List.map rInt l)) ((List.range n).map (rowI n))) (dl_lc B [("_law_k", 5)] (sr_range1 B T.b_range (de_var B (i := 0) rfl rfl (.inr (.inl rfl))) rfl ?r4 ?r5) (blkOk_by (by decide +kernel)) _ (fun _ => true) (fun i : Nat => rLst X.K ((rowI n i).map rInt)) ?sz10 (by decide) (fun _ _ _ _ _ B i hi => (dg_name B (i := 5) rfl (.inr ⟨rfl, rfl⟩))) (fun _ _ _ _ _ B i hi => dts_nil) (fun _ _ _ _ _ B i hi hb => (DL.froz (DL.to (l' := List.map rInt (rowI n i)) (dl_lc B [("_law_j", 6)] (sr_range1 B T.b_range (de_var B (i := 0) rfl rfl (.inr (.inl rfl))) rfl ?r6 ?r7) (blkOk_by (by decide +kernel)) _ (fun _ => true) (fun i2 : Nat => rInt (if decide ((i2 : Int) = (i : Int)) = true then 1 else 0)) ?sz8 (by decide) (fun _ _ _ _ _ B i2 hi => (dg_name B (i := 6) rfl (.inl rfl))) (fun _ _ _ _ _ B i2 hi => dts_nil) (fun _ _ _ _ _ B i2 hi hb => (de_intB B T.b_int (de_eqI (de_var B (i := 6) rfl rfl (.inl rfl)) (de_var B (i := 5) rfl rfl (.inr (.inl rfl)))) rfl))) ?cl9)))) ?cl11) ?rs_4
    (case r4 => first | omega | decide)
    (case r5 => first | omega | decide)
    (case r6 => first | omega | decide)
    (case r7 => first | omega | decide)
    (case sz8 => exact Nat.lt_of_le_of_lt (show _ ≤ 6 by omega) (by decide))
    (case cl9 => first | exact rg_lc (f := fun j : Nat => (if decide ((j : Int) = (i : Int)) = true then (1 : Int) else 0)) (R := rInt) | exact rg_lc (f := fun j : Nat => (ds.getD (6 * (i : Int) + (j : Int)).toNat 0).fmod (2 * rchZ hd + 1) - rchZ hd) (R := rInt) | exact rg_lc (f := rowI n) (R := fun l => rLst X.K (List.map rInt l)) | exact rg_lc (f := rowD n ds hd) (R := fun l => rLst X.K (List.map rInt l)))
    (case sz10 => exact Nat.lt_of_le_of_lt (show _ ≤ 6 by omega) (by decide))
    (case cl11 => first | exact rg_lc (f := fun j : Nat => (if decide ((j : Int) = (i : Int)) = true then (1 : Int) else 0)) (R := rInt) | exact rg_lc (f := fun j : Nat => (ds.getD (6 * (i : Int) + (j : Int)).toNat 0).fmod (2 * rchZ hd + 1) - rchZ hd) (R := rInt) | exact rg_lc (f := rowI n) (R := fun l => rLst X.K (List.map rInt l)) | exact rg_lc (f := rowD n ds hd) (R := fun l => rLst X.K (List.map rInt l)))
    (case rs_4 => first | rw [← rw_t hr] | rw [← rw_f hr])
  case gf_3 =>
    have hr := hc
    refine go_then ?go_5
    refine go_set B (i := 4) (de_add de_int (de_mulG ?m15 de_int (de_intB B T.b_int (de_eqI (de_mod ?z14 (de_toInt B T.b_int (de_ixM (R := rInt) (0 : Int) ?xl12 ?xh13 (de_var B (i := 3) rfl rfl (.inl rfl)) de_int) rfl) de_int) de_int) rfl))) rfl (.inr ⟨rfl, Bf _⟩) ?go_6
    (case xl12 => first | decide | omega)
    (case xh13 => omega)
    (case z14 => first | decide | (show (2 * rchZ hd + 1 : Int) ≠ 0; omega))
    (case m15 => first | exact low_m (lg_sm (by decide)) (lg_sm (by split <;> decide)) | exact low_m (lg_sm (by decide)) (lg_sm (by omega)))
    refine @go_nf _ _ _ _ _ _ [_, _, _, _, _, _, _] rfl ?go_7
    refine go_retL R (DL.to (l' := List.map (fun l => rLst X.K (List.map rInt l)) ((List.range many).map (rowD n ds hd))) (dl_lc B [("_law_k", 5)] (sr_range1 B T.b_range (de_var B (i := 1) rfl rfl (.inl rfl)) rfl ?r16 ?r17) (blkOk_by (by decide +kernel)) _ (fun _ => true) (fun i : Nat => rLst X.K ((rowD n ds hd i).map rInt)) ?sz27 (by decide) (fun _ _ _ _ _ B i hi => (dg_name B (i := 5) rfl (.inr ⟨rfl, rfl⟩))) (fun _ _ _ _ _ B i hi => dts_nil) (fun _ _ _ _ _ B i hi hb => (DL.froz (DL.to (l' := List.map rInt (rowD n ds hd i)) (dl_lc B [("_law_j", 6)] (sr_range1 B T.b_range (de_var B (i := 0) rfl rfl (.inr (.inl rfl))) rfl ?r18 ?r19) (blkOk_by (by decide +kernel)) _ (fun _ => true) (fun i2 : Nat => rInt ((ds.getD (6 * (i : Int) + (i2 : Int)).toNat 0).fmod (2 * rchZ hd + 1) - rchZ hd)) ?sz25 (by decide) (fun _ _ _ _ _ B i2 hi => (dg_name B (i := 6) rfl (.inl rfl))) (fun _ _ _ _ _ B i2 hi => dts_nil) (fun _ _ _ _ _ B i2 hi hb => (de_sub (de_mod ?z24 (de_toInt B T.b_int (de_ixM (R := rInt) (0 : Int) ?xl21 ?xh22 (de_var B (i := 2) rfl rfl (.inr (.inl rfl))) (de_add (de_mulG ?m20 de_int (de_var B (i := 5) rfl rfl (.inr (.inl rfl)))) (de_var B (i := 6) rfl rfl (.inl rfl)))) rfl) (de_add (de_mulG ?m23 de_int (de_var B (i := 4) rfl rfl (.inr (.inl rfl)))) de_int)) (de_var B (i := 4) rfl rfl (.inr (.inl rfl)))))) ?cl26)))) ?cl28) ?rs_8
    (case r16 => first | omega | decide)
    (case r17 => first | omega | decide)
    (case r18 => first | omega | decide)
    (case r19 => first | omega | decide)
    (case m20 => first | exact low_m (lg_sm (by decide)) (lg_sm (by split <;> decide)) | exact low_m (lg_sm (by decide)) (lg_sm (by omega)))
    (case xl21 => first | decide | omega)
    (case xh22 => omega)
    (case m23 => first | exact low_m (lg_sm (by decide)) (lg_sm (by split <;> decide)) | exact low_m (lg_sm (by decide)) (lg_sm (by omega)))
    (case z24 => first | decide | (show (2 * rchZ hd + 1 : Int) ≠ 0; omega))
    (case sz25 => exact Nat.lt_of_le_of_lt (show _ ≤ 6 by omega) (by decide))
    (case cl26 => first | exact rg_lc (f := fun j : Nat => (if decide ((j : Int) = (i : Int)) = true then (1 : Int) else 0)) (R := rInt) | exact rg_lc (f := fun j : Nat => (ds.getD (6 * (i : Int) + (j : Int)).toNat 0).fmod (2 * rchZ hd + 1) - rchZ hd) (R := rInt) | exact rg_lc (f := rowI n) (R := fun l => rLst X.K (List.map rInt l)) | exact rg_lc (f := rowD n ds hd) (R := fun l => rLst X.K (List.map rInt l)))
    (case sz27 => exact Nat.lt_of_le_of_lt (show _ ≤ 6 by omega) (by decide))
    (case cl28 => first | exact rg_lc (f := fun j : Nat => (if decide ((j : Int) = (i : Int)) = true then (1 : Int) else 0)) (R := rInt) | exact rg_lc (f := fun j : Nat => (ds.getD (6 * (i : Int) + (j : Int)).toNat 0).fmod (2 * rchZ hd + 1) - rchZ hd) (R := rInt) | exact rg_lc (f := rowI n) (R := fun l => rLst X.K (List.map rInt l)) | exact rg_lc (f := rowD n ds hd) (R := fun l => rLst X.K (List.map rInt l)))
    (case rs_8 => first | rw [← rw_t hr] | rw [← rw_f hr])
theorem sc__law_sum : FnScope ["_law_size", "_law_rows_here", "_law_factors", "_law_table", "_law_k", "_law_j"] ["_law_size", "_law_rows_here", "_law_factors"] (defScope s__law_sum) := ⟨rfl, rfl, rfl, by decide +kernel, rfl, by decide +kernel, by decide +kernel⟩
def sp__law_sum (K : PySem.W.Frag) (cs : Cs) : Sp := Pm (ι := Nat × List (List Int) × List Int) (fun ⟨n, rows, fs⟩ => n ≤ 6 ∧ rows.length ≤ fs.length ∧ fs.length ≤ 40 ∧ (∀ r ∈ rows, r.length = n) ∧ (∀ r ∈ rows, ∀ j, (r.getD j 0).natAbs ≤ 9) ∧ ∀ x ∈ fs, Lg x < 1000) (fun ⟨n, rows, fs⟩ => [rInt (n : Int), rLst K (rows.map fun l => rLst K (l.map rInt)), rLst K (fs.map rInt)]) (fun ⟨n, rows, fs⟩ => .val (rLh ((sumZ n rows fs rows.length).map rInt)))
theorem ok__law_sum (T : Txt K mg cs) : Cal P w K mg base 1 "_law_sum" (sp__law_sum K cs) := by
  refine cal_ok T.d__law_sum sc__law_sum (fun g => rfl) (fun _ _ _ _ _ _ us hl => match us, hl with | [_, _, _], _ => rfl) ?_
  rintro X rfl rfl rfl rfl rfl B Bf ⟨n, rows, fs⟩ F0 H0 D hp R hnx
  obtain ⟨h1, h2, h3, h4, h5, h6⟩ := hp
  refine @go_nf _ _ _ _ _ _ [_, _, _, _, _, _] rfl ?go_1
  refine go_setL B (i := 3) (DL.to (l' := List.map rInt (sumZ n rows fs 0)) (dl_lc B [("_law_k", 4)] (sr_range1 B T.b_range (de_var B (i := 0) rfl rfl (.inl rfl)) rfl ?r1 ?r2) (blkOk_by (by decide +kernel)) _ (fun _ => true) (fun _ : Nat => rInt 0) ?sz3 (by decide) (fun _ _ _ _ _ B i hi => (dg_name B (i := 4) rfl (.inl rfl))) (fun _ _ _ _ _ B i hi => dts_nil) (fun _ _ _ _ _ B i hi hb => de_int)) ?cl4) rfl (.inr ⟨rfl, Bf _⟩) ?go_2 (hs := by have h := B.hsc; revert h; generalize X.env = env; intro h; cases env; subst h; with_unfolding_all rfl)
  (case r1 => first | omega | decide)
  (case r2 => first | omega | decide)
  (case sz3 => exact Nat.lt_of_le_of_lt (show _ ≤ 6 by omega) (by decide))
  (case cl4 => first | exact rg_lc (f := fun _ => (0 : Int)) (R := rInt) | exact rg_lc (f := fun j : Nat => (sumZ n rows fs i).getD j 0 + fs.getD i 0 * (rows.getD i []).getD j 0) (R := rInt))
  refine @go_nf _ _ _ _ _ _ [_, _, _, _, _, _] rfl ?go_3
  refine go_frozH 3 rfl ?go_4
  refine @go_nf _ _ _ _ _ _ [_, _, _, _, _, _] rfl ?go_5
  refine go_forS B (fun i => [(3, .im (rLh ((sumZ n rows fs i).map rInt))), (4, .any)]) (fun i => True) (sr_range1 B T.b_range (de_lenM B T.b_len (de_var B (i := 1) rfl rfl (.inr (.inl rfl))) rfl) rfl ?r5 ?r6) _ (fun i hi => (dg_name B (i := 4) rfl (.inr ⟨rfl, Bf _⟩))) ?h0_6 ?j0_7 (fun F1 u i hi hj => ?gb_8) (fun hj => ?ge_9)
  (case r5 => first | omega | decide)
  (case r6 => first | omega | decide)
  (case h0_6 => refine .same ?_; refine .same ?_; refine .same ?_; refine .im ?h ?_; (case h => exact Sub.rfl); refine .any ?_; refine .same ?_; exact .nil)
  (case j0_7 => trivial)
  case gb_8 =>
    refine @go_nf _ _ _ _ _ _ [_, _, _, _, _, _] rfl ?go_10
    refine go_setL B (i := 3) (DL.to (l' := List.map rInt (sumZ n rows fs (i + 1))) (dl_lc B [("_law_j", 5)] (sr_range1 B T.b_range (de_var B (i := 0) rfl rfl (.inl rfl)) rfl ?r7 ?r8) (blkOk_by (by decide +kernel)) _ (fun _ => true) (fun i2 : Nat => rInt ((sumZ n rows fs i).getD ((i2 : Nat) : Int).toNat 0 + fs.getD ((i : Nat) : Int).toNat 0 * (rows.getD ((i : Nat) : Int).toNat []).getD ((i2 : Nat) : Int).toNat 0)) ?sz18 (by decide) (fun _ _ _ _ _ B i2 hi => (dg_name B (i := 5) rfl (.inl rfl))) (fun _ _ _ _ _ B i2 hi => dts_nil) (fun _ _ _ _ _ B i2 hi hb => (de_add (de_ixM (R := rInt) (0 : Int) ?xl9 ?xh10 (de_h2l (de_var B (i := 3) rfl rfl (.inr (.inl rfl)))) (de_var B (i := 5) rfl rfl (.inl rfl))) (de_mulG ?m17 (de_ixM (R := rInt) (0 : Int) ?xl11 ?xh12 (de_var B (i := 2) rfl rfl (.inr (.inl rfl))) (de_var B (i := 4) rfl rfl (.inr (.inl rfl)))) (de_ixM (R := rInt) (0 : Int) ?xl15 ?xh16 (de_ixM (R := (fun l => rLst X.K (List.map rInt l))) [] ?xl13 ?xh14 (de_var B (i := 1) rfl rfl (.inr (.inl rfl))) (de_var B (i := 4) rfl rfl (.inr (.inl rfl)))) (de_var B (i := 5) rfl rfl (.inl rfl))))))) ?cl19) rfl (.inr ⟨rfl, Bf _⟩) ?go_11 (hs := by have h := B.hsc; revert h; generalize X.env = env; intro h; cases env; subst h; with_unfolding_all rfl)
    (case r7 => first | omega | decide)
    (case r8 => first | omega | decide)
    (case xl9 => omega)
    (case xh10 => first | omega | (rw [sumZ_len]; omega) | (rw [h4 _ (getD_memL (by omega))]; omega))
    (case xl11 => omega)
    (case xh12 => first | omega | (rw [sumZ_len]; omega) | (rw [h4 _ (getD_memL (by omega))]; omega))
    (case xl13 => omega)
    (case xh14 => first | omega | (rw [sumZ_len]; omega) | (rw [h4 _ (getD_memL (by omega))]; omega))
    (case xl15 => omega)
    (case xh16 => first | omega | (rw [sumZ_len]; omega) | (rw [h4 _ (getD_memL (by omega))]; omega))
    (case m17 => exact low_m (Nat.lt_trans (h6 _ (DL.getD_mem (by omega))) (by decide)) (Nat.lt_of_lt_of_le (lg_b (h5 _ (getD_memL (by omega)) _) (show (9 : Nat) < 2 ^ 4 by decide) (by decide)) (by decide)))
    (case sz18 => exact Nat.lt_of_le_of_lt (show _ ≤ 6 by omega) (by decide))
    (case cl19 => first | exact rg_lc (f := fun _ => (0 : Int)) (R := rInt) | exact rg_lc (f := fun j : Nat => (sumZ n rows fs i).getD j 0 + fs.getD i 0 * (rows.getD i []).getD j 0) (R := rInt))
    refine @go_nf _ _ _ _ _ _ [_, _, _, _, _, _] rfl ?go_12
    refine go_frozH 3 rfl ?go_13
    refine @go_nf _ _ _ _ _ _ [_, _, _, _, _, _] rfl ?go_14
    refine go_turnS ?jn_15 ?ln_16
    (case jn_15 => trivial)
    (case ln_16 => refine .same ?_; refine .same ?_; refine .same ?_; refine .im ?h ?_; (case h => exact Sub.rfl); refine .any ?_; refine .same ?_; exact .nil)
  case ge_9 =>
    refine @go_nf _ _ _ _ _ _ [_, _, _, _, _, _] rfl ?go_17
    refine go_ret R (de_var B (i := 3) rfl rfl (.inr (.inl rfl))) ?rs_18
    (case rs_18 => exact Sub.rfl)
theorem sc__law_chance : FnScope ["_law_table", "_law_whole", "_law_best", "_law_k", "_law_part"] ["_law_table", "_law_whole"] (defScope s__law_chance) := ⟨rfl, rfl, rfl, by decide +kernel, rfl, by decide +kernel, by decide +kernel⟩
def sp__law_chance (K : PySem.W.Frag) (cs : Cs) : Sp := Pm (ι := List Rat × List Rat) (fun ⟨ts, ws⟩ => ts.length ≤ 40 ∧ ws.length = ts.length ∧ ∀ q ∈ ts, Sz 78 q) (fun ⟨ts, ws⟩ => [rLst K (ts.map (rNum K)), rLst K (ws.map (rNum K))]) (fun ⟨ts, ws⟩ => .val (rNum K (lch ts ws ts.length)))
theorem ok__law_chance (T : Txt K mg cs) : Cal P w K mg base 4 "_law_chance" (sp__law_chance K cs) := by
  refine cal_ok T.d__law_chance sc__law_chance (fun g => rfl) (fun _ _ _ _ _ _ us hl => match us, hl with | [_, _], _ => rfl) ?_
  rintro X rfl rfl rfl rfl rfl B Bf ⟨ts, ws⟩ F0 H0 D hp R hnx
  obtain ⟨h1, h2, h3⟩ := hp
  refine go_set B (i := 2) (de_i2n de_int) rfl (.inl rfl) ?go_1
  refine go_forS B (fun i => [(2, .im (rNum X.K (lch ts ws i))), (3, .any), (4, .any)]) (fun i => True) (sr_range1 B T.b_range (de_lenM B T.b_len (de_var B (i := 0) rfl rfl (.inl rfl)) rfl) rfl ?r1 ?r2) _ (fun i hi => (dg_name B (i := 3) rfl (.inl rfl))) ?h0_2 ?j0_3 (fun F1 u i hi hj => ?gb_4) (fun hj => ?ge_5)
  (case r1 => first | omega | decide)
  (case r2 => first | omega | decide)
  (case h0_2 => refine .same ?_; refine .same ?_; refine .im ?h ?_; (case h => exact Sub.rfl); refine .any ?_; refine .any ?_; exact .nil)
  (case j0_3 => trivial)
  case gb_4 =>
    have hz := getD_szA h3 i
    refine go_if (dt_neI (CA.val (ca_call B (ok__law_bottom T) (by decide) _ trivial (da_cons (de_ixM (R := (rNum X.K)) (0 : Rat) ?xl3 ?xh4 (de_var B (i := 0) rfl rfl (.inl rfl)) (de_var B (i := 3) rfl rfl (.inl rfl))) da_nil) rfl)) de_int) (fun hc => ?gt_6) (fun hc => ?gf_7)
    (case xl3 => omega)
    (case xh4 => omega)
    case gt_6 =>
      have h5 := hc
      refine go_set B (i := 4) (CA.val (ca_call B (ok__law_plus T) (by decide) (_, _) ?c_pf_10 (da_cons (de_ixM (R := (rNum X.K)) (0 : Rat) ?xl5 ?xh6 (de_var B (i := 0) rfl rfl (.inl rfl)) (de_var B (i := 3) rfl rfl (.inl rfl))) (da_cons (de_i2n (de_neg (CA.val (ca_call B (ok__law_floor T) (by decide) _ ?c_law_floor_9 (da_cons (de_ixM (R := (rNum X.K)) (0 : Rat) ?xl7 ?xh8 (de_var B (i := 0) rfl rfl (.inl rfl)) (de_var B (i := 3) rfl rfl (.inl rfl))) da_nil) rfl)))) da_nil)) rfl)) rfl (.inl rfl) ?go_8
      (case xl5 => omega)
      (case xh6 => omega)
      (case xl7 => omega)
      (case xh8 => omega)
      (case c_law_floor_9 => exact hz.mono (by decide))
      (case c_pf_10 => exact ⟨hz.mono (by decide), sz_int (by have := fl_lg0 hz; unfold Lg at *; rw [Int.natAbs_neg]; exact Nat.le_trans this (by decide))⟩)
      refine go_if (dt_eqN B (de_ixM (R := (rNum X.K)) (0 : Rat) ?xl11 ?xh12 (de_var B (i := 1) rfl rfl (.inl rfl)) (de_var B (i := 3) rfl rfl (.inl rfl))) (de_i2n (CA.val (ca_call B (ok__law_floor T) (by decide) _ ?c_law_floor_15 (da_cons (de_ixM (R := (rNum X.K)) (0 : Rat) ?xl13 ?xh14 (de_var B (i := 0) rfl rfl (.inl rfl)) (de_var B (i := 3) rfl rfl (.inl rfl))) da_nil) rfl)))) (fun hc => ?gt_9) (fun hc => ?gf_10)
      (case xl11 => omega)
      (case xh12 => omega)
      (case xl13 => omega)
      (case xh14 => omega)
      (case c_law_floor_15 => exact hz.mono (by decide))
      case gt_9 =>
        have h6 := hc
        refine go_set B (i := 4) (CA.val (ca_call B (ok__law_plus T) (by decide) (_, _) ?c_pc_22 (da_cons (de_i2n (CA.val (ca_call B (ok__law_ceiling T) (by decide) _ ?c_law_ceiling_18 (da_cons (de_ixM (R := (rNum X.K)) (0 : Rat) ?xl16 ?xh17 (de_var B (i := 0) rfl rfl (.inl rfl)) (de_var B (i := 3) rfl rfl (.inl rfl))) da_nil) rfl))) (da_cons (CA.val (ca_call B (ok__law_times T) (by decide) (_, _) ?c_law_times_21 (da_cons (de_ixM (R := (rNum X.K)) (0 : Rat) ?xl19 ?xh20 (de_var B (i := 0) rfl rfl (.inl rfl)) (de_var B (i := 3) rfl rfl (.inl rfl))) (da_cons (de_i2n (de_neg de_int)) da_nil)) rfl)) da_nil)) rfl)) rfl (.inl rfl) ?go_11
        (case xl16 => omega)
        (case xh17 => omega)
        (case c_law_ceiling_18 => exact hz.mono (by decide))
        (case xl19 => omega)
        (case xh20 => omega)
        (case c_law_times_21 => exact lt_s2 hz (sz_int (n := 0) (by decide)))
        (case c_pc_22 => exact ⟨(sz_ceil hz).mono (by decide), (sz_mul hz (sz_int (n := 0) (by decide))).mono (by decide)⟩)
        refine go_then ?go_12
        refine go_if (dt_val (CA.val (ca_call B (ok__law_less T) (by decide) (_, _) ?c_law_less_23 (da_cons (de_var B (i := 4) rfl rfl (.inl rfl)) (da_cons (de_var B (i := 2) rfl rfl (.inl rfl)) da_nil)) rfl))) (fun hc => ?gt_13) (fun hc => ?gf_14)
        (case c_law_less_23 => first | exact ⟨(congrArg (Sz 400) (lpt_t h6)).mpr ((lpt_sz hz).mono (by decide)), (lch_sz h3 i).mono (by decide)⟩ | exact ⟨(congrArg (Sz 400) (lpt_f h6)).mpr ((lpt_sz hz).mono (by decide)), (lch_sz h3 i).mono (by decide)⟩)
        case gt_13 =>
          have h7 := hc
          first | replace h7 := (lpt_t h6) ▸ h7 | replace h7 := (lpt_f h6) ▸ h7
          refine go_set B (i := 2) (de_var B (i := 4) rfl rfl (.inl rfl)) rfl (.inl rfl) ?go_15
          refine go_then ?go_16
          refine go_then ?go_17
          refine go_turnS ?jn_18 ?ln_19
          (case jn_18 => trivial)
          (case ln_19 => refine .same ?_; refine .same ?_; refine .im ?h ?_; (case h => first | exact Sub.of (congrArg (rNum X.K) (lch_n h5)) | exact Sub.of (congrArg (rNum X.K) ((lpt_t h6).trans (lch_t h5 h7))) | exact Sub.of (congrArg (rNum X.K) ((lpt_f h6).trans (lch_t h5 h7))) | exact Sub.of (congrArg (rNum X.K) (lch_f h5 h7))); refine .any ?_; refine .any ?_; exact .nil)
        case gf_14 =>
          have h7 := hc
          first | replace h7 := (lpt_t h6) ▸ h7 | replace h7 := (lpt_f h6) ▸ h7
          refine go_then ?go_20
          refine go_then ?go_21
          refine go_turnS ?jn_22 ?ln_23
          (case jn_22 => trivial)
          (case ln_23 => refine .same ?_; refine .same ?_; refine .im ?h ?_; (case h => first | exact Sub.of (congrArg (rNum X.K) (lch_n h5)) | exact Sub.of (congrArg (rNum X.K) ((lpt_t h6).trans (lch_t h5 h7))) | exact Sub.of (congrArg (rNum X.K) ((lpt_f h6).trans (lch_t h5 h7))) | exact Sub.of (congrArg (rNum X.K) (lch_f h5 h7))); refine .any ?_; refine .any ?_; exact .nil)
      case gf_10 =>
        have h6 := hc
        refine go_then ?go_24
        refine go_if (dt_val (CA.val (ca_call B (ok__law_less T) (by decide) (_, _) ?c_law_less_24 (da_cons (de_var B (i := 4) rfl rfl (.inl rfl)) (da_cons (de_var B (i := 2) rfl rfl (.inl rfl)) da_nil)) rfl))) (fun hc => ?gt_25) (fun hc => ?gf_26)
        (case c_law_less_24 => first | exact ⟨(congrArg (Sz 400) (lpt_t h6)).mpr ((lpt_sz hz).mono (by decide)), (lch_sz h3 i).mono (by decide)⟩ | exact ⟨(congrArg (Sz 400) (lpt_f h6)).mpr ((lpt_sz hz).mono (by decide)), (lch_sz h3 i).mono (by decide)⟩)
        case gt_25 =>
          have h7 := hc
          first | replace h7 := (lpt_t h6) ▸ h7 | replace h7 := (lpt_f h6) ▸ h7
          refine go_set B (i := 2) (de_var B (i := 4) rfl rfl (.inl rfl)) rfl (.inl rfl) ?go_27
          refine go_then ?go_28
          refine go_then ?go_29
          refine go_turnS ?jn_30 ?ln_31
          (case jn_30 => trivial)
          (case ln_31 => refine .same ?_; refine .same ?_; refine .im ?h ?_; (case h => first | exact Sub.of (congrArg (rNum X.K) (lch_n h5)) | exact Sub.of (congrArg (rNum X.K) ((lpt_t h6).trans (lch_t h5 h7))) | exact Sub.of (congrArg (rNum X.K) ((lpt_f h6).trans (lch_t h5 h7))) | exact Sub.of (congrArg (rNum X.K) (lch_f h5 h7))); refine .any ?_; refine .any ?_; exact .nil)
        case gf_26 =>
          have h7 := hc
          first | replace h7 := (lpt_t h6) ▸ h7 | replace h7 := (lpt_f h6) ▸ h7
          refine go_then ?go_32
          refine go_then ?go_33
          refine go_turnS ?jn_34 ?ln_35
          (case jn_34 => trivial)
          (case ln_35 => refine .same ?_; refine .same ?_; refine .im ?h ?_; (case h => first | exact Sub.of (congrArg (rNum X.K) (lch_n h5)) | exact Sub.of (congrArg (rNum X.K) ((lpt_t h6).trans (lch_t h5 h7))) | exact Sub.of (congrArg (rNum X.K) ((lpt_f h6).trans (lch_t h5 h7))) | exact Sub.of (congrArg (rNum X.K) (lch_f h5 h7))); refine .any ?_; refine .any ?_; exact .nil)
    case gf_7 =>
      have h5 := hc
      refine go_then ?go_36
      refine go_turnS ?jn_37 ?ln_38
      (case jn_37 => trivial)
      (case ln_38 => refine .same ?_; refine .same ?_; refine .im ?h ?_; (case h => first | exact Sub.of (congrArg (rNum X.K) (lch_n h5)) | exact Sub.of (congrArg (rNum X.K) ((lpt_t h6).trans (lch_t h5 h7))) | exact Sub.of (congrArg (rNum X.K) ((lpt_f h6).trans (lch_t h5 h7))) | exact Sub.of (congrArg (rNum X.K) (lch_f h5 h7))); refine .any ?_; refine .any ?_; exact .nil)
  case ge_5 =>
    refine go_ret R (de_var B (i := 2) rfl rfl (.inl rfl)) ?rs_39
    (case rs_39 => exact Sub.rfl)
theorem sc__law_moved : FnScope ["_law_numbers_here", "_law_at", "_law_step", "_law_made"] ["_law_numbers_here", "_law_at", "_law_step"] (defScope s__law_moved) := ⟨rfl, rfl, rfl, by decide +kernel, rfl, by decide +kernel, by decide +kernel⟩
def sp__law_moved (K : PySem.W.Frag) (cs : Cs) : Sp := Pm (ι := List Rat × Nat × Rat) (fun ⟨qs, a, s⟩ => a < qs.length ∧ Sz 400 (qs.getD a 0) ∧ Sz 400 s) (fun ⟨qs, a, s⟩ => [rLst K (qs.map (rNum K)), rInt (a : Int), rNum K s]) (fun ⟨qs, a, s⟩ => .lst ((movL qs a s).map (rNum K)))
theorem ok__law_moved (T : Txt K mg cs) : Cal P w K mg base 4 "_law_moved" (sp__law_moved K cs) := by
  refine cal_ok T.d__law_moved sc__law_moved (fun g => rfl) (fun _ _ _ _ _ _ us hl => match us, hl with | [_, _, _], _ => rfl) ?_
  rintro X rfl rfl rfl rfl rfl B Bf ⟨qs, a, s⟩ F0 H0 D hp R hnx
  refine go_setL B (i := 3) (dl_list B T.b_list (de_var B (i := 0) rfl rfl (.inl rfl)) rfl) rfl (.inl rfl) ?go_1
  refine go_putM (R := (rNum X.K)) B (i := 3) (CA.val (ca_call B (ok__law_plus T) (by decide) (_, _) ?c_law_plus_3 (da_cons (de_ixOM (R := (rNum X.K)) (0 : Rat) B (i := 3) rfl rfl (.inl rfl) ?xl1 ?xh2 (de_var B (i := 1) rfl rfl (.inl rfl))) (da_cons (de_var B (i := 2) rfl rfl (.inl rfl)) da_nil)) rfl)) (de_var B (i := 1) rfl rfl (.inl rfl)) ?xl4 ?xh5 rfl rfl (.inl rfl) ?go_2
  (case xl1 => omega)
  (case xh2 => have := hp.1; omega)
  (case c_law_plus_3 => exact hp.2)
  (case xl4 => omega)
  (case xh5 => have := hp.1; omega)
  refine go_retV B (i := 3) R rfl ?rs_3 rfl (.inl rfl)
  (case rs_3 => rfl)
theorem sc__law_due : FnScope ["_law_size", "_law_rows_here", "_law_table", "_law_whole", "_law_x", "_law_k"] ["_law_size", "_law_rows_here", "_law_table", "_law_whole"] (defScope s__law_due) := ⟨rfl, rfl, rfl, by decide +kernel, rfl, by decide +kernel, by decide +kernel⟩
def sp__law_due (K : PySem.W.Frag) (cs : Cs) : Sp := Pm (ι := List Str × List (List Int) × List Rat × List Rat) (fun ⟨names, rows, ts, ws⟩ => AkOk names rows ts ws) (fun ⟨names, rows, ts, ws⟩ => [rInt ((names.length : Nat) : Int), rLh (rows.map fun l => rLst K (l.map rInt)), rLst K (ts.map (rNum K)), rLst K (ws.map (rNum K))]) (fun ⟨names, rows, ts, ws⟩ => .val (rStr (dueS (bkR names rows) ts ws)))
theorem ok__law_due (T : Txt K mg cs) : Cal P w K mg base 5 "_law_due" (sp__law_due K cs) := by
  refine cal_ok T.d__law_due sc__law_due (fun g => rfl) (fun _ _ _ _ _ _ us hl => match us, hl with | [_, _, _, _], _ => rfl) ?_
  rintro X rfl rfl rfl rfl rfl B Bf ⟨names, rows, ts, ws⟩ F0 H0 D hp R hnx
  have hl1 := hp.l1
  have hl2 := hp.l2
  have hn6 := hp.n6
  refine @go_nf _ _ _ _ _ _ [_, _, _, _, _, _] rfl ?go_1
  refine go_if (dt_neI (de_lenM B T.b_len (de_var B (i := 2) rfl rfl (.inl rfl)) rfl) (de_var B (i := 0) rfl rfl (.inl rfl))) (fun hc => ?gt_2) (fun hc => ?gf_3)
  case gt_2 =>
    have g1 : ¬ ts.length = names.length := fun z => by rw [decide_eq_true (by omega)] at hc; cases hc
    refine go_ret R de_str ?rs_4
    (case rs_4 => first | exact Sub.of (congrArg rStr (Eq.symm (by unfold dueS; exact (if_neg g1).trans ((if_neg g2).trans ((if_neg g3).trans ((if_neg g4).trans ((if_neg g5).trans (if_neg g6)))))))) | exact Sub.of (congrArg rStr (Eq.symm (by unfold dueS; exact (if_neg g1).trans ((if_neg g2).trans ((if_neg g3).trans ((if_neg g4).trans ((if_neg g5).trans (if_pos g6)))))))) | exact Sub.of (congrArg rStr (Eq.symm (by unfold dueS; exact (if_neg g1).trans ((if_neg g2).trans ((if_neg g3).trans ((if_neg g4).trans (if_pos g5))))))) | exact Sub.of (congrArg rStr (Eq.symm (by unfold dueS; exact (if_neg g1).trans ((if_neg g2).trans ((if_neg g3).trans (if_pos g4)))))) | exact Sub.of (congrArg rStr (Eq.symm (by unfold dueS; exact (if_neg g1).trans ((if_neg g2).trans (if_pos g3))))) | exact Sub.of (congrArg rStr (Eq.symm (by unfold dueS; exact (if_neg g1).trans (if_pos g2)))) | exact Sub.of (congrArg rStr (Eq.symm (by unfold dueS; exact if_pos g1))))
  case gf_3 =>
    have g1 : ¬ ¬ ts.length = (bkR names rows).size := fun z => z (by have := of_decide_eq_true (nn_f hc); show ts.length = names.length; omega)
    have e1 : ts.length = names.length := Classical.not_not.mp g1
    refine go_then ?go_5
    refine go_if (dt_not (dt_val (CA.val (ca_call B (ok__law_spans T) (by decide) (_, _, _) ?c_law_spans_1 (da_cons (de_var B (i := 0) rfl rfl (.inl rfl)) (da_cons (de_var B (i := 1) rfl rfl (.inl rfl)) (da_cons (de_var B (i := 2) rfl rfl (.inl rfl)) da_nil))) rfl)))) (fun hc => ?gt_6) (fun hc => ?gf_7)
    (case c_law_spans_1 => first | exact hp.s1 e1 | exact hp.s2 e3)
    case gt_6 =>
      have g2 := nn_t hc
      refine go_ret R de_str ?rs_8
      (case rs_8 => first | exact Sub.of (congrArg rStr (Eq.symm (by unfold dueS; exact (if_neg g1).trans ((if_neg g2).trans ((if_neg g3).trans ((if_neg g4).trans ((if_neg g5).trans (if_neg g6)))))))) | exact Sub.of (congrArg rStr (Eq.symm (by unfold dueS; exact (if_neg g1).trans ((if_neg g2).trans ((if_neg g3).trans ((if_neg g4).trans ((if_neg g5).trans (if_pos g6)))))))) | exact Sub.of (congrArg rStr (Eq.symm (by unfold dueS; exact (if_neg g1).trans ((if_neg g2).trans ((if_neg g3).trans ((if_neg g4).trans (if_pos g5))))))) | exact Sub.of (congrArg rStr (Eq.symm (by unfold dueS; exact (if_neg g1).trans ((if_neg g2).trans ((if_neg g3).trans (if_pos g4)))))) | exact Sub.of (congrArg rStr (Eq.symm (by unfold dueS; exact (if_neg g1).trans ((if_neg g2).trans (if_pos g3))))) | exact Sub.of (congrArg rStr (Eq.symm (by unfold dueS; exact (if_neg g1).trans (if_pos g2)))) | exact Sub.of (congrArg rStr (Eq.symm (by unfold dueS; exact if_pos g1))))
    case gf_7 =>
      have g2 : ¬ isTab (bkR names rows) ts = false := by rw [nn_f hc]; exact Bool.noConfusion
      refine go_then ?go_9
      refine go_if (dt_neI (de_lenM B T.b_len (de_var B (i := 3) rfl rfl (.inl rfl)) rfl) (de_var B (i := 0) rfl rfl (.inl rfl))) (fun hc => ?gt_10) (fun hc => ?gf_11)
      case gt_10 =>
        have g3 : ¬ ws.length = names.length := fun z => by rw [decide_eq_true (by omega)] at hc; cases hc
        refine go_ret R de_str ?rs_12
        (case rs_12 => first | exact Sub.of (congrArg rStr (Eq.symm (by unfold dueS; exact (if_neg g1).trans ((if_neg g2).trans ((if_neg g3).trans ((if_neg g4).trans ((if_neg g5).trans (if_neg g6)))))))) | exact Sub.of (congrArg rStr (Eq.symm (by unfold dueS; exact (if_neg g1).trans ((if_neg g2).trans ((if_neg g3).trans ((if_neg g4).trans ((if_neg g5).trans (if_pos g6)))))))) | exact Sub.of (congrArg rStr (Eq.symm (by unfold dueS; exact (if_neg g1).trans ((if_neg g2).trans ((if_neg g3).trans ((if_neg g4).trans (if_pos g5))))))) | exact Sub.of (congrArg rStr (Eq.symm (by unfold dueS; exact (if_neg g1).trans ((if_neg g2).trans ((if_neg g3).trans (if_pos g4)))))) | exact Sub.of (congrArg rStr (Eq.symm (by unfold dueS; exact (if_neg g1).trans ((if_neg g2).trans (if_pos g3))))) | exact Sub.of (congrArg rStr (Eq.symm (by unfold dueS; exact (if_neg g1).trans (if_pos g2)))) | exact Sub.of (congrArg rStr (Eq.symm (by unfold dueS; exact if_pos g1))))
      case gf_11 =>
        have g3 : ¬ ¬ ws.length = (bkR names rows).size := fun z => z (by have := of_decide_eq_true (nn_f hc); show ws.length = names.length; omega)
        have e3 : ws.length = names.length := Classical.not_not.mp g3
        refine go_then ?go_13
        refine go_if (dt_not (dt_val (CA.val (ca_call B (ok__law_spans T) (by decide) (_, _, _) ?c_law_spans_2 (da_cons (de_var B (i := 0) rfl rfl (.inl rfl)) (da_cons (de_var B (i := 1) rfl rfl (.inl rfl)) (da_cons (de_var B (i := 3) rfl rfl (.inl rfl)) da_nil))) rfl)))) (fun hc => ?gt_14) (fun hc => ?gf_15)
        (case c_law_spans_2 => first | exact hp.s1 e1 | exact hp.s2 e3)
        case gt_14 =>
          have g4 := nn_t hc
          refine go_ret R de_str ?rs_16
          (case rs_16 => first | exact Sub.of (congrArg rStr (Eq.symm (by unfold dueS; exact (if_neg g1).trans ((if_neg g2).trans ((if_neg g3).trans ((if_neg g4).trans ((if_neg g5).trans (if_neg g6)))))))) | exact Sub.of (congrArg rStr (Eq.symm (by unfold dueS; exact (if_neg g1).trans ((if_neg g2).trans ((if_neg g3).trans ((if_neg g4).trans ((if_neg g5).trans (if_pos g6)))))))) | exact Sub.of (congrArg rStr (Eq.symm (by unfold dueS; exact (if_neg g1).trans ((if_neg g2).trans ((if_neg g3).trans ((if_neg g4).trans (if_pos g5))))))) | exact Sub.of (congrArg rStr (Eq.symm (by unfold dueS; exact (if_neg g1).trans ((if_neg g2).trans ((if_neg g3).trans (if_pos g4)))))) | exact Sub.of (congrArg rStr (Eq.symm (by unfold dueS; exact (if_neg g1).trans ((if_neg g2).trans (if_pos g3))))) | exact Sub.of (congrArg rStr (Eq.symm (by unfold dueS; exact (if_neg g1).trans (if_pos g2)))) | exact Sub.of (congrArg rStr (Eq.symm (by unfold dueS; exact if_pos g1))))
        case gf_15 =>
          have g4 : ¬ isTab (bkR names rows) ws = false := by rw [nn_f hc]; exact Bool.noConfusion
          have e4 := nn_f hc
          refine go_then ?go_17
          refine go_forS B (fun i => [(4, .any)]) (fun i => ∀ j, j < i → (ws.getD j 0).den = 1) (sr_listM (R := (rNum X.K)) (0 : Rat) (de_var B (i := 3) rfl rfl (.inl rfl))) _ (fun i hi => (dg_name B (i := 4) rfl (.inl rfl))) ?h0_18 ?j0_19 (fun F1 u i hi hj => ?gb_20) (fun hj => ?ge_21)
          (case h0_18 => refine .same ?_; refine .same ?_; refine .same ?_; refine .same ?_; refine .any ?_; refine .same ?_; exact .nil)
          (case j0_19 => exact fun j hj => absurd hj (Nat.not_lt_zero j))
          case gb_20 =>
            refine @go_nf _ _ _ _ _ _ [_, _, _, _, _, _] rfl ?go_22
            refine go_if (dt_neI (CA.val (ca_call B (ok__law_bottom T) (by decide) _ trivial (da_cons (de_var B (i := 4) rfl rfl (.inl rfl)) da_nil) rfl)) de_int) (fun hc => ?gt_23) (fun hc => ?gf_24)
            case gt_23 =>
              have g5 := wh_no hi hc
              refine go_ret (u.rt R) de_str ?rs_25
              (case rs_25 => first | exact Sub.of (congrArg rStr (Eq.symm (by unfold dueS; exact (if_neg g1).trans ((if_neg g2).trans ((if_neg g3).trans ((if_neg g4).trans ((if_neg g5).trans (if_neg g6)))))))) | exact Sub.of (congrArg rStr (Eq.symm (by unfold dueS; exact (if_neg g1).trans ((if_neg g2).trans ((if_neg g3).trans ((if_neg g4).trans ((if_neg g5).trans (if_pos g6)))))))) | exact Sub.of (congrArg rStr (Eq.symm (by unfold dueS; exact (if_neg g1).trans ((if_neg g2).trans ((if_neg g3).trans ((if_neg g4).trans (if_pos g5))))))) | exact Sub.of (congrArg rStr (Eq.symm (by unfold dueS; exact (if_neg g1).trans ((if_neg g2).trans ((if_neg g3).trans (if_pos g4)))))) | exact Sub.of (congrArg rStr (Eq.symm (by unfold dueS; exact (if_neg g1).trans ((if_neg g2).trans (if_pos g3))))) | exact Sub.of (congrArg rStr (Eq.symm (by unfold dueS; exact (if_neg g1).trans (if_pos g2)))) | exact Sub.of (congrArg rStr (Eq.symm (by unfold dueS; exact if_pos g1))))
            case gf_24 =>
              have h5 := hc
              refine go_then ?go_26
              refine go_turnS ?jn_27 ?ln_28
              (case jn_27 => exact wh_more hj h5)
              (case ln_28 => refine .same ?_; refine .same ?_; refine .same ?_; refine .same ?_; refine .any ?_; refine .same ?_; exact .nil)
          case ge_21 =>
            refine @go_nf _ _ _ _ _ _ [_, _, _, _, _, _] rfl ?go_29
            have e5 := wh_yes hj
            have g5 : ¬ whA ws = false := by rw [e5]; exact Bool.noConfusion
            have d5 := hj
            refine go_forS B (fun i => [(5, .any)]) (fun i => ∀ j, j < i → lieI ts ws j = false) (sr_range1 B T.b_range (de_var B (i := 0) rfl rfl (.inl rfl)) rfl ?r3 ?r4) _ (fun i hi => (dg_name B (i := 5) rfl (.inl rfl))) ?h0_30 ?j0_31 (fun F1 u i hi hj => ?gb_32) (fun hj => ?ge_33)
            (case r3 => first | omega | decide)
            (case r4 => first | omega | decide)
            (case h0_30 => refine .same ?_; refine .same ?_; refine .same ?_; refine .same ?_; refine .same ?_; refine .any ?_; exact .nil)
            (case j0_31 => exact fun j hj => absurd hj (Nat.not_lt_zero j))
            case gb_32 =>
              refine @go_nf _ _ _ _ _ _ [_, _, _, _, _, _] rfl ?go_34
              have hi6 : i < (bkR names rows).size := by show i < names.length; omega
              refine go_if (DW.t (dw_or (dt_lt (de_n2i ?n10 (de_ixM (R := (rNum X.K)) (0 : Rat) ?xl5 ?xh6 (de_var B (i := 3) rfl rfl (.inl rfl)) (de_var B (i := 5) rfl rfl (.inl rfl)))) (CA.val (ca_call B (ok__law_floor T) (by decide) _ ?c_law_floor_9 (da_cons (de_ixM (R := (rNum X.K)) (0 : Rat) ?xl7 ?xh8 (de_var B (i := 2) rfl rfl (.inl rfl)) (de_var B (i := 5) rfl rfl (.inl rfl))) da_nil) rfl))) (fun hb1 => (dw_or1 (dt_gt (de_n2i ?n16 (de_ixM (R := (rNum X.K)) (0 : Rat) ?xl11 ?xh12 (de_var B (i := 3) rfl rfl (.inl rfl)) (de_var B (i := 5) rfl rfl (.inl rfl)))) (CA.val (ca_call B (ok__law_ceiling T) (by decide) _ ?c_law_ceiling_15 (da_cons (de_ixM (R := (rNum X.K)) (0 : Rat) ?xl13 ?xh14 (de_var B (i := 2) rfl rfl (.inl rfl)) (de_var B (i := 5) rfl rfl (.inl rfl))) da_nil) rfl))))))) (fun hc => ?gt_35) (fun hc => ?gf_36)
              (case xl5 => omega)
              (case xh6 => omega)
              (case xl7 => omega)
              (case xh8 => omega)
              (case c_law_floor_9 => exact (getD_szA hp.z1 _).mono (by decide))
              (case n10 => exact d5 _ (by omega))
              (case xl11 => omega)
              (case xh12 => omega)
              (case xl13 => omega)
              (case xh14 => omega)
              (case c_law_ceiling_15 => exact (getD_szA hp.z1 _).mono (by decide))
              (case n16 => exact d5 _ (by omega))
              case gt_35 =>
                have g6 := lie_no (b := bkR names rows) e1 e3 e5 (i := i) hi6 (by simpa [lieI] using hc)
                refine go_ret (u.rt R) de_str ?rs_37
                (case rs_37 => first | exact Sub.of (congrArg rStr (Eq.symm (by unfold dueS; exact (if_neg g1).trans ((if_neg g2).trans ((if_neg g3).trans ((if_neg g4).trans ((if_neg g5).trans (if_neg g6)))))))) | exact Sub.of (congrArg rStr (Eq.symm (by unfold dueS; exact (if_neg g1).trans ((if_neg g2).trans ((if_neg g3).trans ((if_neg g4).trans ((if_neg g5).trans (if_pos g6)))))))) | exact Sub.of (congrArg rStr (Eq.symm (by unfold dueS; exact (if_neg g1).trans ((if_neg g2).trans ((if_neg g3).trans ((if_neg g4).trans (if_pos g5))))))) | exact Sub.of (congrArg rStr (Eq.symm (by unfold dueS; exact (if_neg g1).trans ((if_neg g2).trans ((if_neg g3).trans (if_pos g4)))))) | exact Sub.of (congrArg rStr (Eq.symm (by unfold dueS; exact (if_neg g1).trans ((if_neg g2).trans (if_pos g3))))) | exact Sub.of (congrArg rStr (Eq.symm (by unfold dueS; exact (if_neg g1).trans (if_pos g2)))) | exact Sub.of (congrArg rStr (Eq.symm (by unfold dueS; exact if_pos g1))))
              case gf_36 =>
                have h6 : lieI ts ws i = false := by simpa [lieI] using hc
                refine go_then ?go_38
                refine go_turnS ?jn_39 ?ln_40
                (case jn_39 => exact li_more hj h6)
                (case ln_40 => refine .same ?_; refine .same ?_; refine .same ?_; refine .same ?_; refine .same ?_; refine .any ?_; exact .nil)
            case ge_33 =>
              refine @go_nf _ _ _ _ _ _ [_, _, _, _, _, _] rfl ?go_41
              have hj6 : ∀ j, j < (bkR names rows).size → lieI ts ws j = false := fun j h => hj j (by have h : j < names.length := h; omega)
              have g6 : ¬ (lieA (bkR names rows) ws ts && whA ws) = false := by rw [lie_yes e1 e3 e4 e5 hj6]; exact Bool.noConfusion
              refine go_ret R de_str ?rs_42
              (case rs_42 => first | exact Sub.of (congrArg rStr (Eq.symm (by unfold dueS; exact (if_neg g1).trans ((if_neg g2).trans ((if_neg g3).trans ((if_neg g4).trans ((if_neg g5).trans (if_neg g6)))))))) | exact Sub.of (congrArg rStr (Eq.symm (by unfold dueS; exact (if_neg g1).trans ((if_neg g2).trans ((if_neg g3).trans ((if_neg g4).trans ((if_neg g5).trans (if_pos g6)))))))) | exact Sub.of (congrArg rStr (Eq.symm (by unfold dueS; exact (if_neg g1).trans ((if_neg g2).trans ((if_neg g3).trans ((if_neg g4).trans (if_pos g5))))))) | exact Sub.of (congrArg rStr (Eq.symm (by unfold dueS; exact (if_neg g1).trans ((if_neg g2).trans ((if_neg g3).trans (if_pos g4)))))) | exact Sub.of (congrArg rStr (Eq.symm (by unfold dueS; exact (if_neg g1).trans ((if_neg g2).trans (if_pos g3))))) | exact Sub.of (congrArg rStr (Eq.symm (by unfold dueS; exact (if_neg g1).trans (if_pos g2)))) | exact Sub.of (congrArg rStr (Eq.symm (by unfold dueS; exact if_pos g1))))
end K45

set_option Elab.async false
set_option linter.all false
set_option maxRecDepth 100000
set_option maxHeartbeats 4000000
namespace K45
open PySem PySem.Spec PyProof.Rows L2 DL
variable {P : Program} {w : World} {K : PySem.W.Frag} {mg : Str → Option Value} {base : Heap} {cs : Cs}
theorem sc__law_told : FnScope ["_law_book", "_law_table", "_law_whole", "_law_door", "e", "_law_found"] ["_law_book", "_law_table", "_law_whole", "_law_door"] (defScope s__law_told) := ⟨rfl, rfl, rfl, by decide +kernel, rfl, by decide +kernel, by decide +kernel⟩
def sp__law_told (K : PySem.W.Frag) (cs : Cs) : Sp := Pm (ι := List Str × List (List Int) × List Rat × List Rat × Int) (fun ⟨names, rows, ts, ws, d⟩ => AkOk names rows ts ws) (fun ⟨names, rows, ts, ws, d⟩ => [rBook K cs.Book (bkR names rows), rLst K (ts.map (rNum K)), rLst K (ws.map (rNum K)), rInt d]) (fun ⟨names, rows, ts, ws, d⟩ => .val (rP K rStr (rNL K) (toldF d (bkR names rows) ts ws)))
theorem ok__law_told (T : Txt K mg cs) : Cal P w K mg base 11 "_law_told" (sp__law_told K cs) := by
  refine cal_okT T.d__law_told sc__law_told (fun g => rfl) (fun _ _ _ _ _ _ us hl => match us, hl with | [_, _, _, _], _ => rfl) ?_
  rintro X rfl rfl rfl rfl rfl Z B Bf ⟨names, rows, ts, ws, d⟩ F0 H0 D hp R hnx
  refine @go_nf _ _ _ _ _ _ [_, _, _, _, _, _] rfl ?go_1
  have BO := B
  refine go_tryR B Z (i := 4) rfl rfl rfl T.x_BookError.g (by decide) (fun pn xe B2 tk2 => ?gy_2)
  refine go_if (dt_eqI (de_var B2 (i := 3) rfl rfl (.inl rfl)) de_int) (fun hc => ?gt_3) (fun hc => ?gf_4)
  case gt_3 =>
    have hd := of_decide_eq_true hc
    by_cases hz1 : ¬ ts.length = (bkR names rows).size
    · refine go_retE (C := cs.BadSize) (ex_tupS (ex_call B2 tk2 (ok_paper_chance T) (by decide) (bkR names rows, ts, ws) ?c_paper_chance_1 (if_pos hz1) (da_cons (de_var B2 (i := 0) rfl rfl (.inl rfl)) (da_cons (de_var B2 (i := 1) rfl rfl (.inl rfl)) (da_cons (de_var B2 (i := 2) rfl rfl (.inl rfl)) da_nil))) rfl)) (fun F H σ en H1 s1 => ⟨true, (PySem.W.exm_ref T.x_BookError.bs T.x_BookError.hd T.x_BookError.ty T.s_BadSize_BookError), fun _ al hal oe pn2 hz hv => ?gx_5, nofun⟩)
      (case c_paper_chance_1 => exact hp.pp)
      have BSu : BS (X.suite al ((al, oe) :: pn2)) _ _ := BO.su
      have en1 := en_err (i := 4) (a := al) en s1
      refine go_run en1 ?go_6
      refine @go_nf _ _ _ _ _ _ [_, _, _, _, _, _] rfl ?go_7
      refine go_setLS BSu (i := 5) (dl_lst da_nil (show (0 : Nat) ≤ sizeLine by decide)) rfl (.inl rfl) ?go_8
      refine @go_nf _ _ _ _ _ _ [_, _, _, _, _, _] rfl ?go_9
      refine go_if (dt_val (de_isF BSu T.e_BadSize hz hv T.b_isinstance rfl (i := 4) rfl rfl (.inl rfl) (clsE_own (BSu.gl rfl) T.x_BadSize.g) T.k_BadSize_BadSize)) (fun hc => ?gt_10) (fun hc => ?gf_11)
      case gt_10 =>
        try (simp only [decide_eq_true_eq, decide_eq_false_iff_not, Bool.not_eq_true', Bool.not_eq_false', Bool.not_eq_true, Bool.not_eq_false] at hc)
        refine go_appendS BSu (i := 5) rfl de_str ?s2 rfl (.inl rfl) ?go_12
        (case s2 => decide)
        refine @go_nf _ _ _ _ _ _ [_, _, _, _, _, _] rfl ?go_13
        refine go_then ?go_14
        refine go_if (dt_val (de_isF BSu T.e_BadSize hz hv T.b_isinstance rfl (i := 4) rfl rfl (.inl rfl) (clsE_own (BSu.gl rfl) T.x_NotTable.g) T.k_BadSize_NotTable)) (fun hc => ?gt_15) (fun hc => ?gf_16)
        case gt_15 =>
          exfalso; revert hc; simp
        case gf_16 =>
          try (simp only [decide_eq_true_eq, decide_eq_false_iff_not, Bool.not_eq_true', Bool.not_eq_false', Bool.not_eq_true, Bool.not_eq_false] at hc)
          refine go_then ?go_17
          refine go_if (dt_val (de_isF BSu T.e_BadSize hz hv T.b_isinstance rfl (i := 4) rfl rfl (.inl rfl) (clsE_own (BSu.gl rfl) T.x_NotWhole.g) T.k_BadSize_NotWhole)) (fun hc => ?gt_18) (fun hc => ?gf_19)
          case gt_18 =>
            exfalso; revert hc; simp
          case gf_19 =>
            try (simp only [decide_eq_true_eq, decide_eq_false_iff_not, Bool.not_eq_true', Bool.not_eq_false', Bool.not_eq_true, Bool.not_eq_false] at hc)
            refine go_then ?go_20
            refine go_if (dt_val (de_isF BSu T.e_BadSize hz hv T.b_isinstance rfl (i := 4) rfl rfl (.inl rfl) (clsE_own (BSu.gl rfl) T.x_NotRounding.g) T.k_BadSize_NotRounding)) (fun hc => ?gt_21) (fun hc => ?gf_22)
            case gt_21 =>
              exfalso; revert hc; simp
            case gf_22 =>
              try (simp only [decide_eq_true_eq, decide_eq_false_iff_not, Bool.not_eq_true', Bool.not_eq_false', Bool.not_eq_true, Bool.not_eq_false] at hc)
              refine go_then ?go_23
              refine go_if (dt_val (de_isF BSu T.e_BadSize hz hv T.b_isinstance rfl (i := 4) rfl rfl (.inl rfl) (clsE_own (BSu.gl rfl) T.x_BadChance.g) T.k_BadSize_BadChance)) (fun hc => ?gt_24) (fun hc => ?gf_25)
              case gt_24 =>
                exfalso; revert hc; simp
              case gf_25 =>
                try (simp only [decide_eq_true_eq, decide_eq_false_iff_not, Bool.not_eq_true', Bool.not_eq_false', Bool.not_eq_true, Bool.not_eq_false] at hc)
                refine go_then ?go_26
                refine go_if (DW.t (dw_or (dt_neI (de_lenOS BSu T.b_len (i := 5) rfl rfl (.inl rfl) rfl) de_int) (fun hb1 => (dw_or1 (dt_not (dt_val (de_isF BSu T.e_BadSize hz hv T.b_isinstance rfl (i := 4) rfl rfl (.inl rfl) (clsE_blt (BSu.gl rfl) T.b_ValueError (by decide +kernel)) T.k_BadSize_ValueError))))))) (fun hc => ?gt_27) (fun hc => ?gf_28)
                case gt_27 =>
                  exfalso; revert hc; simp
                case gf_28 =>
                  try (simp only [decide_eq_true_eq, decide_eq_false_iff_not, Bool.not_eq_true', Bool.not_eq_false', Bool.not_eq_true, Bool.not_eq_false] at hc)
                  refine go_then ?go_29
                  refine go_ret (RT.su R) (de_tup (da_cons (de_ixHS BSu (i := 5) rfl rfl rfl (.inl rfl) de_int) (da_cons (de_nlN (de_i2n de_int)) da_nil)) (show (2 : Nat) ≤ sizeLine by decide)) ?rs_30
                  (case rs_30 => first | (unfold toldF; rw [if_pos hz1]; exact Sub.rfl) | (unfold toldF; rw [if_neg hz1, if_pos hz2]; exact Sub.rfl) | (unfold toldF; rw [if_neg hz1, if_neg hz2, if_pos hz3]; exact Sub.rfl) | (unfold toldF; rw [if_neg hz1, if_neg hz2, if_neg hz3, if_pos hz4]; exact Sub.rfl) | (unfold toldF; rw [if_neg hz1, if_neg hz2, if_neg hz3, if_neg hz4, if_pos hz5]; exact Sub.rfl) | (unfold toldF; rw [if_neg hz1, if_neg hz2, if_neg hz3, if_neg hz4, if_neg hz5, if_pos hz6]; exact Sub.rfl) | (unfold toldF; rw [if_neg hz1, if_neg hz2, if_neg hz3, if_neg hz4, if_neg hz5, if_neg hz6, if_pos hd]; exact Sub.rfl) | (unfold toldF; rw [if_neg hz1, if_neg hz2, if_neg hz3, if_neg hz4, if_neg hz5, if_neg hz6, if_neg hd, if_pos hz7]; exact Sub.rfl) | (unfold toldF; rw [if_neg hz1, if_neg hz2, if_neg hz3, if_neg hz4, if_neg hz5, if_neg hz6, if_neg hd, if_neg hz7]; exact Sub.rfl))
      case gf_11 =>
        exfalso; revert hc; simp
    by_cases hz2 : isTab (bkR names rows) ts = false
    · refine go_retE (C := cs.NotTable) (ex_tupS (ex_call B2 tk2 (ok_paper_chance T) (by decide) (bkR names rows, ts, ws) ?c_paper_chance_3 ((if_neg hz1).trans (if_pos hz2)) (da_cons (de_var B2 (i := 0) rfl rfl (.inl rfl)) (da_cons (de_var B2 (i := 1) rfl rfl (.inl rfl)) (da_cons (de_var B2 (i := 2) rfl rfl (.inl rfl)) da_nil))) rfl)) (fun F H σ en H1 s1 => ⟨true, (PySem.W.exm_ref T.x_BookError.bs T.x_BookError.hd T.x_BookError.ty T.s_NotTable_BookError), fun _ al hal oe pn2 hz hv => ?gx_31, nofun⟩)
      (case c_paper_chance_3 => exact hp.pp)
      have BSu : BS (X.suite al ((al, oe) :: pn2)) _ _ := BO.su
      have en1 := en_err (i := 4) (a := al) en s1
      refine go_run en1 ?go_32
      refine @go_nf _ _ _ _ _ _ [_, _, _, _, _, _] rfl ?go_33
      refine go_setLS BSu (i := 5) (dl_lst da_nil (show (0 : Nat) ≤ sizeLine by decide)) rfl (.inl rfl) ?go_34
      refine @go_nf _ _ _ _ _ _ [_, _, _, _, _, _] rfl ?go_35
      refine go_if (dt_val (de_isF BSu T.e_NotTable hz hv T.b_isinstance rfl (i := 4) rfl rfl (.inl rfl) (clsE_own (BSu.gl rfl) T.x_BadSize.g) T.k_NotTable_BadSize)) (fun hc => ?gt_36) (fun hc => ?gf_37)
      case gt_36 =>
        exfalso; revert hc; simp
      case gf_37 =>
        try (simp only [decide_eq_true_eq, decide_eq_false_iff_not, Bool.not_eq_true', Bool.not_eq_false', Bool.not_eq_true, Bool.not_eq_false] at hc)
        refine go_then ?go_38
        refine go_if (dt_val (de_isF BSu T.e_NotTable hz hv T.b_isinstance rfl (i := 4) rfl rfl (.inl rfl) (clsE_own (BSu.gl rfl) T.x_NotTable.g) T.k_NotTable_NotTable)) (fun hc => ?gt_39) (fun hc => ?gf_40)
        case gt_39 =>
          try (simp only [decide_eq_true_eq, decide_eq_false_iff_not, Bool.not_eq_true', Bool.not_eq_false', Bool.not_eq_true, Bool.not_eq_false] at hc)
          refine go_appendS BSu (i := 5) rfl de_str ?s4 rfl (.inl rfl) ?go_41
          (case s4 => decide)
          refine @go_nf _ _ _ _ _ _ [_, _, _, _, _, _] rfl ?go_42
          refine go_then ?go_43
          refine go_if (dt_val (de_isF BSu T.e_NotTable hz hv T.b_isinstance rfl (i := 4) rfl rfl (.inl rfl) (clsE_own (BSu.gl rfl) T.x_NotWhole.g) T.k_NotTable_NotWhole)) (fun hc => ?gt_44) (fun hc => ?gf_45)
          case gt_44 =>
            exfalso; revert hc; simp
          case gf_45 =>
            try (simp only [decide_eq_true_eq, decide_eq_false_iff_not, Bool.not_eq_true', Bool.not_eq_false', Bool.not_eq_true, Bool.not_eq_false] at hc)
            refine go_then ?go_46
            refine go_if (dt_val (de_isF BSu T.e_NotTable hz hv T.b_isinstance rfl (i := 4) rfl rfl (.inl rfl) (clsE_own (BSu.gl rfl) T.x_NotRounding.g) T.k_NotTable_NotRounding)) (fun hc => ?gt_47) (fun hc => ?gf_48)
            case gt_47 =>
              exfalso; revert hc; simp
            case gf_48 =>
              try (simp only [decide_eq_true_eq, decide_eq_false_iff_not, Bool.not_eq_true', Bool.not_eq_false', Bool.not_eq_true, Bool.not_eq_false] at hc)
              refine go_then ?go_49
              refine go_if (dt_val (de_isF BSu T.e_NotTable hz hv T.b_isinstance rfl (i := 4) rfl rfl (.inl rfl) (clsE_own (BSu.gl rfl) T.x_BadChance.g) T.k_NotTable_BadChance)) (fun hc => ?gt_50) (fun hc => ?gf_51)
              case gt_50 =>
                exfalso; revert hc; simp
              case gf_51 =>
                try (simp only [decide_eq_true_eq, decide_eq_false_iff_not, Bool.not_eq_true', Bool.not_eq_false', Bool.not_eq_true, Bool.not_eq_false] at hc)
                refine go_then ?go_52
                refine go_if (DW.t (dw_or (dt_neI (de_lenOS BSu T.b_len (i := 5) rfl rfl (.inl rfl) rfl) de_int) (fun hb1 => (dw_or1 (dt_not (dt_val (de_isF BSu T.e_NotTable hz hv T.b_isinstance rfl (i := 4) rfl rfl (.inl rfl) (clsE_blt (BSu.gl rfl) T.b_ValueError (by decide +kernel)) T.k_NotTable_ValueError))))))) (fun hc => ?gt_53) (fun hc => ?gf_54)
                case gt_53 =>
                  exfalso; revert hc; simp
                case gf_54 =>
                  try (simp only [decide_eq_true_eq, decide_eq_false_iff_not, Bool.not_eq_true', Bool.not_eq_false', Bool.not_eq_true, Bool.not_eq_false] at hc)
                  refine go_then ?go_55
                  refine go_ret (RT.su R) (de_tup (da_cons (de_ixHS BSu (i := 5) rfl rfl rfl (.inl rfl) de_int) (da_cons (de_nlN (de_i2n de_int)) da_nil)) (show (2 : Nat) ≤ sizeLine by decide)) ?rs_56
                  (case rs_56 => first | (unfold toldF; rw [if_pos hz1]; exact Sub.rfl) | (unfold toldF; rw [if_neg hz1, if_pos hz2]; exact Sub.rfl) | (unfold toldF; rw [if_neg hz1, if_neg hz2, if_pos hz3]; exact Sub.rfl) | (unfold toldF; rw [if_neg hz1, if_neg hz2, if_neg hz3, if_pos hz4]; exact Sub.rfl) | (unfold toldF; rw [if_neg hz1, if_neg hz2, if_neg hz3, if_neg hz4, if_pos hz5]; exact Sub.rfl) | (unfold toldF; rw [if_neg hz1, if_neg hz2, if_neg hz3, if_neg hz4, if_neg hz5, if_pos hz6]; exact Sub.rfl) | (unfold toldF; rw [if_neg hz1, if_neg hz2, if_neg hz3, if_neg hz4, if_neg hz5, if_neg hz6, if_pos hd]; exact Sub.rfl) | (unfold toldF; rw [if_neg hz1, if_neg hz2, if_neg hz3, if_neg hz4, if_neg hz5, if_neg hz6, if_neg hd, if_pos hz7]; exact Sub.rfl) | (unfold toldF; rw [if_neg hz1, if_neg hz2, if_neg hz3, if_neg hz4, if_neg hz5, if_neg hz6, if_neg hd, if_neg hz7]; exact Sub.rfl))
        case gf_40 =>
          exfalso; revert hc; simp
    by_cases hz3 : ¬ ws.length = (bkR names rows).size
    · refine go_retE (C := cs.BadSize) (ex_tupS (ex_call B2 tk2 (ok_paper_chance T) (by decide) (bkR names rows, ts, ws) ?c_paper_chance_5 ((if_neg hz1).trans ((if_neg hz2).trans (if_pos hz3))) (da_cons (de_var B2 (i := 0) rfl rfl (.inl rfl)) (da_cons (de_var B2 (i := 1) rfl rfl (.inl rfl)) (da_cons (de_var B2 (i := 2) rfl rfl (.inl rfl)) da_nil))) rfl)) (fun F H σ en H1 s1 => ⟨true, (PySem.W.exm_ref T.x_BookError.bs T.x_BookError.hd T.x_BookError.ty T.s_BadSize_BookError), fun _ al hal oe pn2 hz hv => ?gx_57, nofun⟩)
      (case c_paper_chance_5 => exact hp.pp)
      have BSu : BS (X.suite al ((al, oe) :: pn2)) _ _ := BO.su
      have en1 := en_err (i := 4) (a := al) en s1
      refine go_run en1 ?go_58
      refine @go_nf _ _ _ _ _ _ [_, _, _, _, _, _] rfl ?go_59
      refine go_setLS BSu (i := 5) (dl_lst da_nil (show (0 : Nat) ≤ sizeLine by decide)) rfl (.inl rfl) ?go_60
      refine @go_nf _ _ _ _ _ _ [_, _, _, _, _, _] rfl ?go_61
      refine go_if (dt_val (de_isF BSu T.e_BadSize hz hv T.b_isinstance rfl (i := 4) rfl rfl (.inl rfl) (clsE_own (BSu.gl rfl) T.x_BadSize.g) T.k_BadSize_BadSize)) (fun hc => ?gt_62) (fun hc => ?gf_63)
      case gt_62 =>
        try (simp only [decide_eq_true_eq, decide_eq_false_iff_not, Bool.not_eq_true', Bool.not_eq_false', Bool.not_eq_true, Bool.not_eq_false] at hc)
        refine go_appendS BSu (i := 5) rfl de_str ?s6 rfl (.inl rfl) ?go_64
        (case s6 => decide)
        refine @go_nf _ _ _ _ _ _ [_, _, _, _, _, _] rfl ?go_65
        refine go_then ?go_66
        refine go_if (dt_val (de_isF BSu T.e_BadSize hz hv T.b_isinstance rfl (i := 4) rfl rfl (.inl rfl) (clsE_own (BSu.gl rfl) T.x_NotTable.g) T.k_BadSize_NotTable)) (fun hc => ?gt_67) (fun hc => ?gf_68)
        case gt_67 =>
          exfalso; revert hc; simp
        case gf_68 =>
          try (simp only [decide_eq_true_eq, decide_eq_false_iff_not, Bool.not_eq_true', Bool.not_eq_false', Bool.not_eq_true, Bool.not_eq_false] at hc)
          refine go_then ?go_69
          refine go_if (dt_val (de_isF BSu T.e_BadSize hz hv T.b_isinstance rfl (i := 4) rfl rfl (.inl rfl) (clsE_own (BSu.gl rfl) T.x_NotWhole.g) T.k_BadSize_NotWhole)) (fun hc => ?gt_70) (fun hc => ?gf_71)
          case gt_70 =>
            exfalso; revert hc; simp
          case gf_71 =>
            try (simp only [decide_eq_true_eq, decide_eq_false_iff_not, Bool.not_eq_true', Bool.not_eq_false', Bool.not_eq_true, Bool.not_eq_false] at hc)
            refine go_then ?go_72
            refine go_if (dt_val (de_isF BSu T.e_BadSize hz hv T.b_isinstance rfl (i := 4) rfl rfl (.inl rfl) (clsE_own (BSu.gl rfl) T.x_NotRounding.g) T.k_BadSize_NotRounding)) (fun hc => ?gt_73) (fun hc => ?gf_74)
            case gt_73 =>
              exfalso; revert hc; simp
            case gf_74 =>
              try (simp only [decide_eq_true_eq, decide_eq_false_iff_not, Bool.not_eq_true', Bool.not_eq_false', Bool.not_eq_true, Bool.not_eq_false] at hc)
              refine go_then ?go_75
              refine go_if (dt_val (de_isF BSu T.e_BadSize hz hv T.b_isinstance rfl (i := 4) rfl rfl (.inl rfl) (clsE_own (BSu.gl rfl) T.x_BadChance.g) T.k_BadSize_BadChance)) (fun hc => ?gt_76) (fun hc => ?gf_77)
              case gt_76 =>
                exfalso; revert hc; simp
              case gf_77 =>
                try (simp only [decide_eq_true_eq, decide_eq_false_iff_not, Bool.not_eq_true', Bool.not_eq_false', Bool.not_eq_true, Bool.not_eq_false] at hc)
                refine go_then ?go_78
                refine go_if (DW.t (dw_or (dt_neI (de_lenOS BSu T.b_len (i := 5) rfl rfl (.inl rfl) rfl) de_int) (fun hb1 => (dw_or1 (dt_not (dt_val (de_isF BSu T.e_BadSize hz hv T.b_isinstance rfl (i := 4) rfl rfl (.inl rfl) (clsE_blt (BSu.gl rfl) T.b_ValueError (by decide +kernel)) T.k_BadSize_ValueError))))))) (fun hc => ?gt_79) (fun hc => ?gf_80)
                case gt_79 =>
                  exfalso; revert hc; simp
                case gf_80 =>
                  try (simp only [decide_eq_true_eq, decide_eq_false_iff_not, Bool.not_eq_true', Bool.not_eq_false', Bool.not_eq_true, Bool.not_eq_false] at hc)
                  refine go_then ?go_81
                  refine go_ret (RT.su R) (de_tup (da_cons (de_ixHS BSu (i := 5) rfl rfl rfl (.inl rfl) de_int) (da_cons (de_nlN (de_i2n de_int)) da_nil)) (show (2 : Nat) ≤ sizeLine by decide)) ?rs_82
                  (case rs_82 => first | (unfold toldF; rw [if_pos hz1]; exact Sub.rfl) | (unfold toldF; rw [if_neg hz1, if_pos hz2]; exact Sub.rfl) | (unfold toldF; rw [if_neg hz1, if_neg hz2, if_pos hz3]; exact Sub.rfl) | (unfold toldF; rw [if_neg hz1, if_neg hz2, if_neg hz3, if_pos hz4]; exact Sub.rfl) | (unfold toldF; rw [if_neg hz1, if_neg hz2, if_neg hz3, if_neg hz4, if_pos hz5]; exact Sub.rfl) | (unfold toldF; rw [if_neg hz1, if_neg hz2, if_neg hz3, if_neg hz4, if_neg hz5, if_pos hz6]; exact Sub.rfl) | (unfold toldF; rw [if_neg hz1, if_neg hz2, if_neg hz3, if_neg hz4, if_neg hz5, if_neg hz6, if_pos hd]; exact Sub.rfl) | (unfold toldF; rw [if_neg hz1, if_neg hz2, if_neg hz3, if_neg hz4, if_neg hz5, if_neg hz6, if_neg hd, if_pos hz7]; exact Sub.rfl) | (unfold toldF; rw [if_neg hz1, if_neg hz2, if_neg hz3, if_neg hz4, if_neg hz5, if_neg hz6, if_neg hd, if_neg hz7]; exact Sub.rfl))
      case gf_63 =>
        exfalso; revert hc; simp
    by_cases hz4 : isTab (bkR names rows) ws = false
    · refine go_retE (C := cs.NotTable) (ex_tupS (ex_call B2 tk2 (ok_paper_chance T) (by decide) (bkR names rows, ts, ws) ?c_paper_chance_7 ((if_neg hz1).trans ((if_neg hz2).trans ((if_neg hz3).trans (if_pos hz4)))) (da_cons (de_var B2 (i := 0) rfl rfl (.inl rfl)) (da_cons (de_var B2 (i := 1) rfl rfl (.inl rfl)) (da_cons (de_var B2 (i := 2) rfl rfl (.inl rfl)) da_nil))) rfl)) (fun F H σ en H1 s1 => ⟨true, (PySem.W.exm_ref T.x_BookError.bs T.x_BookError.hd T.x_BookError.ty T.s_NotTable_BookError), fun _ al hal oe pn2 hz hv => ?gx_83, nofun⟩)
      (case c_paper_chance_7 => exact hp.pp)
      have BSu : BS (X.suite al ((al, oe) :: pn2)) _ _ := BO.su
      have en1 := en_err (i := 4) (a := al) en s1
      refine go_run en1 ?go_84
      refine @go_nf _ _ _ _ _ _ [_, _, _, _, _, _] rfl ?go_85
      refine go_setLS BSu (i := 5) (dl_lst da_nil (show (0 : Nat) ≤ sizeLine by decide)) rfl (.inl rfl) ?go_86
      refine @go_nf _ _ _ _ _ _ [_, _, _, _, _, _] rfl ?go_87
      refine go_if (dt_val (de_isF BSu T.e_NotTable hz hv T.b_isinstance rfl (i := 4) rfl rfl (.inl rfl) (clsE_own (BSu.gl rfl) T.x_BadSize.g) T.k_NotTable_BadSize)) (fun hc => ?gt_88) (fun hc => ?gf_89)
      case gt_88 =>
        exfalso; revert hc; simp
      case gf_89 =>
        try (simp only [decide_eq_true_eq, decide_eq_false_iff_not, Bool.not_eq_true', Bool.not_eq_false', Bool.not_eq_true, Bool.not_eq_false] at hc)
        refine go_then ?go_90
        refine go_if (dt_val (de_isF BSu T.e_NotTable hz hv T.b_isinstance rfl (i := 4) rfl rfl (.inl rfl) (clsE_own (BSu.gl rfl) T.x_NotTable.g) T.k_NotTable_NotTable)) (fun hc => ?gt_91) (fun hc => ?gf_92)
        case gt_91 =>
          try (simp only [decide_eq_true_eq, decide_eq_false_iff_not, Bool.not_eq_true', Bool.not_eq_false', Bool.not_eq_true, Bool.not_eq_false] at hc)
          refine go_appendS BSu (i := 5) rfl de_str ?s8 rfl (.inl rfl) ?go_93
          (case s8 => decide)
          refine @go_nf _ _ _ _ _ _ [_, _, _, _, _, _] rfl ?go_94
          refine go_then ?go_95
          refine go_if (dt_val (de_isF BSu T.e_NotTable hz hv T.b_isinstance rfl (i := 4) rfl rfl (.inl rfl) (clsE_own (BSu.gl rfl) T.x_NotWhole.g) T.k_NotTable_NotWhole)) (fun hc => ?gt_96) (fun hc => ?gf_97)
          case gt_96 =>
            exfalso; revert hc; simp
          case gf_97 =>
            try (simp only [decide_eq_true_eq, decide_eq_false_iff_not, Bool.not_eq_true', Bool.not_eq_false', Bool.not_eq_true, Bool.not_eq_false] at hc)
            refine go_then ?go_98
            refine go_if (dt_val (de_isF BSu T.e_NotTable hz hv T.b_isinstance rfl (i := 4) rfl rfl (.inl rfl) (clsE_own (BSu.gl rfl) T.x_NotRounding.g) T.k_NotTable_NotRounding)) (fun hc => ?gt_99) (fun hc => ?gf_100)
            case gt_99 =>
              exfalso; revert hc; simp
            case gf_100 =>
              try (simp only [decide_eq_true_eq, decide_eq_false_iff_not, Bool.not_eq_true', Bool.not_eq_false', Bool.not_eq_true, Bool.not_eq_false] at hc)
              refine go_then ?go_101
              refine go_if (dt_val (de_isF BSu T.e_NotTable hz hv T.b_isinstance rfl (i := 4) rfl rfl (.inl rfl) (clsE_own (BSu.gl rfl) T.x_BadChance.g) T.k_NotTable_BadChance)) (fun hc => ?gt_102) (fun hc => ?gf_103)
              case gt_102 =>
                exfalso; revert hc; simp
              case gf_103 =>
                try (simp only [decide_eq_true_eq, decide_eq_false_iff_not, Bool.not_eq_true', Bool.not_eq_false', Bool.not_eq_true, Bool.not_eq_false] at hc)
                refine go_then ?go_104
                refine go_if (DW.t (dw_or (dt_neI (de_lenOS BSu T.b_len (i := 5) rfl rfl (.inl rfl) rfl) de_int) (fun hb1 => (dw_or1 (dt_not (dt_val (de_isF BSu T.e_NotTable hz hv T.b_isinstance rfl (i := 4) rfl rfl (.inl rfl) (clsE_blt (BSu.gl rfl) T.b_ValueError (by decide +kernel)) T.k_NotTable_ValueError))))))) (fun hc => ?gt_105) (fun hc => ?gf_106)
                case gt_105 =>
                  exfalso; revert hc; simp
                case gf_106 =>
                  try (simp only [decide_eq_true_eq, decide_eq_false_iff_not, Bool.not_eq_true', Bool.not_eq_false', Bool.not_eq_true, Bool.not_eq_false] at hc)
                  refine go_then ?go_107
                  refine go_ret (RT.su R) (de_tup (da_cons (de_ixHS BSu (i := 5) rfl rfl rfl (.inl rfl) de_int) (da_cons (de_nlN (de_i2n de_int)) da_nil)) (show (2 : Nat) ≤ sizeLine by decide)) ?rs_108
                  (case rs_108 => first | (unfold toldF; rw [if_pos hz1]; exact Sub.rfl) | (unfold toldF; rw [if_neg hz1, if_pos hz2]; exact Sub.rfl) | (unfold toldF; rw [if_neg hz1, if_neg hz2, if_pos hz3]; exact Sub.rfl) | (unfold toldF; rw [if_neg hz1, if_neg hz2, if_neg hz3, if_pos hz4]; exact Sub.rfl) | (unfold toldF; rw [if_neg hz1, if_neg hz2, if_neg hz3, if_neg hz4, if_pos hz5]; exact Sub.rfl) | (unfold toldF; rw [if_neg hz1, if_neg hz2, if_neg hz3, if_neg hz4, if_neg hz5, if_pos hz6]; exact Sub.rfl) | (unfold toldF; rw [if_neg hz1, if_neg hz2, if_neg hz3, if_neg hz4, if_neg hz5, if_neg hz6, if_pos hd]; exact Sub.rfl) | (unfold toldF; rw [if_neg hz1, if_neg hz2, if_neg hz3, if_neg hz4, if_neg hz5, if_neg hz6, if_neg hd, if_pos hz7]; exact Sub.rfl) | (unfold toldF; rw [if_neg hz1, if_neg hz2, if_neg hz3, if_neg hz4, if_neg hz5, if_neg hz6, if_neg hd, if_neg hz7]; exact Sub.rfl))
        case gf_92 =>
          exfalso; revert hc; simp
    by_cases hz5 : whA ws = false
    · refine go_retE (C := cs.NotWhole) (ex_tupS (ex_call B2 tk2 (ok_paper_chance T) (by decide) (bkR names rows, ts, ws) ?c_paper_chance_9 ((if_neg hz1).trans ((if_neg hz2).trans ((if_neg hz3).trans ((if_neg hz4).trans (if_pos hz5))))) (da_cons (de_var B2 (i := 0) rfl rfl (.inl rfl)) (da_cons (de_var B2 (i := 1) rfl rfl (.inl rfl)) (da_cons (de_var B2 (i := 2) rfl rfl (.inl rfl)) da_nil))) rfl)) (fun F H σ en H1 s1 => ⟨true, (PySem.W.exm_ref T.x_BookError.bs T.x_BookError.hd T.x_BookError.ty T.s_NotWhole_BookError), fun _ al hal oe pn2 hz hv => ?gx_109, nofun⟩)
      (case c_paper_chance_9 => exact hp.pp)
      have BSu : BS (X.suite al ((al, oe) :: pn2)) _ _ := BO.su
      have en1 := en_err (i := 4) (a := al) en s1
      refine go_run en1 ?go_110
      refine @go_nf _ _ _ _ _ _ [_, _, _, _, _, _] rfl ?go_111
      refine go_setLS BSu (i := 5) (dl_lst da_nil (show (0 : Nat) ≤ sizeLine by decide)) rfl (.inl rfl) ?go_112
      refine @go_nf _ _ _ _ _ _ [_, _, _, _, _, _] rfl ?go_113
      refine go_if (dt_val (de_isF BSu T.e_NotWhole hz hv T.b_isinstance rfl (i := 4) rfl rfl (.inl rfl) (clsE_own (BSu.gl rfl) T.x_BadSize.g) T.k_NotWhole_BadSize)) (fun hc => ?gt_114) (fun hc => ?gf_115)
      case gt_114 =>
        exfalso; revert hc; simp
      case gf_115 =>
        try (simp only [decide_eq_true_eq, decide_eq_false_iff_not, Bool.not_eq_true', Bool.not_eq_false', Bool.not_eq_true, Bool.not_eq_false] at hc)
        refine go_then ?go_116
        refine go_if (dt_val (de_isF BSu T.e_NotWhole hz hv T.b_isinstance rfl (i := 4) rfl rfl (.inl rfl) (clsE_own (BSu.gl rfl) T.x_NotTable.g) T.k_NotWhole_NotTable)) (fun hc => ?gt_117) (fun hc => ?gf_118)
        case gt_117 =>
          exfalso; revert hc; simp
        case gf_118 =>
          try (simp only [decide_eq_true_eq, decide_eq_false_iff_not, Bool.not_eq_true', Bool.not_eq_false', Bool.not_eq_true, Bool.not_eq_false] at hc)
          refine go_then ?go_119
          refine go_if (dt_val (de_isF BSu T.e_NotWhole hz hv T.b_isinstance rfl (i := 4) rfl rfl (.inl rfl) (clsE_own (BSu.gl rfl) T.x_NotWhole.g) T.k_NotWhole_NotWhole)) (fun hc => ?gt_120) (fun hc => ?gf_121)
          case gt_120 =>
            try (simp only [decide_eq_true_eq, decide_eq_false_iff_not, Bool.not_eq_true', Bool.not_eq_false', Bool.not_eq_true, Bool.not_eq_false] at hc)
            refine go_appendS BSu (i := 5) rfl de_str ?s10 rfl (.inl rfl) ?go_122
            (case s10 => decide)
            refine @go_nf _ _ _ _ _ _ [_, _, _, _, _, _] rfl ?go_123
            refine go_then ?go_124
            refine go_if (dt_val (de_isF BSu T.e_NotWhole hz hv T.b_isinstance rfl (i := 4) rfl rfl (.inl rfl) (clsE_own (BSu.gl rfl) T.x_NotRounding.g) T.k_NotWhole_NotRounding)) (fun hc => ?gt_125) (fun hc => ?gf_126)
            case gt_125 =>
              exfalso; revert hc; simp
            case gf_126 =>
              try (simp only [decide_eq_true_eq, decide_eq_false_iff_not, Bool.not_eq_true', Bool.not_eq_false', Bool.not_eq_true, Bool.not_eq_false] at hc)
              refine go_then ?go_127
              refine go_if (dt_val (de_isF BSu T.e_NotWhole hz hv T.b_isinstance rfl (i := 4) rfl rfl (.inl rfl) (clsE_own (BSu.gl rfl) T.x_BadChance.g) T.k_NotWhole_BadChance)) (fun hc => ?gt_128) (fun hc => ?gf_129)
              case gt_128 =>
                exfalso; revert hc; simp
              case gf_129 =>
                try (simp only [decide_eq_true_eq, decide_eq_false_iff_not, Bool.not_eq_true', Bool.not_eq_false', Bool.not_eq_true, Bool.not_eq_false] at hc)
                refine go_then ?go_130
                refine go_if (DW.t (dw_or (dt_neI (de_lenOS BSu T.b_len (i := 5) rfl rfl (.inl rfl) rfl) de_int) (fun hb1 => (dw_or1 (dt_not (dt_val (de_isF BSu T.e_NotWhole hz hv T.b_isinstance rfl (i := 4) rfl rfl (.inl rfl) (clsE_blt (BSu.gl rfl) T.b_ValueError (by decide +kernel)) T.k_NotWhole_ValueError))))))) (fun hc => ?gt_131) (fun hc => ?gf_132)
                case gt_131 =>
                  exfalso; revert hc; simp
                case gf_132 =>
                  try (simp only [decide_eq_true_eq, decide_eq_false_iff_not, Bool.not_eq_true', Bool.not_eq_false', Bool.not_eq_true, Bool.not_eq_false] at hc)
                  refine go_then ?go_133
                  refine go_ret (RT.su R) (de_tup (da_cons (de_ixHS BSu (i := 5) rfl rfl rfl (.inl rfl) de_int) (da_cons (de_nlN (de_i2n de_int)) da_nil)) (show (2 : Nat) ≤ sizeLine by decide)) ?rs_134
                  (case rs_134 => first | (unfold toldF; rw [if_pos hz1]; exact Sub.rfl) | (unfold toldF; rw [if_neg hz1, if_pos hz2]; exact Sub.rfl) | (unfold toldF; rw [if_neg hz1, if_neg hz2, if_pos hz3]; exact Sub.rfl) | (unfold toldF; rw [if_neg hz1, if_neg hz2, if_neg hz3, if_pos hz4]; exact Sub.rfl) | (unfold toldF; rw [if_neg hz1, if_neg hz2, if_neg hz3, if_neg hz4, if_pos hz5]; exact Sub.rfl) | (unfold toldF; rw [if_neg hz1, if_neg hz2, if_neg hz3, if_neg hz4, if_neg hz5, if_pos hz6]; exact Sub.rfl) | (unfold toldF; rw [if_neg hz1, if_neg hz2, if_neg hz3, if_neg hz4, if_neg hz5, if_neg hz6, if_pos hd]; exact Sub.rfl) | (unfold toldF; rw [if_neg hz1, if_neg hz2, if_neg hz3, if_neg hz4, if_neg hz5, if_neg hz6, if_neg hd, if_pos hz7]; exact Sub.rfl) | (unfold toldF; rw [if_neg hz1, if_neg hz2, if_neg hz3, if_neg hz4, if_neg hz5, if_neg hz6, if_neg hd, if_neg hz7]; exact Sub.rfl))
          case gf_121 =>
            exfalso; revert hc; simp
    by_cases hz6 : (lieA (bkR names rows) ws ts && whA ws) = false
    · refine go_retE (C := cs.NotRounding) (ex_tupS (ex_call B2 tk2 (ok_paper_chance T) (by decide) (bkR names rows, ts, ws) ?c_paper_chance_11 ((if_neg hz1).trans ((if_neg hz2).trans ((if_neg hz3).trans ((if_neg hz4).trans ((if_neg hz5).trans (if_pos hz6)))))) (da_cons (de_var B2 (i := 0) rfl rfl (.inl rfl)) (da_cons (de_var B2 (i := 1) rfl rfl (.inl rfl)) (da_cons (de_var B2 (i := 2) rfl rfl (.inl rfl)) da_nil))) rfl)) (fun F H σ en H1 s1 => ⟨true, (PySem.W.exm_ref T.x_BookError.bs T.x_BookError.hd T.x_BookError.ty T.s_NotRounding_BookError), fun _ al hal oe pn2 hz hv => ?gx_135, nofun⟩)
      (case c_paper_chance_11 => exact hp.pp)
      have BSu : BS (X.suite al ((al, oe) :: pn2)) _ _ := BO.su
      have en1 := en_err (i := 4) (a := al) en s1
      refine go_run en1 ?go_136
      refine @go_nf _ _ _ _ _ _ [_, _, _, _, _, _] rfl ?go_137
      refine go_setLS BSu (i := 5) (dl_lst da_nil (show (0 : Nat) ≤ sizeLine by decide)) rfl (.inl rfl) ?go_138
      refine @go_nf _ _ _ _ _ _ [_, _, _, _, _, _] rfl ?go_139
      refine go_if (dt_val (de_isF BSu T.e_NotRounding hz hv T.b_isinstance rfl (i := 4) rfl rfl (.inl rfl) (clsE_own (BSu.gl rfl) T.x_BadSize.g) T.k_NotRounding_BadSize)) (fun hc => ?gt_140) (fun hc => ?gf_141)
      case gt_140 =>
        exfalso; revert hc; simp
      case gf_141 =>
        try (simp only [decide_eq_true_eq, decide_eq_false_iff_not, Bool.not_eq_true', Bool.not_eq_false', Bool.not_eq_true, Bool.not_eq_false] at hc)
        refine go_then ?go_142
        refine go_if (dt_val (de_isF BSu T.e_NotRounding hz hv T.b_isinstance rfl (i := 4) rfl rfl (.inl rfl) (clsE_own (BSu.gl rfl) T.x_NotTable.g) T.k_NotRounding_NotTable)) (fun hc => ?gt_143) (fun hc => ?gf_144)
        case gt_143 =>
          exfalso; revert hc; simp
        case gf_144 =>
          try (simp only [decide_eq_true_eq, decide_eq_false_iff_not, Bool.not_eq_true', Bool.not_eq_false', Bool.not_eq_true, Bool.not_eq_false] at hc)
          refine go_then ?go_145
          refine go_if (dt_val (de_isF BSu T.e_NotRounding hz hv T.b_isinstance rfl (i := 4) rfl rfl (.inl rfl) (clsE_own (BSu.gl rfl) T.x_NotWhole.g) T.k_NotRounding_NotWhole)) (fun hc => ?gt_146) (fun hc => ?gf_147)
          case gt_146 =>
            exfalso; revert hc; simp
          case gf_147 =>
            try (simp only [decide_eq_true_eq, decide_eq_false_iff_not, Bool.not_eq_true', Bool.not_eq_false', Bool.not_eq_true, Bool.not_eq_false] at hc)
            refine go_then ?go_148
            refine go_if (dt_val (de_isF BSu T.e_NotRounding hz hv T.b_isinstance rfl (i := 4) rfl rfl (.inl rfl) (clsE_own (BSu.gl rfl) T.x_NotRounding.g) T.k_NotRounding_NotRounding)) (fun hc => ?gt_149) (fun hc => ?gf_150)
            case gt_149 =>
              try (simp only [decide_eq_true_eq, decide_eq_false_iff_not, Bool.not_eq_true', Bool.not_eq_false', Bool.not_eq_true, Bool.not_eq_false] at hc)
              refine go_appendS BSu (i := 5) rfl de_str ?s12 rfl (.inl rfl) ?go_151
              (case s12 => decide)
              refine @go_nf _ _ _ _ _ _ [_, _, _, _, _, _] rfl ?go_152
              refine go_then ?go_153
              refine go_if (dt_val (de_isF BSu T.e_NotRounding hz hv T.b_isinstance rfl (i := 4) rfl rfl (.inl rfl) (clsE_own (BSu.gl rfl) T.x_BadChance.g) T.k_NotRounding_BadChance)) (fun hc => ?gt_154) (fun hc => ?gf_155)
              case gt_154 =>
                exfalso; revert hc; simp
              case gf_155 =>
                try (simp only [decide_eq_true_eq, decide_eq_false_iff_not, Bool.not_eq_true', Bool.not_eq_false', Bool.not_eq_true, Bool.not_eq_false] at hc)
                refine go_then ?go_156
                refine go_if (DW.t (dw_or (dt_neI (de_lenOS BSu T.b_len (i := 5) rfl rfl (.inl rfl) rfl) de_int) (fun hb1 => (dw_or1 (dt_not (dt_val (de_isF BSu T.e_NotRounding hz hv T.b_isinstance rfl (i := 4) rfl rfl (.inl rfl) (clsE_blt (BSu.gl rfl) T.b_ValueError (by decide +kernel)) T.k_NotRounding_ValueError))))))) (fun hc => ?gt_157) (fun hc => ?gf_158)
                case gt_157 =>
                  exfalso; revert hc; simp
                case gf_158 =>
                  try (simp only [decide_eq_true_eq, decide_eq_false_iff_not, Bool.not_eq_true', Bool.not_eq_false', Bool.not_eq_true, Bool.not_eq_false] at hc)
                  refine go_then ?go_159
                  refine go_ret (RT.su R) (de_tup (da_cons (de_ixHS BSu (i := 5) rfl rfl rfl (.inl rfl) de_int) (da_cons (de_nlN (de_i2n de_int)) da_nil)) (show (2 : Nat) ≤ sizeLine by decide)) ?rs_160
                  (case rs_160 => first | (unfold toldF; rw [if_pos hz1]; exact Sub.rfl) | (unfold toldF; rw [if_neg hz1, if_pos hz2]; exact Sub.rfl) | (unfold toldF; rw [if_neg hz1, if_neg hz2, if_pos hz3]; exact Sub.rfl) | (unfold toldF; rw [if_neg hz1, if_neg hz2, if_neg hz3, if_pos hz4]; exact Sub.rfl) | (unfold toldF; rw [if_neg hz1, if_neg hz2, if_neg hz3, if_neg hz4, if_pos hz5]; exact Sub.rfl) | (unfold toldF; rw [if_neg hz1, if_neg hz2, if_neg hz3, if_neg hz4, if_neg hz5, if_pos hz6]; exact Sub.rfl) | (unfold toldF; rw [if_neg hz1, if_neg hz2, if_neg hz3, if_neg hz4, if_neg hz5, if_neg hz6, if_pos hd]; exact Sub.rfl) | (unfold toldF; rw [if_neg hz1, if_neg hz2, if_neg hz3, if_neg hz4, if_neg hz5, if_neg hz6, if_neg hd, if_pos hz7]; exact Sub.rfl) | (unfold toldF; rw [if_neg hz1, if_neg hz2, if_neg hz3, if_neg hz4, if_neg hz5, if_neg hz6, if_neg hd, if_neg hz7]; exact Sub.rfl))
            case gf_150 =>
              exfalso; revert hc; simp
    refine go_ret (RT.su R) (de_tup (da_cons de_str (da_cons (de_nlN (CA.val (ca_callO (okr_paper_chance X.K) B2 (ok_paper_chance T) (by decide) (bkR names rows, ts, ws) ?c_paper_chance_13 ((if_neg hz1).trans ((if_neg hz2).trans ((if_neg hz3).trans ((if_neg hz4).trans ((if_neg hz5).trans (if_neg hz6)))))) (da_cons (de_var B2 (i := 0) rfl rfl (.inl rfl)) (da_cons (de_var B2 (i := 1) rfl rfl (.inl rfl)) (da_cons (de_var B2 (i := 2) rfl rfl (.inl rfl)) da_nil))) rfl))) da_nil)) (show (2 : Nat) ≤ sizeLine by decide)) ?rs_161
    (case c_paper_chance_13 => exact hp.pp)
    (case rs_161 => first | (unfold toldF; rw [if_pos hz1]; exact Sub.rfl) | (unfold toldF; rw [if_neg hz1, if_pos hz2]; exact Sub.rfl) | (unfold toldF; rw [if_neg hz1, if_neg hz2, if_pos hz3]; exact Sub.rfl) | (unfold toldF; rw [if_neg hz1, if_neg hz2, if_neg hz3, if_pos hz4]; exact Sub.rfl) | (unfold toldF; rw [if_neg hz1, if_neg hz2, if_neg hz3, if_neg hz4, if_pos hz5]; exact Sub.rfl) | (unfold toldF; rw [if_neg hz1, if_neg hz2, if_neg hz3, if_neg hz4, if_neg hz5, if_pos hz6]; exact Sub.rfl) | (unfold toldF; rw [if_neg hz1, if_neg hz2, if_neg hz3, if_neg hz4, if_neg hz5, if_neg hz6, if_pos hd]; exact Sub.rfl) | (unfold toldF; rw [if_neg hz1, if_neg hz2, if_neg hz3, if_neg hz4, if_neg hz5, if_neg hz6, if_neg hd, if_pos hz7]; exact Sub.rfl) | (unfold toldF; rw [if_neg hz1, if_neg hz2, if_neg hz3, if_neg hz4, if_neg hz5, if_neg hz6, if_neg hd, if_neg hz7]; exact Sub.rfl))
  case gf_4 =>
    have hd := of_decide_eq_false hc
    refine go_then ?go_162
    by_cases hz1 : ¬ ts.length = (bkR names rows).size
    · refine go_retE (C := cs.BadSize) (ex_tupS (ex_call B2 tk2 (ok_rest_after T) (by decide) (bkR names rows, ts, ws) ?c_rest_after_14 (if_pos hz1) (da_cons (de_var B2 (i := 0) rfl rfl (.inl rfl)) (da_cons (de_var B2 (i := 1) rfl rfl (.inl rfl)) (da_cons (de_var B2 (i := 2) rfl rfl (.inl rfl)) da_nil))) rfl)) (fun F H σ en H1 s1 => ⟨true, (PySem.W.exm_ref T.x_BookError.bs T.x_BookError.hd T.x_BookError.ty T.s_BadSize_BookError), fun _ al hal oe pn2 hz hv => ?gx_163, nofun⟩)
      (case c_rest_after_14 => exact hp.pp)
      have BSu : BS (X.suite al ((al, oe) :: pn2)) _ _ := BO.su
      have en1 := en_err (i := 4) (a := al) en s1
      refine go_run en1 ?go_164
      refine @go_nf _ _ _ _ _ _ [_, _, _, _, _, _] rfl ?go_165
      refine go_setLS BSu (i := 5) (dl_lst da_nil (show (0 : Nat) ≤ sizeLine by decide)) rfl (.inl rfl) ?go_166
      refine @go_nf _ _ _ _ _ _ [_, _, _, _, _, _] rfl ?go_167
      refine go_if (dt_val (de_isF BSu T.e_BadSize hz hv T.b_isinstance rfl (i := 4) rfl rfl (.inl rfl) (clsE_own (BSu.gl rfl) T.x_BadSize.g) T.k_BadSize_BadSize)) (fun hc => ?gt_168) (fun hc => ?gf_169)
      case gt_168 =>
        try (simp only [decide_eq_true_eq, decide_eq_false_iff_not, Bool.not_eq_true', Bool.not_eq_false', Bool.not_eq_true, Bool.not_eq_false] at hc)
        refine go_appendS BSu (i := 5) rfl de_str ?s15 rfl (.inl rfl) ?go_170
        (case s15 => decide)
        refine @go_nf _ _ _ _ _ _ [_, _, _, _, _, _] rfl ?go_171
        refine go_then ?go_172
        refine go_if (dt_val (de_isF BSu T.e_BadSize hz hv T.b_isinstance rfl (i := 4) rfl rfl (.inl rfl) (clsE_own (BSu.gl rfl) T.x_NotTable.g) T.k_BadSize_NotTable)) (fun hc => ?gt_173) (fun hc => ?gf_174)
        case gt_173 =>
          exfalso; revert hc; simp
        case gf_174 =>
          try (simp only [decide_eq_true_eq, decide_eq_false_iff_not, Bool.not_eq_true', Bool.not_eq_false', Bool.not_eq_true, Bool.not_eq_false] at hc)
          refine go_then ?go_175
          refine go_if (dt_val (de_isF BSu T.e_BadSize hz hv T.b_isinstance rfl (i := 4) rfl rfl (.inl rfl) (clsE_own (BSu.gl rfl) T.x_NotWhole.g) T.k_BadSize_NotWhole)) (fun hc => ?gt_176) (fun hc => ?gf_177)
          case gt_176 =>
            exfalso; revert hc; simp
          case gf_177 =>
            try (simp only [decide_eq_true_eq, decide_eq_false_iff_not, Bool.not_eq_true', Bool.not_eq_false', Bool.not_eq_true, Bool.not_eq_false] at hc)
            refine go_then ?go_178
            refine go_if (dt_val (de_isF BSu T.e_BadSize hz hv T.b_isinstance rfl (i := 4) rfl rfl (.inl rfl) (clsE_own (BSu.gl rfl) T.x_NotRounding.g) T.k_BadSize_NotRounding)) (fun hc => ?gt_179) (fun hc => ?gf_180)
            case gt_179 =>
              exfalso; revert hc; simp
            case gf_180 =>
              try (simp only [decide_eq_true_eq, decide_eq_false_iff_not, Bool.not_eq_true', Bool.not_eq_false', Bool.not_eq_true, Bool.not_eq_false] at hc)
              refine go_then ?go_181
              refine go_if (dt_val (de_isF BSu T.e_BadSize hz hv T.b_isinstance rfl (i := 4) rfl rfl (.inl rfl) (clsE_own (BSu.gl rfl) T.x_BadChance.g) T.k_BadSize_BadChance)) (fun hc => ?gt_182) (fun hc => ?gf_183)
              case gt_182 =>
                exfalso; revert hc; simp
              case gf_183 =>
                try (simp only [decide_eq_true_eq, decide_eq_false_iff_not, Bool.not_eq_true', Bool.not_eq_false', Bool.not_eq_true, Bool.not_eq_false] at hc)
                refine go_then ?go_184
                refine go_if (DW.t (dw_or (dt_neI (de_lenOS BSu T.b_len (i := 5) rfl rfl (.inl rfl) rfl) de_int) (fun hb1 => (dw_or1 (dt_not (dt_val (de_isF BSu T.e_BadSize hz hv T.b_isinstance rfl (i := 4) rfl rfl (.inl rfl) (clsE_blt (BSu.gl rfl) T.b_ValueError (by decide +kernel)) T.k_BadSize_ValueError))))))) (fun hc => ?gt_185) (fun hc => ?gf_186)
                case gt_185 =>
                  exfalso; revert hc; simp
                case gf_186 =>
                  try (simp only [decide_eq_true_eq, decide_eq_false_iff_not, Bool.not_eq_true', Bool.not_eq_false', Bool.not_eq_true, Bool.not_eq_false] at hc)
                  refine go_then ?go_187
                  refine go_ret (RT.su R) (de_tup (da_cons (de_ixHS BSu (i := 5) rfl rfl rfl (.inl rfl) de_int) (da_cons (de_nlN (de_i2n de_int)) da_nil)) (show (2 : Nat) ≤ sizeLine by decide)) ?rs_188
                  (case rs_188 => first | (unfold toldF; rw [if_pos hz1]; exact Sub.rfl) | (unfold toldF; rw [if_neg hz1, if_pos hz2]; exact Sub.rfl) | (unfold toldF; rw [if_neg hz1, if_neg hz2, if_pos hz3]; exact Sub.rfl) | (unfold toldF; rw [if_neg hz1, if_neg hz2, if_neg hz3, if_pos hz4]; exact Sub.rfl) | (unfold toldF; rw [if_neg hz1, if_neg hz2, if_neg hz3, if_neg hz4, if_pos hz5]; exact Sub.rfl) | (unfold toldF; rw [if_neg hz1, if_neg hz2, if_neg hz3, if_neg hz4, if_neg hz5, if_pos hz6]; exact Sub.rfl) | (unfold toldF; rw [if_neg hz1, if_neg hz2, if_neg hz3, if_neg hz4, if_neg hz5, if_neg hz6, if_pos hd]; exact Sub.rfl) | (unfold toldF; rw [if_neg hz1, if_neg hz2, if_neg hz3, if_neg hz4, if_neg hz5, if_neg hz6, if_neg hd, if_pos hz7]; exact Sub.rfl) | (unfold toldF; rw [if_neg hz1, if_neg hz2, if_neg hz3, if_neg hz4, if_neg hz5, if_neg hz6, if_neg hd, if_neg hz7]; exact Sub.rfl))
      case gf_169 =>
        exfalso; revert hc; simp
    by_cases hz2 : isTab (bkR names rows) ts = false
    · refine go_retE (C := cs.NotTable) (ex_tupS (ex_call B2 tk2 (ok_rest_after T) (by decide) (bkR names rows, ts, ws) ?c_rest_after_16 ((if_neg hz1).trans (if_pos hz2)) (da_cons (de_var B2 (i := 0) rfl rfl (.inl rfl)) (da_cons (de_var B2 (i := 1) rfl rfl (.inl rfl)) (da_cons (de_var B2 (i := 2) rfl rfl (.inl rfl)) da_nil))) rfl)) (fun F H σ en H1 s1 => ⟨true, (PySem.W.exm_ref T.x_BookError.bs T.x_BookError.hd T.x_BookError.ty T.s_NotTable_BookError), fun _ al hal oe pn2 hz hv => ?gx_189, nofun⟩)
      (case c_rest_after_16 => exact hp.pp)
      have BSu : BS (X.suite al ((al, oe) :: pn2)) _ _ := BO.su
      have en1 := en_err (i := 4) (a := al) en s1
      refine go_run en1 ?go_190
      refine @go_nf _ _ _ _ _ _ [_, _, _, _, _, _] rfl ?go_191
      refine go_setLS BSu (i := 5) (dl_lst da_nil (show (0 : Nat) ≤ sizeLine by decide)) rfl (.inl rfl) ?go_192
      refine @go_nf _ _ _ _ _ _ [_, _, _, _, _, _] rfl ?go_193
      refine go_if (dt_val (de_isF BSu T.e_NotTable hz hv T.b_isinstance rfl (i := 4) rfl rfl (.inl rfl) (clsE_own (BSu.gl rfl) T.x_BadSize.g) T.k_NotTable_BadSize)) (fun hc => ?gt_194) (fun hc => ?gf_195)
      case gt_194 =>
        exfalso; revert hc; simp
      case gf_195 =>
        try (simp only [decide_eq_true_eq, decide_eq_false_iff_not, Bool.not_eq_true', Bool.not_eq_false', Bool.not_eq_true, Bool.not_eq_false] at hc)
        refine go_then ?go_196
        refine go_if (dt_val (de_isF BSu T.e_NotTable hz hv T.b_isinstance rfl (i := 4) rfl rfl (.inl rfl) (clsE_own (BSu.gl rfl) T.x_NotTable.g) T.k_NotTable_NotTable)) (fun hc => ?gt_197) (fun hc => ?gf_198)
        case gt_197 =>
          try (simp only [decide_eq_true_eq, decide_eq_false_iff_not, Bool.not_eq_true', Bool.not_eq_false', Bool.not_eq_true, Bool.not_eq_false] at hc)
          refine go_appendS BSu (i := 5) rfl de_str ?s17 rfl (.inl rfl) ?go_199
          (case s17 => decide)
          refine @go_nf _ _ _ _ _ _ [_, _, _, _, _, _] rfl ?go_200
          refine go_then ?go_201
          refine go_if (dt_val (de_isF BSu T.e_NotTable hz hv T.b_isinstance rfl (i := 4) rfl rfl (.inl rfl) (clsE_own (BSu.gl rfl) T.x_NotWhole.g) T.k_NotTable_NotWhole)) (fun hc => ?gt_202) (fun hc => ?gf_203)
          case gt_202 =>
            exfalso; revert hc; simp
          case gf_203 =>
            try (simp only [decide_eq_true_eq, decide_eq_false_iff_not, Bool.not_eq_true', Bool.not_eq_false', Bool.not_eq_true, Bool.not_eq_false] at hc)
            refine go_then ?go_204
            refine go_if (dt_val (de_isF BSu T.e_NotTable hz hv T.b_isinstance rfl (i := 4) rfl rfl (.inl rfl) (clsE_own (BSu.gl rfl) T.x_NotRounding.g) T.k_NotTable_NotRounding)) (fun hc => ?gt_205) (fun hc => ?gf_206)
            case gt_205 =>
              exfalso; revert hc; simp
            case gf_206 =>
              try (simp only [decide_eq_true_eq, decide_eq_false_iff_not, Bool.not_eq_true', Bool.not_eq_false', Bool.not_eq_true, Bool.not_eq_false] at hc)
              refine go_then ?go_207
              refine go_if (dt_val (de_isF BSu T.e_NotTable hz hv T.b_isinstance rfl (i := 4) rfl rfl (.inl rfl) (clsE_own (BSu.gl rfl) T.x_BadChance.g) T.k_NotTable_BadChance)) (fun hc => ?gt_208) (fun hc => ?gf_209)
              case gt_208 =>
                exfalso; revert hc; simp
              case gf_209 =>
                try (simp only [decide_eq_true_eq, decide_eq_false_iff_not, Bool.not_eq_true', Bool.not_eq_false', Bool.not_eq_true, Bool.not_eq_false] at hc)
                refine go_then ?go_210
                refine go_if (DW.t (dw_or (dt_neI (de_lenOS BSu T.b_len (i := 5) rfl rfl (.inl rfl) rfl) de_int) (fun hb1 => (dw_or1 (dt_not (dt_val (de_isF BSu T.e_NotTable hz hv T.b_isinstance rfl (i := 4) rfl rfl (.inl rfl) (clsE_blt (BSu.gl rfl) T.b_ValueError (by decide +kernel)) T.k_NotTable_ValueError))))))) (fun hc => ?gt_211) (fun hc => ?gf_212)
                case gt_211 =>
                  exfalso; revert hc; simp
                case gf_212 =>
                  try (simp only [decide_eq_true_eq, decide_eq_false_iff_not, Bool.not_eq_true', Bool.not_eq_false', Bool.not_eq_true, Bool.not_eq_false] at hc)
                  refine go_then ?go_213
                  refine go_ret (RT.su R) (de_tup (da_cons (de_ixHS BSu (i := 5) rfl rfl rfl (.inl rfl) de_int) (da_cons (de_nlN (de_i2n de_int)) da_nil)) (show (2 : Nat) ≤ sizeLine by decide)) ?rs_214
                  (case rs_214 => first | (unfold toldF; rw [if_pos hz1]; exact Sub.rfl) | (unfold toldF; rw [if_neg hz1, if_pos hz2]; exact Sub.rfl) | (unfold toldF; rw [if_neg hz1, if_neg hz2, if_pos hz3]; exact Sub.rfl) | (unfold toldF; rw [if_neg hz1, if_neg hz2, if_neg hz3, if_pos hz4]; exact Sub.rfl) | (unfold toldF; rw [if_neg hz1, if_neg hz2, if_neg hz3, if_neg hz4, if_pos hz5]; exact Sub.rfl) | (unfold toldF; rw [if_neg hz1, if_neg hz2, if_neg hz3, if_neg hz4, if_neg hz5, if_pos hz6]; exact Sub.rfl) | (unfold toldF; rw [if_neg hz1, if_neg hz2, if_neg hz3, if_neg hz4, if_neg hz5, if_neg hz6, if_pos hd]; exact Sub.rfl) | (unfold toldF; rw [if_neg hz1, if_neg hz2, if_neg hz3, if_neg hz4, if_neg hz5, if_neg hz6, if_neg hd, if_pos hz7]; exact Sub.rfl) | (unfold toldF; rw [if_neg hz1, if_neg hz2, if_neg hz3, if_neg hz4, if_neg hz5, if_neg hz6, if_neg hd, if_neg hz7]; exact Sub.rfl))
        case gf_198 =>
          exfalso; revert hc; simp
    by_cases hz3 : ¬ ws.length = (bkR names rows).size
    · refine go_retE (C := cs.BadSize) (ex_tupS (ex_call B2 tk2 (ok_rest_after T) (by decide) (bkR names rows, ts, ws) ?c_rest_after_18 ((if_neg hz1).trans ((if_neg hz2).trans (if_pos hz3))) (da_cons (de_var B2 (i := 0) rfl rfl (.inl rfl)) (da_cons (de_var B2 (i := 1) rfl rfl (.inl rfl)) (da_cons (de_var B2 (i := 2) rfl rfl (.inl rfl)) da_nil))) rfl)) (fun F H σ en H1 s1 => ⟨true, (PySem.W.exm_ref T.x_BookError.bs T.x_BookError.hd T.x_BookError.ty T.s_BadSize_BookError), fun _ al hal oe pn2 hz hv => ?gx_215, nofun⟩)
      (case c_rest_after_18 => exact hp.pp)
      have BSu : BS (X.suite al ((al, oe) :: pn2)) _ _ := BO.su
      have en1 := en_err (i := 4) (a := al) en s1
      refine go_run en1 ?go_216
      refine @go_nf _ _ _ _ _ _ [_, _, _, _, _, _] rfl ?go_217
      refine go_setLS BSu (i := 5) (dl_lst da_nil (show (0 : Nat) ≤ sizeLine by decide)) rfl (.inl rfl) ?go_218
      refine @go_nf _ _ _ _ _ _ [_, _, _, _, _, _] rfl ?go_219
      refine go_if (dt_val (de_isF BSu T.e_BadSize hz hv T.b_isinstance rfl (i := 4) rfl rfl (.inl rfl) (clsE_own (BSu.gl rfl) T.x_BadSize.g) T.k_BadSize_BadSize)) (fun hc => ?gt_220) (fun hc => ?gf_221)
      case gt_220 =>
        try (simp only [decide_eq_true_eq, decide_eq_false_iff_not, Bool.not_eq_true', Bool.not_eq_false', Bool.not_eq_true, Bool.not_eq_false] at hc)
        refine go_appendS BSu (i := 5) rfl de_str ?s19 rfl (.inl rfl) ?go_222
        (case s19 => decide)
        refine @go_nf _ _ _ _ _ _ [_, _, _, _, _, _] rfl ?go_223
        refine go_then ?go_224
        refine go_if (dt_val (de_isF BSu T.e_BadSize hz hv T.b_isinstance rfl (i := 4) rfl rfl (.inl rfl) (clsE_own (BSu.gl rfl) T.x_NotTable.g) T.k_BadSize_NotTable)) (fun hc => ?gt_225) (fun hc => ?gf_226)
        case gt_225 =>
          exfalso; revert hc; simp
        case gf_226 =>
          try (simp only [decide_eq_true_eq, decide_eq_false_iff_not, Bool.not_eq_true', Bool.not_eq_false', Bool.not_eq_true, Bool.not_eq_false] at hc)
          refine go_then ?go_227
          refine go_if (dt_val (de_isF BSu T.e_BadSize hz hv T.b_isinstance rfl (i := 4) rfl rfl (.inl rfl) (clsE_own (BSu.gl rfl) T.x_NotWhole.g) T.k_BadSize_NotWhole)) (fun hc => ?gt_228) (fun hc => ?gf_229)
          case gt_228 =>
            exfalso; revert hc; simp
          case gf_229 =>
            try (simp only [decide_eq_true_eq, decide_eq_false_iff_not, Bool.not_eq_true', Bool.not_eq_false', Bool.not_eq_true, Bool.not_eq_false] at hc)
            refine go_then ?go_230
            refine go_if (dt_val (de_isF BSu T.e_BadSize hz hv T.b_isinstance rfl (i := 4) rfl rfl (.inl rfl) (clsE_own (BSu.gl rfl) T.x_NotRounding.g) T.k_BadSize_NotRounding)) (fun hc => ?gt_231) (fun hc => ?gf_232)
            case gt_231 =>
              exfalso; revert hc; simp
            case gf_232 =>
              try (simp only [decide_eq_true_eq, decide_eq_false_iff_not, Bool.not_eq_true', Bool.not_eq_false', Bool.not_eq_true, Bool.not_eq_false] at hc)
              refine go_then ?go_233
              refine go_if (dt_val (de_isF BSu T.e_BadSize hz hv T.b_isinstance rfl (i := 4) rfl rfl (.inl rfl) (clsE_own (BSu.gl rfl) T.x_BadChance.g) T.k_BadSize_BadChance)) (fun hc => ?gt_234) (fun hc => ?gf_235)
              case gt_234 =>
                exfalso; revert hc; simp
              case gf_235 =>
                try (simp only [decide_eq_true_eq, decide_eq_false_iff_not, Bool.not_eq_true', Bool.not_eq_false', Bool.not_eq_true, Bool.not_eq_false] at hc)
                refine go_then ?go_236
                refine go_if (DW.t (dw_or (dt_neI (de_lenOS BSu T.b_len (i := 5) rfl rfl (.inl rfl) rfl) de_int) (fun hb1 => (dw_or1 (dt_not (dt_val (de_isF BSu T.e_BadSize hz hv T.b_isinstance rfl (i := 4) rfl rfl (.inl rfl) (clsE_blt (BSu.gl rfl) T.b_ValueError (by decide +kernel)) T.k_BadSize_ValueError))))))) (fun hc => ?gt_237) (fun hc => ?gf_238)
                case gt_237 =>
                  exfalso; revert hc; simp
                case gf_238 =>
                  try (simp only [decide_eq_true_eq, decide_eq_false_iff_not, Bool.not_eq_true', Bool.not_eq_false', Bool.not_eq_true, Bool.not_eq_false] at hc)
                  refine go_then ?go_239
                  refine go_ret (RT.su R) (de_tup (da_cons (de_ixHS BSu (i := 5) rfl rfl rfl (.inl rfl) de_int) (da_cons (de_nlN (de_i2n de_int)) da_nil)) (show (2 : Nat) ≤ sizeLine by decide)) ?rs_240
                  (case rs_240 => first | (unfold toldF; rw [if_pos hz1]; exact Sub.rfl) | (unfold toldF; rw [if_neg hz1, if_pos hz2]; exact Sub.rfl) | (unfold toldF; rw [if_neg hz1, if_neg hz2, if_pos hz3]; exact Sub.rfl) | (unfold toldF; rw [if_neg hz1, if_neg hz2, if_neg hz3, if_pos hz4]; exact Sub.rfl) | (unfold toldF; rw [if_neg hz1, if_neg hz2, if_neg hz3, if_neg hz4, if_pos hz5]; exact Sub.rfl) | (unfold toldF; rw [if_neg hz1, if_neg hz2, if_neg hz3, if_neg hz4, if_neg hz5, if_pos hz6]; exact Sub.rfl) | (unfold toldF; rw [if_neg hz1, if_neg hz2, if_neg hz3, if_neg hz4, if_neg hz5, if_neg hz6, if_pos hd]; exact Sub.rfl) | (unfold toldF; rw [if_neg hz1, if_neg hz2, if_neg hz3, if_neg hz4, if_neg hz5, if_neg hz6, if_neg hd, if_pos hz7]; exact Sub.rfl) | (unfold toldF; rw [if_neg hz1, if_neg hz2, if_neg hz3, if_neg hz4, if_neg hz5, if_neg hz6, if_neg hd, if_neg hz7]; exact Sub.rfl))
      case gf_221 =>
        exfalso; revert hc; simp
    by_cases hz4 : isTab (bkR names rows) ws = false
    · refine go_retE (C := cs.NotTable) (ex_tupS (ex_call B2 tk2 (ok_rest_after T) (by decide) (bkR names rows, ts, ws) ?c_rest_after_20 ((if_neg hz1).trans ((if_neg hz2).trans ((if_neg hz3).trans (if_pos hz4)))) (da_cons (de_var B2 (i := 0) rfl rfl (.inl rfl)) (da_cons (de_var B2 (i := 1) rfl rfl (.inl rfl)) (da_cons (de_var B2 (i := 2) rfl rfl (.inl rfl)) da_nil))) rfl)) (fun F H σ en H1 s1 => ⟨true, (PySem.W.exm_ref T.x_BookError.bs T.x_BookError.hd T.x_BookError.ty T.s_NotTable_BookError), fun _ al hal oe pn2 hz hv => ?gx_241, nofun⟩)
      (case c_rest_after_20 => exact hp.pp)
      have BSu : BS (X.suite al ((al, oe) :: pn2)) _ _ := BO.su
      have en1 := en_err (i := 4) (a := al) en s1
      refine go_run en1 ?go_242
      refine @go_nf _ _ _ _ _ _ [_, _, _, _, _, _] rfl ?go_243
      refine go_setLS BSu (i := 5) (dl_lst da_nil (show (0 : Nat) ≤ sizeLine by decide)) rfl (.inl rfl) ?go_244
      refine @go_nf _ _ _ _ _ _ [_, _, _, _, _, _] rfl ?go_245
      refine go_if (dt_val (de_isF BSu T.e_NotTable hz hv T.b_isinstance rfl (i := 4) rfl rfl (.inl rfl) (clsE_own (BSu.gl rfl) T.x_BadSize.g) T.k_NotTable_BadSize)) (fun hc => ?gt_246) (fun hc => ?gf_247)
      case gt_246 =>
        exfalso; revert hc; simp
      case gf_247 =>
        try (simp only [decide_eq_true_eq, decide_eq_false_iff_not, Bool.not_eq_true', Bool.not_eq_false', Bool.not_eq_true, Bool.not_eq_false] at hc)
        refine go_then ?go_248
        refine go_if (dt_val (de_isF BSu T.e_NotTable hz hv T.b_isinstance rfl (i := 4) rfl rfl (.inl rfl) (clsE_own (BSu.gl rfl) T.x_NotTable.g) T.k_NotTable_NotTable)) (fun hc => ?gt_249) (fun hc => ?gf_250)
        case gt_249 =>
          try (simp only [decide_eq_true_eq, decide_eq_false_iff_not, Bool.not_eq_true', Bool.not_eq_false', Bool.not_eq_true, Bool.not_eq_false] at hc)
          refine go_appendS BSu (i := 5) rfl de_str ?s21 rfl (.inl rfl) ?go_251
          (case s21 => decide)
          refine @go_nf _ _ _ _ _ _ [_, _, _, _, _, _] rfl ?go_252
          refine go_then ?go_253
          refine go_if (dt_val (de_isF BSu T.e_NotTable hz hv T.b_isinstance rfl (i := 4) rfl rfl (.inl rfl) (clsE_own (BSu.gl rfl) T.x_NotWhole.g) T.k_NotTable_NotWhole)) (fun hc => ?gt_254) (fun hc => ?gf_255)
          case gt_254 =>
            exfalso; revert hc; simp
          case gf_255 =>
            try (simp only [decide_eq_true_eq, decide_eq_false_iff_not, Bool.not_eq_true', Bool.not_eq_false', Bool.not_eq_true, Bool.not_eq_false] at hc)
            refine go_then ?go_256
            refine go_if (dt_val (de_isF BSu T.e_NotTable hz hv T.b_isinstance rfl (i := 4) rfl rfl (.inl rfl) (clsE_own (BSu.gl rfl) T.x_NotRounding.g) T.k_NotTable_NotRounding)) (fun hc => ?gt_257) (fun hc => ?gf_258)
            case gt_257 =>
              exfalso; revert hc; simp
            case gf_258 =>
              try (simp only [decide_eq_true_eq, decide_eq_false_iff_not, Bool.not_eq_true', Bool.not_eq_false', Bool.not_eq_true, Bool.not_eq_false] at hc)
              refine go_then ?go_259
              refine go_if (dt_val (de_isF BSu T.e_NotTable hz hv T.b_isinstance rfl (i := 4) rfl rfl (.inl rfl) (clsE_own (BSu.gl rfl) T.x_BadChance.g) T.k_NotTable_BadChance)) (fun hc => ?gt_260) (fun hc => ?gf_261)
              case gt_260 =>
                exfalso; revert hc; simp
              case gf_261 =>
                try (simp only [decide_eq_true_eq, decide_eq_false_iff_not, Bool.not_eq_true', Bool.not_eq_false', Bool.not_eq_true, Bool.not_eq_false] at hc)
                refine go_then ?go_262
                refine go_if (DW.t (dw_or (dt_neI (de_lenOS BSu T.b_len (i := 5) rfl rfl (.inl rfl) rfl) de_int) (fun hb1 => (dw_or1 (dt_not (dt_val (de_isF BSu T.e_NotTable hz hv T.b_isinstance rfl (i := 4) rfl rfl (.inl rfl) (clsE_blt (BSu.gl rfl) T.b_ValueError (by decide +kernel)) T.k_NotTable_ValueError))))))) (fun hc => ?gt_263) (fun hc => ?gf_264)
                case gt_263 =>
                  exfalso; revert hc; simp
                case gf_264 =>
                  try (simp only [decide_eq_true_eq, decide_eq_false_iff_not, Bool.not_eq_true', Bool.not_eq_false', Bool.not_eq_true, Bool.not_eq_false] at hc)
                  refine go_then ?go_265
                  refine go_ret (RT.su R) (de_tup (da_cons (de_ixHS BSu (i := 5) rfl rfl rfl (.inl rfl) de_int) (da_cons (de_nlN (de_i2n de_int)) da_nil)) (show (2 : Nat) ≤ sizeLine by decide)) ?rs_266
                  (case rs_266 => first | (unfold toldF; rw [if_pos hz1]; exact Sub.rfl) | (unfold toldF; rw [if_neg hz1, if_pos hz2]; exact Sub.rfl) | (unfold toldF; rw [if_neg hz1, if_neg hz2, if_pos hz3]; exact Sub.rfl) | (unfold toldF; rw [if_neg hz1, if_neg hz2, if_neg hz3, if_pos hz4]; exact Sub.rfl) | (unfold toldF; rw [if_neg hz1, if_neg hz2, if_neg hz3, if_neg hz4, if_pos hz5]; exact Sub.rfl) | (unfold toldF; rw [if_neg hz1, if_neg hz2, if_neg hz3, if_neg hz4, if_neg hz5, if_pos hz6]; exact Sub.rfl) | (unfold toldF; rw [if_neg hz1, if_neg hz2, if_neg hz3, if_neg hz4, if_neg hz5, if_neg hz6, if_pos hd]; exact Sub.rfl) | (unfold toldF; rw [if_neg hz1, if_neg hz2, if_neg hz3, if_neg hz4, if_neg hz5, if_neg hz6, if_neg hd, if_pos hz7]; exact Sub.rfl) | (unfold toldF; rw [if_neg hz1, if_neg hz2, if_neg hz3, if_neg hz4, if_neg hz5, if_neg hz6, if_neg hd, if_neg hz7]; exact Sub.rfl))
        case gf_250 =>
          exfalso; revert hc; simp
    by_cases hz5 : whA ws = false
    · refine go_retE (C := cs.NotWhole) (ex_tupS (ex_call B2 tk2 (ok_rest_after T) (by decide) (bkR names rows, ts, ws) ?c_rest_after_22 ((if_neg hz1).trans ((if_neg hz2).trans ((if_neg hz3).trans ((if_neg hz4).trans (if_pos hz5))))) (da_cons (de_var B2 (i := 0) rfl rfl (.inl rfl)) (da_cons (de_var B2 (i := 1) rfl rfl (.inl rfl)) (da_cons (de_var B2 (i := 2) rfl rfl (.inl rfl)) da_nil))) rfl)) (fun F H σ en H1 s1 => ⟨true, (PySem.W.exm_ref T.x_BookError.bs T.x_BookError.hd T.x_BookError.ty T.s_NotWhole_BookError), fun _ al hal oe pn2 hz hv => ?gx_267, nofun⟩)
      (case c_rest_after_22 => exact hp.pp)
      have BSu : BS (X.suite al ((al, oe) :: pn2)) _ _ := BO.su
      have en1 := en_err (i := 4) (a := al) en s1
      refine go_run en1 ?go_268
      refine @go_nf _ _ _ _ _ _ [_, _, _, _, _, _] rfl ?go_269
      refine go_setLS BSu (i := 5) (dl_lst da_nil (show (0 : Nat) ≤ sizeLine by decide)) rfl (.inl rfl) ?go_270
      refine @go_nf _ _ _ _ _ _ [_, _, _, _, _, _] rfl ?go_271
      refine go_if (dt_val (de_isF BSu T.e_NotWhole hz hv T.b_isinstance rfl (i := 4) rfl rfl (.inl rfl) (clsE_own (BSu.gl rfl) T.x_BadSize.g) T.k_NotWhole_BadSize)) (fun hc => ?gt_272) (fun hc => ?gf_273)
      case gt_272 =>
        exfalso; revert hc; simp
      case gf_273 =>
        try (simp only [decide_eq_true_eq, decide_eq_false_iff_not, Bool.not_eq_true', Bool.not_eq_false', Bool.not_eq_true, Bool.not_eq_false] at hc)
        refine go_then ?go_274
        refine go_if (dt_val (de_isF BSu T.e_NotWhole hz hv T.b_isinstance rfl (i := 4) rfl rfl (.inl rfl) (clsE_own (BSu.gl rfl) T.x_NotTable.g) T.k_NotWhole_NotTable)) (fun hc => ?gt_275) (fun hc => ?gf_276)
        case gt_275 =>
          exfalso; revert hc; simp
        case gf_276 =>
          try (simp only [decide_eq_true_eq, decide_eq_false_iff_not, Bool.not_eq_true', Bool.not_eq_false', Bool.not_eq_true, Bool.not_eq_false] at hc)
          refine go_then ?go_277
          refine go_if (dt_val (de_isF BSu T.e_NotWhole hz hv T.b_isinstance rfl (i := 4) rfl rfl (.inl rfl) (clsE_own (BSu.gl rfl) T.x_NotWhole.g) T.k_NotWhole_NotWhole)) (fun hc => ?gt_278) (fun hc => ?gf_279)
          case gt_278 =>
            try (simp only [decide_eq_true_eq, decide_eq_false_iff_not, Bool.not_eq_true', Bool.not_eq_false', Bool.not_eq_true, Bool.not_eq_false] at hc)
            refine go_appendS BSu (i := 5) rfl de_str ?s23 rfl (.inl rfl) ?go_280
            (case s23 => decide)
            refine @go_nf _ _ _ _ _ _ [_, _, _, _, _, _] rfl ?go_281
            refine go_then ?go_282
            refine go_if (dt_val (de_isF BSu T.e_NotWhole hz hv T.b_isinstance rfl (i := 4) rfl rfl (.inl rfl) (clsE_own (BSu.gl rfl) T.x_NotRounding.g) T.k_NotWhole_NotRounding)) (fun hc => ?gt_283) (fun hc => ?gf_284)
            case gt_283 =>
              exfalso; revert hc; simp
            case gf_284 =>
              try (simp only [decide_eq_true_eq, decide_eq_false_iff_not, Bool.not_eq_true', Bool.not_eq_false', Bool.not_eq_true, Bool.not_eq_false] at hc)
              refine go_then ?go_285
              refine go_if (dt_val (de_isF BSu T.e_NotWhole hz hv T.b_isinstance rfl (i := 4) rfl rfl (.inl rfl) (clsE_own (BSu.gl rfl) T.x_BadChance.g) T.k_NotWhole_BadChance)) (fun hc => ?gt_286) (fun hc => ?gf_287)
              case gt_286 =>
                exfalso; revert hc; simp
              case gf_287 =>
                try (simp only [decide_eq_true_eq, decide_eq_false_iff_not, Bool.not_eq_true', Bool.not_eq_false', Bool.not_eq_true, Bool.not_eq_false] at hc)
                refine go_then ?go_288
                refine go_if (DW.t (dw_or (dt_neI (de_lenOS BSu T.b_len (i := 5) rfl rfl (.inl rfl) rfl) de_int) (fun hb1 => (dw_or1 (dt_not (dt_val (de_isF BSu T.e_NotWhole hz hv T.b_isinstance rfl (i := 4) rfl rfl (.inl rfl) (clsE_blt (BSu.gl rfl) T.b_ValueError (by decide +kernel)) T.k_NotWhole_ValueError))))))) (fun hc => ?gt_289) (fun hc => ?gf_290)
                case gt_289 =>
                  exfalso; revert hc; simp
                case gf_290 =>
                  try (simp only [decide_eq_true_eq, decide_eq_false_iff_not, Bool.not_eq_true', Bool.not_eq_false', Bool.not_eq_true, Bool.not_eq_false] at hc)
                  refine go_then ?go_291
                  refine go_ret (RT.su R) (de_tup (da_cons (de_ixHS BSu (i := 5) rfl rfl rfl (.inl rfl) de_int) (da_cons (de_nlN (de_i2n de_int)) da_nil)) (show (2 : Nat) ≤ sizeLine by decide)) ?rs_292
                  (case rs_292 => first | (unfold toldF; rw [if_pos hz1]; exact Sub.rfl) | (unfold toldF; rw [if_neg hz1, if_pos hz2]; exact Sub.rfl) | (unfold toldF; rw [if_neg hz1, if_neg hz2, if_pos hz3]; exact Sub.rfl) | (unfold toldF; rw [if_neg hz1, if_neg hz2, if_neg hz3, if_pos hz4]; exact Sub.rfl) | (unfold toldF; rw [if_neg hz1, if_neg hz2, if_neg hz3, if_neg hz4, if_pos hz5]; exact Sub.rfl) | (unfold toldF; rw [if_neg hz1, if_neg hz2, if_neg hz3, if_neg hz4, if_neg hz5, if_pos hz6]; exact Sub.rfl) | (unfold toldF; rw [if_neg hz1, if_neg hz2, if_neg hz3, if_neg hz4, if_neg hz5, if_neg hz6, if_pos hd]; exact Sub.rfl) | (unfold toldF; rw [if_neg hz1, if_neg hz2, if_neg hz3, if_neg hz4, if_neg hz5, if_neg hz6, if_neg hd, if_pos hz7]; exact Sub.rfl) | (unfold toldF; rw [if_neg hz1, if_neg hz2, if_neg hz3, if_neg hz4, if_neg hz5, if_neg hz6, if_neg hd, if_neg hz7]; exact Sub.rfl))
          case gf_279 =>
            exfalso; revert hc; simp
    by_cases hz6 : (lieA (bkR names rows) ws ts && whA ws) = false
    · refine go_retE (C := cs.NotRounding) (ex_tupS (ex_call B2 tk2 (ok_rest_after T) (by decide) (bkR names rows, ts, ws) ?c_rest_after_24 ((if_neg hz1).trans ((if_neg hz2).trans ((if_neg hz3).trans ((if_neg hz4).trans ((if_neg hz5).trans (if_pos hz6)))))) (da_cons (de_var B2 (i := 0) rfl rfl (.inl rfl)) (da_cons (de_var B2 (i := 1) rfl rfl (.inl rfl)) (da_cons (de_var B2 (i := 2) rfl rfl (.inl rfl)) da_nil))) rfl)) (fun F H σ en H1 s1 => ⟨true, (PySem.W.exm_ref T.x_BookError.bs T.x_BookError.hd T.x_BookError.ty T.s_NotRounding_BookError), fun _ al hal oe pn2 hz hv => ?gx_293, nofun⟩)
      (case c_rest_after_24 => exact hp.pp)
      have BSu : BS (X.suite al ((al, oe) :: pn2)) _ _ := BO.su
      have en1 := en_err (i := 4) (a := al) en s1
      refine go_run en1 ?go_294
      refine @go_nf _ _ _ _ _ _ [_, _, _, _, _, _] rfl ?go_295
      refine go_setLS BSu (i := 5) (dl_lst da_nil (show (0 : Nat) ≤ sizeLine by decide)) rfl (.inl rfl) ?go_296
      refine @go_nf _ _ _ _ _ _ [_, _, _, _, _, _] rfl ?go_297
      refine go_if (dt_val (de_isF BSu T.e_NotRounding hz hv T.b_isinstance rfl (i := 4) rfl rfl (.inl rfl) (clsE_own (BSu.gl rfl) T.x_BadSize.g) T.k_NotRounding_BadSize)) (fun hc => ?gt_298) (fun hc => ?gf_299)
      case gt_298 =>
        exfalso; revert hc; simp
      case gf_299 =>
        try (simp only [decide_eq_true_eq, decide_eq_false_iff_not, Bool.not_eq_true', Bool.not_eq_false', Bool.not_eq_true, Bool.not_eq_false] at hc)
        refine go_then ?go_300
        refine go_if (dt_val (de_isF BSu T.e_NotRounding hz hv T.b_isinstance rfl (i := 4) rfl rfl (.inl rfl) (clsE_own (BSu.gl rfl) T.x_NotTable.g) T.k_NotRounding_NotTable)) (fun hc => ?gt_301) (fun hc => ?gf_302)
        case gt_301 =>
          exfalso; revert hc; simp
        case gf_302 =>
          try (simp only [decide_eq_true_eq, decide_eq_false_iff_not, Bool.not_eq_true', Bool.not_eq_false', Bool.not_eq_true, Bool.not_eq_false] at hc)
          refine go_then ?go_303
          refine go_if (dt_val (de_isF BSu T.e_NotRounding hz hv T.b_isinstance rfl (i := 4) rfl rfl (.inl rfl) (clsE_own (BSu.gl rfl) T.x_NotWhole.g) T.k_NotRounding_NotWhole)) (fun hc => ?gt_304) (fun hc => ?gf_305)
          case gt_304 =>
            exfalso; revert hc; simp
          case gf_305 =>
            try (simp only [decide_eq_true_eq, decide_eq_false_iff_not, Bool.not_eq_true', Bool.not_eq_false', Bool.not_eq_true, Bool.not_eq_false] at hc)
            refine go_then ?go_306
            refine go_if (dt_val (de_isF BSu T.e_NotRounding hz hv T.b_isinstance rfl (i := 4) rfl rfl (.inl rfl) (clsE_own (BSu.gl rfl) T.x_NotRounding.g) T.k_NotRounding_NotRounding)) (fun hc => ?gt_307) (fun hc => ?gf_308)
            case gt_307 =>
              try (simp only [decide_eq_true_eq, decide_eq_false_iff_not, Bool.not_eq_true', Bool.not_eq_false', Bool.not_eq_true, Bool.not_eq_false] at hc)
              refine go_appendS BSu (i := 5) rfl de_str ?s25 rfl (.inl rfl) ?go_309
              (case s25 => decide)
              refine @go_nf _ _ _ _ _ _ [_, _, _, _, _, _] rfl ?go_310
              refine go_then ?go_311
              refine go_if (dt_val (de_isF BSu T.e_NotRounding hz hv T.b_isinstance rfl (i := 4) rfl rfl (.inl rfl) (clsE_own (BSu.gl rfl) T.x_BadChance.g) T.k_NotRounding_BadChance)) (fun hc => ?gt_312) (fun hc => ?gf_313)
              case gt_312 =>
                exfalso; revert hc; simp
              case gf_313 =>
                try (simp only [decide_eq_true_eq, decide_eq_false_iff_not, Bool.not_eq_true', Bool.not_eq_false', Bool.not_eq_true, Bool.not_eq_false] at hc)
                refine go_then ?go_314
                refine go_if (DW.t (dw_or (dt_neI (de_lenOS BSu T.b_len (i := 5) rfl rfl (.inl rfl) rfl) de_int) (fun hb1 => (dw_or1 (dt_not (dt_val (de_isF BSu T.e_NotRounding hz hv T.b_isinstance rfl (i := 4) rfl rfl (.inl rfl) (clsE_blt (BSu.gl rfl) T.b_ValueError (by decide +kernel)) T.k_NotRounding_ValueError))))))) (fun hc => ?gt_315) (fun hc => ?gf_316)
                case gt_315 =>
                  exfalso; revert hc; simp
                case gf_316 =>
                  try (simp only [decide_eq_true_eq, decide_eq_false_iff_not, Bool.not_eq_true', Bool.not_eq_false', Bool.not_eq_true, Bool.not_eq_false] at hc)
                  refine go_then ?go_317
                  refine go_ret (RT.su R) (de_tup (da_cons (de_ixHS BSu (i := 5) rfl rfl rfl (.inl rfl) de_int) (da_cons (de_nlN (de_i2n de_int)) da_nil)) (show (2 : Nat) ≤ sizeLine by decide)) ?rs_318
                  (case rs_318 => first | (unfold toldF; rw [if_pos hz1]; exact Sub.rfl) | (unfold toldF; rw [if_neg hz1, if_pos hz2]; exact Sub.rfl) | (unfold toldF; rw [if_neg hz1, if_neg hz2, if_pos hz3]; exact Sub.rfl) | (unfold toldF; rw [if_neg hz1, if_neg hz2, if_neg hz3, if_pos hz4]; exact Sub.rfl) | (unfold toldF; rw [if_neg hz1, if_neg hz2, if_neg hz3, if_neg hz4, if_pos hz5]; exact Sub.rfl) | (unfold toldF; rw [if_neg hz1, if_neg hz2, if_neg hz3, if_neg hz4, if_neg hz5, if_pos hz6]; exact Sub.rfl) | (unfold toldF; rw [if_neg hz1, if_neg hz2, if_neg hz3, if_neg hz4, if_neg hz5, if_neg hz6, if_pos hd]; exact Sub.rfl) | (unfold toldF; rw [if_neg hz1, if_neg hz2, if_neg hz3, if_neg hz4, if_neg hz5, if_neg hz6, if_neg hd, if_pos hz7]; exact Sub.rfl) | (unfold toldF; rw [if_neg hz1, if_neg hz2, if_neg hz3, if_neg hz4, if_neg hz5, if_neg hz6, if_neg hd, if_neg hz7]; exact Sub.rfl))
            case gf_308 =>
              exfalso; revert hc; simp
    by_cases hz7 : chaM ts ws = 1
    · refine go_retE (C := cs.BadChance) (ex_tupS (ex_call B2 tk2 (ok_rest_after T) (by decide) (bkR names rows, ts, ws) ?c_rest_after_26 ((if_neg hz1).trans ((if_neg hz2).trans ((if_neg hz3).trans ((if_neg hz4).trans ((if_neg hz5).trans ((if_neg hz6).trans (if_pos hz7))))))) (da_cons (de_var B2 (i := 0) rfl rfl (.inl rfl)) (da_cons (de_var B2 (i := 1) rfl rfl (.inl rfl)) (da_cons (de_var B2 (i := 2) rfl rfl (.inl rfl)) da_nil))) rfl)) (fun F H σ en H1 s1 => ⟨true, (PySem.W.exm_ref T.x_BookError.bs T.x_BookError.hd T.x_BookError.ty T.s_BadChance_BookError), fun _ al hal oe pn2 hz hv => ?gx_319, nofun⟩)
      (case c_rest_after_26 => exact hp.pp)
      have BSu : BS (X.suite al ((al, oe) :: pn2)) _ _ := BO.su
      have en1 := en_err (i := 4) (a := al) en s1
      refine go_run en1 ?go_320
      refine @go_nf _ _ _ _ _ _ [_, _, _, _, _, _] rfl ?go_321
      refine go_setLS BSu (i := 5) (dl_lst da_nil (show (0 : Nat) ≤ sizeLine by decide)) rfl (.inl rfl) ?go_322
      refine @go_nf _ _ _ _ _ _ [_, _, _, _, _, _] rfl ?go_323
      refine go_if (dt_val (de_isF BSu T.e_BadChance hz hv T.b_isinstance rfl (i := 4) rfl rfl (.inl rfl) (clsE_own (BSu.gl rfl) T.x_BadSize.g) T.k_BadChance_BadSize)) (fun hc => ?gt_324) (fun hc => ?gf_325)
      case gt_324 =>
        exfalso; revert hc; simp
      case gf_325 =>
        try (simp only [decide_eq_true_eq, decide_eq_false_iff_not, Bool.not_eq_true', Bool.not_eq_false', Bool.not_eq_true, Bool.not_eq_false] at hc)
        refine go_then ?go_326
        refine go_if (dt_val (de_isF BSu T.e_BadChance hz hv T.b_isinstance rfl (i := 4) rfl rfl (.inl rfl) (clsE_own (BSu.gl rfl) T.x_NotTable.g) T.k_BadChance_NotTable)) (fun hc => ?gt_327) (fun hc => ?gf_328)
        case gt_327 =>
          exfalso; revert hc; simp
        case gf_328 =>
          try (simp only [decide_eq_true_eq, decide_eq_false_iff_not, Bool.not_eq_true', Bool.not_eq_false', Bool.not_eq_true, Bool.not_eq_false] at hc)
          refine go_then ?go_329
          refine go_if (dt_val (de_isF BSu T.e_BadChance hz hv T.b_isinstance rfl (i := 4) rfl rfl (.inl rfl) (clsE_own (BSu.gl rfl) T.x_NotWhole.g) T.k_BadChance_NotWhole)) (fun hc => ?gt_330) (fun hc => ?gf_331)
          case gt_330 =>
            exfalso; revert hc; simp
          case gf_331 =>
            try (simp only [decide_eq_true_eq, decide_eq_false_iff_not, Bool.not_eq_true', Bool.not_eq_false', Bool.not_eq_true, Bool.not_eq_false] at hc)
            refine go_then ?go_332
            refine go_if (dt_val (de_isF BSu T.e_BadChance hz hv T.b_isinstance rfl (i := 4) rfl rfl (.inl rfl) (clsE_own (BSu.gl rfl) T.x_NotRounding.g) T.k_BadChance_NotRounding)) (fun hc => ?gt_333) (fun hc => ?gf_334)
            case gt_333 =>
              exfalso; revert hc; simp
            case gf_334 =>
              try (simp only [decide_eq_true_eq, decide_eq_false_iff_not, Bool.not_eq_true', Bool.not_eq_false', Bool.not_eq_true, Bool.not_eq_false] at hc)
              refine go_then ?go_335
              refine go_if (dt_val (de_isF BSu T.e_BadChance hz hv T.b_isinstance rfl (i := 4) rfl rfl (.inl rfl) (clsE_own (BSu.gl rfl) T.x_BadChance.g) T.k_BadChance_BadChance)) (fun hc => ?gt_336) (fun hc => ?gf_337)
              case gt_336 =>
                try (simp only [decide_eq_true_eq, decide_eq_false_iff_not, Bool.not_eq_true', Bool.not_eq_false', Bool.not_eq_true, Bool.not_eq_false] at hc)
                refine go_appendS BSu (i := 5) rfl de_str ?s27 rfl (.inl rfl) ?go_338
                (case s27 => decide)
                refine @go_nf _ _ _ _ _ _ [_, _, _, _, _, _] rfl ?go_339
                refine go_then ?go_340
                refine go_if (DW.t (dw_or (dt_neI (de_lenOS BSu T.b_len (i := 5) rfl rfl (.inl rfl) rfl) de_int) (fun hb1 => (dw_or1 (dt_not (dt_val (de_isF BSu T.e_BadChance hz hv T.b_isinstance rfl (i := 4) rfl rfl (.inl rfl) (clsE_blt (BSu.gl rfl) T.b_ValueError (by decide +kernel)) T.k_BadChance_ValueError))))))) (fun hc => ?gt_341) (fun hc => ?gf_342)
                case gt_341 =>
                  exfalso; revert hc; simp
                case gf_342 =>
                  try (simp only [decide_eq_true_eq, decide_eq_false_iff_not, Bool.not_eq_true', Bool.not_eq_false', Bool.not_eq_true, Bool.not_eq_false] at hc)
                  refine go_then ?go_343
                  refine go_ret (RT.su R) (de_tup (da_cons (de_ixHS BSu (i := 5) rfl rfl rfl (.inl rfl) de_int) (da_cons (de_nlN (de_i2n de_int)) da_nil)) (show (2 : Nat) ≤ sizeLine by decide)) ?rs_344
                  (case rs_344 => first | (unfold toldF; rw [if_pos hz1]; exact Sub.rfl) | (unfold toldF; rw [if_neg hz1, if_pos hz2]; exact Sub.rfl) | (unfold toldF; rw [if_neg hz1, if_neg hz2, if_pos hz3]; exact Sub.rfl) | (unfold toldF; rw [if_neg hz1, if_neg hz2, if_neg hz3, if_pos hz4]; exact Sub.rfl) | (unfold toldF; rw [if_neg hz1, if_neg hz2, if_neg hz3, if_neg hz4, if_pos hz5]; exact Sub.rfl) | (unfold toldF; rw [if_neg hz1, if_neg hz2, if_neg hz3, if_neg hz4, if_neg hz5, if_pos hz6]; exact Sub.rfl) | (unfold toldF; rw [if_neg hz1, if_neg hz2, if_neg hz3, if_neg hz4, if_neg hz5, if_neg hz6, if_pos hd]; exact Sub.rfl) | (unfold toldF; rw [if_neg hz1, if_neg hz2, if_neg hz3, if_neg hz4, if_neg hz5, if_neg hz6, if_neg hd, if_pos hz7]; exact Sub.rfl) | (unfold toldF; rw [if_neg hz1, if_neg hz2, if_neg hz3, if_neg hz4, if_neg hz5, if_neg hz6, if_neg hd, if_neg hz7]; exact Sub.rfl))
              case gf_337 =>
                exfalso; revert hc; simp
    refine go_ret (RT.su R) (de_tup (da_cons de_str (da_cons (de_nlL (DL.froz (CA.lst (ca_callO (okr_rest_after X.K) B2 (ok_rest_after T) (by decide) (bkR names rows, ts, ws) ?c_rest_after_28 ((if_neg hz1).trans ((if_neg hz2).trans ((if_neg hz3).trans ((if_neg hz4).trans ((if_neg hz5).trans ((if_neg hz6).trans (if_neg hz7))))))) (da_cons (de_var B2 (i := 0) rfl rfl (.inl rfl)) (da_cons (de_var B2 (i := 1) rfl rfl (.inl rfl)) (da_cons (de_var B2 (i := 2) rfl rfl (.inl rfl)) da_nil))) rfl)))) da_nil)) (show (2 : Nat) ≤ sizeLine by decide)) ?rs_345
    (case c_rest_after_28 => exact hp.pp)
    (case rs_345 => first | (unfold toldF; rw [if_pos hz1]; exact Sub.rfl) | (unfold toldF; rw [if_neg hz1, if_pos hz2]; exact Sub.rfl) | (unfold toldF; rw [if_neg hz1, if_neg hz2, if_pos hz3]; exact Sub.rfl) | (unfold toldF; rw [if_neg hz1, if_neg hz2, if_neg hz3, if_pos hz4]; exact Sub.rfl) | (unfold toldF; rw [if_neg hz1, if_neg hz2, if_neg hz3, if_neg hz4, if_pos hz5]; exact Sub.rfl) | (unfold toldF; rw [if_neg hz1, if_neg hz2, if_neg hz3, if_neg hz4, if_neg hz5, if_pos hz6]; exact Sub.rfl) | (unfold toldF; rw [if_neg hz1, if_neg hz2, if_neg hz3, if_neg hz4, if_neg hz5, if_neg hz6, if_pos hd]; exact Sub.rfl) | (unfold toldF; rw [if_neg hz1, if_neg hz2, if_neg hz3, if_neg hz4, if_neg hz5, if_neg hz6, if_neg hd, if_pos hz7]; exact Sub.rfl) | (unfold toldF; rw [if_neg hz1, if_neg hz2, if_neg hz3, if_neg hz4, if_neg hz5, if_neg hz6, if_neg hd, if_neg hz7]; exact Sub.rfl))
end K45

set_option Elab.async false
set_option linter.all false
set_option maxRecDepth 100000
set_option maxHeartbeats 4000000
namespace K45
open PySem PySem.Spec PyProof.Rows L2 DL
variable {P : Program} {w : World} {K : PySem.W.Frag} {mg : Str → Option Value} {base : Heap} {cs : Cs}
theorem sc__law_rest : FnScope ["_law_size", "_law_rows_here", "_law_table", "_law_whole", "_law_told_here", "_law_chance_here", "_law_left", "_law_k"] ["_law_size", "_law_rows_here", "_law_table", "_law_whole", "_law_told_here"] (defScope s__law_rest) := ⟨rfl, rfl, rfl, by decide +kernel, rfl, by decide +kernel, by decide +kernel⟩
def sp__law_rest (K : PySem.W.Frag) (cs : Cs) : Sp := Pm (ι := List Str × List (List Int) × List Rat × List Rat) (fun ⟨names, rows, ts, ws⟩ => AkOk names rows ts ws ∧ ts.length = names.length ∧ Rnd ts ws ∧ ¬ chaM ts ws = 1 ∧ isTab (bkR names rows) ts = true ∧ isTab (bkR names rows) ws = true) (fun ⟨names, rows, ts, ws⟩ => [rInt ((names.length : Nat) : Int), rLh (rows.map fun l => rLst K (l.map rInt)), rLst K (ts.map (rNum K)), rLst K (ws.map (rNum K)), rLst K ((restQ ts ws).map (rNum K))]) (fun ⟨names, rows, ts, ws⟩ => .val (rBl true))
theorem ok__law_rest (T : Txt K mg cs) : Cal P w K mg base 5 "_law_rest" (sp__law_rest K cs) := by
  refine cal_ok T.d__law_rest sc__law_rest (fun g => rfl) (fun _ _ _ _ _ _ us hl => match us, hl with | [_, _, _, _, _], _ => rfl) ?_
  rintro X rfl rfl rfl rfl rfl B Bf ⟨names, rows, ts, ws⟩ F0 H0 D hp R hnx
  obtain ⟨hp, e1, hR, hc1, ht1, ht2⟩ := hp
  have hl1 := hp.l1
  have hl2 := hp.l2
  have hn6 := hp.n6
  have hch := lch_is hR
  have hrl := rest_len hR
  obtain ⟨hsr, hrz, hcz⟩ := rest_ok hp e1 hR hc1
  have hle := hR.len
  have hlz : Sz 160 (((1 : Int) : Rat) + chaM ts ws * ((-1 : Int) : Rat)) := (sz_add (sz_int (n := 0) (by decide)) (sz_mul hcz (sz_int (n := 0) (by decide)))).mono (by decide)
  refine @go_nf _ _ _ _ _ _ [_, _, _, _, _, _, _, _] rfl ?go_1
  refine go_if (DW.t (dw_or (dt_not (dt_val (de_isi (T := "list") B T.b_isinstance rty_lst (kit_ty (r := true) (by decide +kernel)) (de_var B (i := 4) rfl rfl (.inl rfl)) (de_ty B T.b_list (by decide +kernel) rfl) rfl))) (fun hb1 => (dw_or1 (dt_neI (de_lenM B T.b_len (de_var B (i := 4) rfl rfl (.inl rfl)) rfl) (de_var B (i := 0) rfl rfl (.inl rfl))))))) (fun hc => ?gt_2) (fun hc => ?gf_3)
  case gt_2 =>
    exfalso
    rw [hrl, e1] at hc; revert hc; simp
  case gf_3 =>
    try (simp only [decide_eq_true_eq, decide_eq_false_iff_not, Bool.not_eq_true', Bool.not_eq_false', Bool.not_eq_true, Bool.not_eq_false] at hc)
    refine go_then ?go_4
    refine go_set B (i := 5) (CA.val (ca_call B (ok__law_chance T) (by decide) (_, _) ?c_law_chance_1 (da_cons (de_var B (i := 2) rfl rfl (.inl rfl)) (da_cons (de_var B (i := 3) rfl rfl (.inl rfl)) da_nil)) rfl)) rfl (.inl rfl) ?go_5
    (case c_law_chance_1 => exact ⟨by omega, hle, fun q hq => (hp.z1 q hq).mono (by decide)⟩)
    refine @go_nf _ _ _ _ _ _ [_, _, _, _, _, _, _, _] rfl ?go_6
    rw [hch]
    refine go_set B (i := 6) (CA.val (ca_call B (ok__law_plus T) (by decide) (_, _) ?c_tp_3 (da_cons (de_i2n de_int) (da_cons (CA.val (ca_call B (ok__law_times T) (by decide) (_, _) ?c_tc_2 (da_cons (de_var B (i := 5) rfl rfl (.inl rfl)) (da_cons (de_i2n (de_neg de_int)) da_nil)) rfl)) da_nil)) rfl)) rfl (.inl rfl) ?go_7
    (case c_tc_2 => exact lt_s2 hcz (sz_int (n := 0) (by decide)))
    (case c_tp_3 => exact ⟨sz_int (by decide), (sz_mul hcz (sz_int (n := 0) (by decide))).mono (by decide)⟩)
    refine @go_nf _ _ _ _ _ _ [_, _, _, _, _, _, _, _] rfl ?go_8
    refine go_forS B (fun i => [(7, .any)]) (fun i => True) (sr_range1 B T.b_range (de_var B (i := 0) rfl rfl (.inl rfl)) rfl ?r4 ?r5) _ (fun i hi => (dg_name B (i := 7) rfl (.inl rfl))) ?h0_9 ?j0_10 (fun F1 u i hi hj => ?gb_11) (fun hj => ?ge_12)
    (case r4 => first | omega | decide)
    (case r5 => first | omega | decide)
    (case h0_9 => refine .same ?_; refine .same ?_; refine .same ?_; refine .same ?_; refine .same ?_; refine .same ?_; refine .same ?_; refine .any ?_; exact .nil)
    (case j0_10 => trivial)
    case gb_11 =>
      refine @go_nf _ _ _ _ _ _ [_, _, _, _, _, _, _, _] rfl ?go_13
      refine go_if (dt_not (dt_val (CA.val (ca_call B (ok__law_is_number T) (by decide) _ ?c_law_is_number_8 (da_cons (de_ixM (R := (rNum X.K)) (0 : Rat) ?xl6 ?xh7 (de_var B (i := 4) rfl rfl (.inl rfl)) (de_var B (i := 7) rfl rfl (.inl rfl))) da_nil) rfl)))) (fun hc => ?gt_14) (fun hc => ?gf_15)
      (case xl6 => omega)
      (case xh7 => omega)
      (case c_law_is_number_8 => exact (getD_szA hrz _).mono (by decide))
      case gt_14 =>
        exfalso
        revert hc; simp
      case gf_15 =>
        try (simp only [decide_eq_true_eq, decide_eq_false_iff_not, Bool.not_eq_true', Bool.not_eq_false', Bool.not_eq_true, Bool.not_eq_false] at hc)
        refine go_then ?go_16
        refine go_if (DW.t (dw_or (dt_val (CA.val (ca_call B (ok__law_less T) (by decide) (_, _) ?c_law_less_14 (da_cons (de_ixM (R := (rNum X.K)) (0 : Rat) ?xl9 ?xh10 (de_var B (i := 4) rfl rfl (.inl rfl)) (de_var B (i := 7) rfl rfl (.inl rfl))) (da_cons (de_i2n (CA.val (ca_call B (ok__law_floor T) (by decide) _ ?c_law_floor_13 (da_cons (de_ixM (R := (rNum X.K)) (0 : Rat) ?xl11 ?xh12 (de_var B (i := 2) rfl rfl (.inl rfl)) (de_var B (i := 7) rfl rfl (.inl rfl))) da_nil) rfl))) da_nil)) rfl))) (fun hb1 => (dw_or1 (dt_val (CA.val (ca_call B (ok__law_less T) (by decide) (_, _) ?c_law_less_20 (da_cons (de_i2n (CA.val (ca_call B (ok__law_ceiling T) (by decide) _ ?c_law_ceiling_17 (da_cons (de_ixM (R := (rNum X.K)) (0 : Rat) ?xl15 ?xh16 (de_var B (i := 2) rfl rfl (.inl rfl)) (de_var B (i := 7) rfl rfl (.inl rfl))) da_nil) rfl))) (da_cons (de_ixM (R := (rNum X.K)) (0 : Rat) ?xl18 ?xh19 (de_var B (i := 4) rfl rfl (.inl rfl)) (de_var B (i := 7) rfl rfl (.inl rfl))) da_nil)) rfl))))))) (fun hc => ?gt_17) (fun hc => ?gf_18)
        (case xl9 => omega)
        (case xh10 => omega)
        (case xl11 => omega)
        (case xh12 => omega)
        (case c_law_floor_13 => exact (getD_szA hp.z1 _).mono (by decide))
        (case c_law_less_14 => first | exact ⟨(getD_szA hrz _).mono (by decide), (sz_floor (getD_szA hp.z1 _)).mono (by decide)⟩ | exact ⟨(sz_ceil (getD_szA hp.z1 _)).mono (by decide), (getD_szA hrz _).mono (by decide)⟩)
        (case xl15 => omega)
        (case xh16 => omega)
        (case c_law_ceiling_17 => exact (getD_szA hp.z1 _).mono (by decide))
        (case xl18 => omega)
        (case xh19 => omega)
        (case c_law_less_20 => first | exact ⟨(getD_szA hrz _).mono (by decide), (sz_floor (getD_szA hp.z1 _)).mono (by decide)⟩ | exact ⟨(sz_ceil (getD_szA hp.z1 _)).mono (by decide), (getD_szA hrz _).mono (by decide)⟩)
        case gt_17 =>
          exfalso
          exact rs_no (rest_in hR hc1 (i := i) (by omega)) hc
        case gf_18 =>
          try (simp only [decide_eq_true_eq, decide_eq_false_iff_not, Bool.not_eq_true', Bool.not_eq_false', Bool.not_eq_true, Bool.not_eq_false] at hc)
          refine go_then ?go_19
          refine go_if (dt_neN B (CA.val (ca_call B (ok__law_plus T) (by decide) (_, _) ?c_t4_27 (da_cons (CA.val (ca_call B (ok__law_times T) (by decide) (_, _) ?c_t2_23 (da_cons (de_var B (i := 5) rfl rfl (.inl rfl)) (da_cons (de_ixM (R := (rNum X.K)) (0 : Rat) ?xl21 ?xh22 (de_var B (i := 3) rfl rfl (.inl rfl)) (de_var B (i := 7) rfl rfl (.inl rfl))) da_nil)) rfl)) (da_cons (CA.val (ca_call B (ok__law_times T) (by decide) (_, _) ?c_t3_26 (da_cons (de_var B (i := 6) rfl rfl (.inl rfl)) (da_cons (de_ixM (R := (rNum X.K)) (0 : Rat) ?xl24 ?xh25 (de_var B (i := 4) rfl rfl (.inl rfl)) (de_var B (i := 7) rfl rfl (.inl rfl))) da_nil)) rfl)) da_nil)) rfl)) (de_ixM (R := (rNum X.K)) (0 : Rat) ?xl28 ?xh29 (de_var B (i := 2) rfl rfl (.inl rfl)) (de_var B (i := 7) rfl rfl (.inl rfl)))) (fun hc => ?gt_20) (fun hc => ?gf_21)
          (case xl21 => omega)
          (case xh22 => omega)
          (case c_t2_23 => exact lt_s2 hcz (getD_szA hp.z2 _))
          (case xl24 => omega)
          (case xh25 => omega)
          (case c_t3_26 => exact lt_s2 hlz (getD_szA hrz _))
          (case c_t4_27 => exact ⟨(sz_mul hcz (getD_szA hp.z2 _)).mono (by decide), (sz_mul hlz (getD_szA hrz _)).mono (by decide)⟩)
          (case xl28 => omega)
          (case xh29 => omega)
          case gt_20 =>
            exfalso
            exact rs_eq (rest_eq hR hc1 (i := i) (by omega)) hc
          case gf_21 =>
            try (simp only [decide_eq_true_eq, decide_eq_false_iff_not, Bool.not_eq_true', Bool.not_eq_false', Bool.not_eq_true, Bool.not_eq_false] at hc)
            refine go_then ?go_22
            refine go_turnS ?jn_23 ?ln_24
            (case jn_23 => trivial)
            (case ln_24 => refine .same ?_; refine .same ?_; refine .same ?_; refine .same ?_; refine .same ?_; refine .same ?_; refine .same ?_; refine .any ?_; exact .nil)
    case ge_12 =>
      refine @go_nf _ _ _ _ _ _ [_, _, _, _, _, _, _, _] rfl ?go_25
      refine go_ret R (CA.val (ca_call B (ok__law_spans T) (by decide) (_, _, _) ?c_law_spans_30 (da_cons (de_var B (i := 0) rfl rfl (.inl rfl)) (da_cons (de_var B (i := 1) rfl rfl (.inl rfl)) (da_cons (de_var B (i := 4) rfl rfl (.inl rfl)) da_nil))) rfl)) ?rs_26
      (case c_law_spans_30 => exact hsr)
      (case rs_26 => exact Sub.of (congrArg rBl (rest_tab hp e1 hR hc1 ht1 ht2)))
theorem sc__law_asks : FnScope ["_law_book", "_law_size", "_law_rows_here", "_law_table", "_law_whole", "_law_due_here", "_law_door", "_law_wanted", "_law_given", "_law_told_here"] ["_law_book", "_law_size", "_law_rows_here", "_law_table", "_law_whole"] (defScope s__law_asks) := ⟨rfl, rfl, rfl, by decide +kernel, rfl, by decide +kernel, by decide +kernel⟩
def sp__law_asks (K : PySem.W.Frag) (cs : Cs) : Sp := Pm (ι := List Str × List (List Int) × List Rat × List Rat) (fun ⟨names, rows, ts, ws⟩ => AkOk names rows ts ws) (fun ⟨names, rows, ts, ws⟩ => [rBook K cs.Book (bkR names rows), rInt ((names.length : Nat) : Int), rLh (rows.map fun l => rLst K (l.map rInt)), rLst K (ts.map (rNum K)), rLst K (ws.map (rNum K))]) (fun ⟨names, rows, ts, ws⟩ => .val (rBl true))
theorem ok__law_asks (T : Txt K mg cs) : Cal P w K mg base 12 "_law_asks" (sp__law_asks K cs) := by
  refine cal_ok T.d__law_asks sc__law_asks (fun g => rfl) (fun _ _ _ _ _ _ us hl => match us, hl with | [_, _, _, _, _], _ => rfl) ?_
  rintro X rfl rfl rfl rfl rfl B Bf ⟨names, rows, ts, ws⟩ F0 H0 D hp R hnx
  have hl1 := hp.l1
  have hl2 := hp.l2
  refine @go_nf _ _ _ _ _ _ [_, _, _, _, _, _, _, _, _, _] rfl ?go_1
  refine go_set B (i := 5) (CA.val (ca_call B (ok__law_due T) (by decide) (names, rows, ts, ws) ?c_law_due_1 (da_cons (de_var B (i := 1) rfl rfl (.inl rfl)) (da_cons (de_var B (i := 2) rfl rfl (.inl rfl)) (da_cons (de_var B (i := 3) rfl rfl (.inl rfl)) (da_cons (de_var B (i := 4) rfl rfl (.inl rfl)) da_nil)))) rfl)) rfl (.inl rfl) ?go_2
  (case c_law_due_1 => exact hp)
  refine @go_nf _ _ _ _ _ _ [_, _, _, _, _, _, _, _, _, _] rfl ?go_3
  refine go_forS B (fun i => [(6, .any), (7, .any), (8, .any), (9, .any)]) (fun i => True) (sr_tupM (R := rInt) (xs := ([0, 1, 0] : List Int)) (0 : Int) (de_tup (da_cons de_int (da_cons de_int (da_cons de_int da_nil))) (show (3 : Nat) ≤ sizeLine by decide))) _ (fun i hi => (dg_name B (i := 6) rfl (.inl rfl))) ?h0_4 ?j0_5 (fun F1 u i hi hj => ?gb_6) (fun hj => ?ge_7)
  (case h0_4 => refine .same ?_; refine .same ?_; refine .same ?_; refine .same ?_; refine .same ?_; refine .same ?_; refine .any ?_; refine .any ?_; refine .any ?_; refine .any ?_; exact .nil)
  (case j0_5 => trivial)
  case gb_6 =>
    refine @go_nf _ _ _ _ _ _ [_, _, _, _, _, _, _, _, _, _] rfl ?go_8
    have hd := door_01 i
    refine go_set B (i := 7) (de_var B (i := 5) rfl rfl (.inl rfl)) rfl (.inl rfl) ?go_9
    refine @go_nf _ _ _ _ _ _ [_, _, _, _, _, _, _, _, _, _] rfl ?go_10
    refine go_if (DW.t (dw_and (dt_eqI (de_var B (i := 6) rfl rfl (.inl rfl)) de_int) (fun hb1 => (dw_and (dt_eqS (de_var B (i := 5) rfl rfl (.inl rfl)) de_str) (fun hb2 => (dw_and1 (dt_eqN B (CA.val (ca_call B (ok__law_chance T) (by decide) (_, _) ?c_law_chance_2 (da_cons (de_var B (i := 3) rfl rfl (.inl rfl)) (da_cons (de_var B (i := 4) rfl rfl (.inl rfl)) da_nil)) rfl)) (de_i2n de_int)))))))) (fun hc => ?gt_11) (fun hc => ?gf_12)
    (case c_law_chance_2 => first | exact ⟨by omega, (due_none (of_decide_eq_true hb2)).rnd.len, fun q hq => (hp.z1 q hq).mono (by decide)⟩ | exact ⟨by omega, (told_all (bl_l h4)).rnd.len, fun q hq => (hp.z1 q hq).mono (by decide)⟩)
    case gt_11 =>
      have hw := told_t hc
      refine go_set B (i := 7) de_str rfl (.inl rfl) ?go_13
      refine @go_nf _ _ _ _ _ _ [_, _, _, _, _, _, _, _, _, _] rfl ?go_14
      refine go_then ?go_15
      refine go_setL B (i := 8) (DL.to (l' := List.map (fun l => rLst X.K (List.map (rNum X.K) l)) ([ts, ws])) (dl_lst (da_cons (DL.froz (dl_list B T.b_list (de_var B (i := 3) rfl rfl (.inl rfl)) rfl)) (da_cons (DL.froz (dl_list B T.b_list (de_var B (i := 4) rfl rfl (.inl rfl)) rfl)) da_nil)) (show (2 : Nat) ≤ sizeLine by decide)) ?cl3) rfl (.inl rfl) ?go_16
      (case cl3 => rfl)
      refine @go_nf _ _ _ _ _ _ [_, _, _, _, _, _, _, _, _, _] rfl ?go_17
      refine go_froz 8 rfl ?go_18
      refine @go_nf _ _ _ _ _ _ [_, _, _, _, _, _, _, _, _, _] rfl ?go_19
      refine go_set B (i := 9) (CA.val (ca_call B (ok__law_told T) (by decide) (names, rows, ts, ws, (([0, 1, 0] : List Int).getD i 0)) ?c_law_told_8 (da_cons (de_var B (i := 0) rfl rfl (.inl rfl)) (da_cons (DE.to (r' := rLst X.K (List.map (rNum X.K) ts)) (de_ixM (R := (fun l => rLst X.K (List.map (rNum X.K) l))) (xs := [ts, ws]) [] ?xl4 ?xh5 (de_var B (i := 8) rfl rfl (.inl rfl)) de_int) rfl) (da_cons (DE.to (r' := rLst X.K (List.map (rNum X.K) ws)) (de_ixM (R := (fun l => rLst X.K (List.map (rNum X.K) l))) (xs := [ts, ws]) [] ?xl6 ?xh7 (de_var B (i := 8) rfl rfl (.inl rfl)) de_int) rfl) (da_cons (de_var B (i := 6) rfl rfl (.inl rfl)) da_nil)))) rfl)) rfl (.inl rfl) ?go_20
      (case xl4 => decide)
      (case xh5 => first | (show (0 : Int) < ((2 : Nat) : Int); decide) | (show (1 : Int) < ((2 : Nat) : Int); decide))
      (case xl6 => decide)
      (case xh7 => first | (show (0 : Int) < ((2 : Nat) : Int); decide) | (show (1 : Int) < ((2 : Nat) : Int); decide))
      (case c_law_told_8 => exact hp)
      refine @go_nf _ _ _ _ _ _ [_, _, _, _, _, _, _, _, _, _] rfl ?go_21
      refine go_if (DW.t (dw_or (dt_neT (dat_lst (dat_lst dat_num)) (by decide) B (de_var B (i := 8) rfl rfl (.inl rfl)) (DL.froz (DL.to (l' := List.map (fun l => rLst X.K (List.map (rNum X.K) l)) ([ts, ws])) (dl_lst (da_cons (de_var B (i := 3) rfl rfl (.inl rfl)) (da_cons (de_var B (i := 4) rfl rfl (.inl rfl)) da_nil)) (show (2 : Nat) ≤ sizeLine by decide)) ?cl9))) (fun hb1 => (dw_or1 (dt_neS (de_ixT (r := rStr (Prod.fst _)) rfl (de_var B (i := 9) rfl rfl (.inl rfl)) de_int) (de_var B (i := 7) rfl rfl (.inl rfl))))))) (fun hc => ?gt_22) (fun hc => ?gf_23)
      (case cl9 => rfl)
      case gt_22 =>
        exfalso
        exact as_w (decide_eq_true rfl) hw hc
      case gf_23 =>
        try (simp only [decide_eq_true_eq, decide_eq_false_iff_not, Bool.not_eq_true', Bool.not_eq_false', Bool.not_eq_true, Bool.not_eq_false] at hc)
        refine go_then ?go_24
        refine go_if (DW.t (dw_and (dt_eqS (de_ixT (r := rStr (Prod.fst _)) rfl (de_var B (i := 9) rfl rfl (.inl rfl)) de_int) de_str) (fun hb1 => (dw_and (dt_eqI (de_var B (i := 6) rfl rfl (.inl rfl)) de_int) (fun hb2 => (dw_and1 (dt_not (dt_val (CA.val (ca_call B (ok__law_rest T) (by decide) (names, rows, ts, ws) ?c_law_rest_11 (da_cons (de_var B (i := 1) rfl rfl (.inl rfl)) (da_cons (de_var B (i := 2) rfl rfl (.inl rfl)) (da_cons (de_var B (i := 3) rfl rfl (.inl rfl)) (da_cons (de_var B (i := 4) rfl rfl (.inl rfl)) (da_cons (de_nl2l ?nl10 (de_ixT (r := (rNL X.K) (Prod.snd _)) rfl (de_var B (i := 9) rfl rfl (.inl rfl)) de_int)) da_nil))))) rfl)))))))))) (fun hc => ?gt_25) (fun hc => ?gf_26)
        (case nl10 => first | exact (told_1 hb1 (of_decide_eq_true hb2)).1 | exact told_0 (bl_l h4) (of_decide_eq_true (bl_r h4)))
        (case c_law_rest_11 => exact ⟨hp, (told_all hb1).l1, (told_all hb1).rnd, (told_1 hb1 (of_decide_eq_true hb2)).2, (told_all hb1).t1, (told_all hb1).t2⟩)
        case gt_25 =>
          exfalso
          revert hc; simp
        case gf_26 =>
          skip
          refine go_then ?go_27
          refine go_if (DW.t (dw_and (dt_eqS (de_ixT (r := rStr (Prod.fst _)) rfl (de_var B (i := 9) rfl rfl (.inl rfl)) de_int) de_str) (fun hb1 => (dw_and1 (dt_eqI (de_var B (i := 6) rfl rfl (.inl rfl)) de_int))))) (fun hc => ?gt_28) (fun hc => ?gf_29)
          case gt_28 =>
            have h4 := hc
            refine go_if (DW.t (dw_or (dt_not (dt_val (CA.val (ca_call B (ok__law_is_number T) (by decide) _ ?c_law_is_number_13 (da_cons (de_nl2n (q := chaM ts ws) ?nl12 (de_ixT (r := (rNL X.K) (Prod.snd _)) rfl (de_var B (i := 9) rfl rfl (.inl rfl)) de_int)) da_nil) rfl)))) (fun hb1 => (dw_or1 (dt_neN B (de_nl2n (q := chaM ts ws) ?nl15 (de_ixT (r := (rNL X.K) (Prod.snd _)) rfl (de_var B (i := 9) rfl rfl (.inl rfl)) de_int)) (CA.val (ca_call B (ok__law_chance T) (by decide) (_, _) ?c_law_chance_14 (da_cons (de_var B (i := 3) rfl rfl (.inl rfl)) (da_cons (de_var B (i := 4) rfl rfl (.inl rfl)) da_nil)) rfl))))))) (fun hc => ?gt_30) (fun hc => ?gf_31)
            (case nl12 => first | exact (told_1 hb1 (of_decide_eq_true hb2)).1 | exact told_0 (bl_l h4) (of_decide_eq_true (bl_r h4)))
            (case c_law_is_number_13 => exact cha_num hp (told_all (bl_l h4)))
            (case c_law_chance_14 => first | exact ⟨by omega, (due_none (of_decide_eq_true hb2)).rnd.len, fun q hq => (hp.z1 q hq).mono (by decide)⟩ | exact ⟨by omega, (told_all (bl_l h4)).rnd.len, fun q hq => (hp.z1 q hq).mono (by decide)⟩)
            (case nl15 => first | exact (told_1 hb1 (of_decide_eq_true hb2)).1 | exact told_0 (bl_l h4) (of_decide_eq_true (bl_r h4)))
            case gt_30 =>
              exfalso
              exact as_n (told_all (bl_l h4)) rfl hc
            case gf_31 =>
              try (simp only [decide_eq_true_eq, decide_eq_false_iff_not, Bool.not_eq_true', Bool.not_eq_false', Bool.not_eq_true, Bool.not_eq_false] at hc)
              refine go_then ?go_32
              refine go_then ?go_33
              refine go_turnS ?jn_34 ?ln_35
              (case jn_34 => trivial)
              (case ln_35 => refine .same ?_; refine .same ?_; refine .same ?_; refine .same ?_; refine .same ?_; refine .same ?_; refine .any ?_; refine .any ?_; refine .any ?_; refine .any ?_; exact .nil)
          case gf_29 =>
            skip
            refine go_then ?go_36
            refine go_turnS ?jn_37 ?ln_38
            (case jn_37 => trivial)
            (case ln_38 => refine .same ?_; refine .same ?_; refine .same ?_; refine .same ?_; refine .same ?_; refine .same ?_; refine .any ?_; refine .any ?_; refine .any ?_; refine .any ?_; exact .nil)
    case gf_12 =>
      have hw := told_f hd hc
      refine go_then ?go_39
      refine go_setL B (i := 8) (DL.to (l' := List.map (fun l => rLst X.K (List.map (rNum X.K) l)) ([ts, ws])) (dl_lst (da_cons (DL.froz (dl_list B T.b_list (de_var B (i := 3) rfl rfl (.inl rfl)) rfl)) (da_cons (DL.froz (dl_list B T.b_list (de_var B (i := 4) rfl rfl (.inl rfl)) rfl)) da_nil)) (show (2 : Nat) ≤ sizeLine by decide)) ?cl16) rfl (.inl rfl) ?go_40
      (case cl16 => rfl)
      refine @go_nf _ _ _ _ _ _ [_, _, _, _, _, _, _, _, _, _] rfl ?go_41
      refine go_froz 8 rfl ?go_42
      refine @go_nf _ _ _ _ _ _ [_, _, _, _, _, _, _, _, _, _] rfl ?go_43
      refine go_set B (i := 9) (CA.val (ca_call B (ok__law_told T) (by decide) (names, rows, ts, ws, (([0, 1, 0] : List Int).getD i 0)) ?c_law_told_21 (da_cons (de_var B (i := 0) rfl rfl (.inl rfl)) (da_cons (DE.to (r' := rLst X.K (List.map (rNum X.K) ts)) (de_ixM (R := (fun l => rLst X.K (List.map (rNum X.K) l))) (xs := [ts, ws]) [] ?xl17 ?xh18 (de_var B (i := 8) rfl rfl (.inl rfl)) de_int) rfl) (da_cons (DE.to (r' := rLst X.K (List.map (rNum X.K) ws)) (de_ixM (R := (fun l => rLst X.K (List.map (rNum X.K) l))) (xs := [ts, ws]) [] ?xl19 ?xh20 (de_var B (i := 8) rfl rfl (.inl rfl)) de_int) rfl) (da_cons (de_var B (i := 6) rfl rfl (.inl rfl)) da_nil)))) rfl)) rfl (.inl rfl) ?go_44
      (case xl17 => decide)
      (case xh18 => first | (show (0 : Int) < ((2 : Nat) : Int); decide) | (show (1 : Int) < ((2 : Nat) : Int); decide))
      (case xl19 => decide)
      (case xh20 => first | (show (0 : Int) < ((2 : Nat) : Int); decide) | (show (1 : Int) < ((2 : Nat) : Int); decide))
      (case c_law_told_21 => exact hp)
      refine @go_nf _ _ _ _ _ _ [_, _, _, _, _, _, _, _, _, _] rfl ?go_45
      refine go_if (DW.t (dw_or (dt_neT (dat_lst (dat_lst dat_num)) (by decide) B (de_var B (i := 8) rfl rfl (.inl rfl)) (DL.froz (DL.to (l' := List.map (fun l => rLst X.K (List.map (rNum X.K) l)) ([ts, ws])) (dl_lst (da_cons (de_var B (i := 3) rfl rfl (.inl rfl)) (da_cons (de_var B (i := 4) rfl rfl (.inl rfl)) da_nil)) (show (2 : Nat) ≤ sizeLine by decide)) ?cl22))) (fun hb1 => (dw_or1 (dt_neS (de_ixT (r := rStr (Prod.fst _)) rfl (de_var B (i := 9) rfl rfl (.inl rfl)) de_int) (de_var B (i := 7) rfl rfl (.inl rfl))))))) (fun hc => ?gt_46) (fun hc => ?gf_47)
      (case cl22 => rfl)
      case gt_46 =>
        exfalso
        exact as_w (decide_eq_true rfl) hw hc
      case gf_47 =>
        try (simp only [decide_eq_true_eq, decide_eq_false_iff_not, Bool.not_eq_true', Bool.not_eq_false', Bool.not_eq_true, Bool.not_eq_false] at hc)
        refine go_then ?go_48
        refine go_if (DW.t (dw_and (dt_eqS (de_ixT (r := rStr (Prod.fst _)) rfl (de_var B (i := 9) rfl rfl (.inl rfl)) de_int) de_str) (fun hb1 => (dw_and (dt_eqI (de_var B (i := 6) rfl rfl (.inl rfl)) de_int) (fun hb2 => (dw_and1 (dt_not (dt_val (CA.val (ca_call B (ok__law_rest T) (by decide) (names, rows, ts, ws) ?c_law_rest_24 (da_cons (de_var B (i := 1) rfl rfl (.inl rfl)) (da_cons (de_var B (i := 2) rfl rfl (.inl rfl)) (da_cons (de_var B (i := 3) rfl rfl (.inl rfl)) (da_cons (de_var B (i := 4) rfl rfl (.inl rfl)) (da_cons (de_nl2l ?nl23 (de_ixT (r := (rNL X.K) (Prod.snd _)) rfl (de_var B (i := 9) rfl rfl (.inl rfl)) de_int)) da_nil))))) rfl)))))))))) (fun hc => ?gt_49) (fun hc => ?gf_50)
        (case nl23 => first | exact (told_1 hb1 (of_decide_eq_true hb2)).1 | exact told_0 (bl_l h4) (of_decide_eq_true (bl_r h4)))
        (case c_law_rest_24 => exact ⟨hp, (told_all hb1).l1, (told_all hb1).rnd, (told_1 hb1 (of_decide_eq_true hb2)).2, (told_all hb1).t1, (told_all hb1).t2⟩)
        case gt_49 =>
          exfalso
          revert hc; simp
        case gf_50 =>
          skip
          refine go_then ?go_51
          refine go_if (DW.t (dw_and (dt_eqS (de_ixT (r := rStr (Prod.fst _)) rfl (de_var B (i := 9) rfl rfl (.inl rfl)) de_int) de_str) (fun hb1 => (dw_and1 (dt_eqI (de_var B (i := 6) rfl rfl (.inl rfl)) de_int))))) (fun hc => ?gt_52) (fun hc => ?gf_53)
          case gt_52 =>
            have h4 := hc
            refine go_if (DW.t (dw_or (dt_not (dt_val (CA.val (ca_call B (ok__law_is_number T) (by decide) _ ?c_law_is_number_26 (da_cons (de_nl2n (q := chaM ts ws) ?nl25 (de_ixT (r := (rNL X.K) (Prod.snd _)) rfl (de_var B (i := 9) rfl rfl (.inl rfl)) de_int)) da_nil) rfl)))) (fun hb1 => (dw_or1 (dt_neN B (de_nl2n (q := chaM ts ws) ?nl28 (de_ixT (r := (rNL X.K) (Prod.snd _)) rfl (de_var B (i := 9) rfl rfl (.inl rfl)) de_int)) (CA.val (ca_call B (ok__law_chance T) (by decide) (_, _) ?c_law_chance_27 (da_cons (de_var B (i := 3) rfl rfl (.inl rfl)) (da_cons (de_var B (i := 4) rfl rfl (.inl rfl)) da_nil)) rfl))))))) (fun hc => ?gt_54) (fun hc => ?gf_55)
            (case nl25 => first | exact (told_1 hb1 (of_decide_eq_true hb2)).1 | exact told_0 (bl_l h4) (of_decide_eq_true (bl_r h4)))
            (case c_law_is_number_26 => exact cha_num hp (told_all (bl_l h4)))
            (case c_law_chance_27 => first | exact ⟨by omega, (due_none (of_decide_eq_true hb2)).rnd.len, fun q hq => (hp.z1 q hq).mono (by decide)⟩ | exact ⟨by omega, (told_all (bl_l h4)).rnd.len, fun q hq => (hp.z1 q hq).mono (by decide)⟩)
            (case nl28 => first | exact (told_1 hb1 (of_decide_eq_true hb2)).1 | exact told_0 (bl_l h4) (of_decide_eq_true (bl_r h4)))
            case gt_54 =>
              exfalso
              exact as_n (told_all (bl_l h4)) rfl hc
            case gf_55 =>
              try (simp only [decide_eq_true_eq, decide_eq_false_iff_not, Bool.not_eq_true', Bool.not_eq_false', Bool.not_eq_true, Bool.not_eq_false] at hc)
              refine go_then ?go_56
              refine go_then ?go_57
              refine go_turnS ?jn_58 ?ln_59
              (case jn_58 => trivial)
              (case ln_59 => refine .same ?_; refine .same ?_; refine .same ?_; refine .same ?_; refine .same ?_; refine .same ?_; refine .any ?_; refine .any ?_; refine .any ?_; refine .any ?_; exact .nil)
          case gf_53 =>
            skip
            refine go_then ?go_60
            refine go_turnS ?jn_61 ?ln_62
            (case jn_61 => trivial)
            (case ln_62 => refine .same ?_; refine .same ?_; refine .same ?_; refine .same ?_; refine .same ?_; refine .same ?_; refine .any ?_; refine .any ?_; refine .any ?_; refine .any ?_; exact .nil)
  case ge_7 =>
    refine @go_nf _ _ _ _ _ _ [_, _, _, _, _, _, _, _, _, _] rfl ?go_63
    refine go_ret R de_bl ?rs_64
    (case rs_64 => exact Sub.rfl)
end K45

set_option Elab.async false
set_option linter.all false
set_option maxRecDepth 100000
set_option maxHeartbeats 4000000
namespace K45
open PySem PySem.Spec PyProof.Rows L2 DL
variable {P : Program} {w : World} {K : PySem.W.Frag} {mg : Str → Option Value} {base : Heap} {cs : Cs}
theorem sc_law : FnScope ["_law_script", "_law_head", "_law_size", "_law_many", "_law_rows_here", "_law_book", "_law_more", "_law_scale", "_law_whole", "_law_way", "_law_most", "_law_k", "_law_bottom_here", "_law_part", "_law_table", "_law_at", "_law_step", "_law_cases", "_law_row", "_law_first", "_law_pair", "_law_number"] ["_law_script"] (defScope s_law) := ⟨rfl, rfl, rfl, by decide +kernel, rfl, by decide +kernel, by decide +kernel⟩
def sp_law (K : PySem.W.Frag) (cs : Cs) : Sp := Pm (ι := List Int) (fun ns => True) (fun ns => [rLst K (ns.map rInt)]) (fun ns => .val (rBl true))
theorem ok_law (T : Txt K mg cs) {f : Addr} {fd : FuncData} (F : Fun K "law" "law" s_law f fd) : FnOk P w K mg base (L2.CX P w) 13 f fd ["_law_script"] (sp_law K cs) := by
  refine cal_okF F sc_law (fun g => rfl) ?_
  rintro X rfl rfl rfl rfl rfl B Bf ns F0 H0 D hp R hnx
  have hcl := caL_len (lawNums ns 0 16) (lawNums ns 1 36) (lawNums ns 2 12)
  have hlh : (lawNums ns 0 16).length = 16 := lawNums_len _ _ _
  have hld : (lawNums ns 1 36).length = 36 := lawNums_len _ _ _
  have hlm : (lawNums ns 2 12).length = 12 := lawNums_len _ _ _
  have hnb := nm5_b (lawNums ns 0 16)
  have hrm := rw5_m (lawNums ns 0 16) (lawNums ns 1 36)
  have hsc := sc5_b (hd := (lawNums ns 0 16))
  have hbt := bt5_b (hd := (lawNums ns 0 16))
  have hpt := pt5_b (hd := (lawNums ns 0 16))
  have hmo := mo5_b (lawNums ns 0 16) (lawNums ns 1 36) (lawNums ns 2 12)
  have hbm := bm5_b (lawNums ns 0 16) (lawNums ns 1 36) (lawNums ns 2 12)
  refine @go_nf _ _ _ _ _ _ [_, _, _, _, _, _, _, _, _, _, _, _, _, _, _, _, _, _, _, _, _, _] rfl ?go_1
  refine go_setL B (i := 1) (CA.lst (ca_call B (ok__law_numbers T) (by decide) (ns, 0, 16) ?c_law_numbers_1 (da_cons (de_var B (i := 0) rfl rfl (.inl rfl)) (da_cons de_int (da_cons de_int da_nil))) rfl)) rfl (.inl rfl) ?go_2
  (case c_law_numbers_1 => first | (show (16 : Nat) ≤ 100; decide) | (show (36 : Nat) ≤ 100; decide) | (show (12 : Nat) ≤ 100; decide))
  refine @go_nf _ _ _ _ _ _ [_, _, _, _, _, _, _, _, _, _, _, _, _, _, _, _, _, _, _, _, _, _] rfl ?go_3
  refine go_froz 1 rfl ?go_4
  refine @go_nf _ _ _ _ _ _ [_, _, _, _, _, _, _, _, _, _, _, _, _, _, _, _, _, _, _, _, _, _] rfl ?go_5
  refine go_set B (i := 2) (de_add de_int (de_mod ?z4 (de_toInt B T.b_int (de_ixM (R := rInt) (0 : Int) ?xl2 ?xh3 (de_var B (i := 1) rfl rfl (.inl rfl)) de_int) rfl) de_int)) rfl (.inl rfl) ?go_6
  (case xl2 => first | decide | omega | exact (fm_bd (by omega)).1)
  (case xh3 => first | (rw [hlh]; decide) | omega | (rw [wh5_len]; omega) | (rw [wy5_len]; omega) | exact (fm_bd (by omega)).2 | (rw [rr5_len (lawNums ns 0 16) (lawNums ns 1 36) (Int.natCast_pos.mp h5)]; omega))
  (case z4 => first | decide | omega)
  refine @go_nf _ _ _ _ _ _ [_, _, _, _, _, _, _, _, _, _, _, _, _, _, _, _, _, _, _, _, _, _] rfl ?go_7
  refine go_ifK [(2, .im (rInt (((nm5 (lawNums ns 0 16)).length : Nat) : Int)))] (dt_eqI (de_mod ?z9 (de_divG ?z7 ?d8 (de_toInt B T.b_int (de_ixM (R := rInt) (0 : Int) ?xl5 ?xh6 (de_var B (i := 1) rfl rfl (.inl rfl)) de_int) rfl) de_int) de_int) de_int) ?gk_8 (fun hk hc => ?gt_9) (fun hk hc => ?gf_10)
  (case xl5 => first | decide | omega | exact (fm_bd (by omega)).1)
  (case xh6 => first | (rw [hlh]; decide) | omega | (rw [wh5_len]; omega) | (rw [wy5_len]; omega) | exact (fm_bd (by omega)).2 | (rw [rr5_len (lawNums ns 0 16) (lawNums ns 1 36) (Int.natCast_pos.mp h5)]; omega))
  (case z7 => first | decide | omega)
  (case d8 => decide)
  (case z9 => first | decide | omega)
  case gt_9 =>
    skip
    refine go_set B (i := 2) de_int rfl (.inl rfl) ?go_11
    refine @go_nf _ _ _ _ _ _ [_, _, _, _, _, _, _, _, _, _, _, _, _, _, _, _, _, _, _, _, _, _] rfl ?go_12
    refine go_join hk ?jl_13
    (case jl_13 => refine .same ?_; refine .same ?_; refine .im ?h ?_; (case h => exact Sub.of (congrArg rInt (nm5_t hc))); refine .same ?_; refine .same ?_; refine .same ?_; refine .same ?_; refine .same ?_; refine .same ?_; refine .same ?_; refine .same ?_; refine .same ?_; refine .same ?_; refine .same ?_; refine .same ?_; refine .same ?_; refine .same ?_; refine .same ?_; refine .same ?_; refine .same ?_; refine .same ?_; refine .same ?_; exact .nil)
  case gf_10 =>
    skip
    refine go_join hk ?jl_14
    (case jl_14 => refine .same ?_; refine .same ?_; refine .im ?h ?_; (case h => exact Sub.of (congrArg rInt (nm5_f hc))); refine .same ?_; refine .same ?_; refine .same ?_; refine .same ?_; refine .same ?_; refine .same ?_; refine .same ?_; refine .same ?_; refine .same ?_; refine .same ?_; refine .same ?_; refine .same ?_; refine .same ?_; refine .same ?_; refine .same ?_; refine .same ?_; refine .same ?_; refine .same ?_; refine .same ?_; exact .nil)
  case gk_8 =>
    refine @go_nf _ _ _ _ _ _ [_, _, _, _, _, _, _, _, _, _, _, _, _, _, _, _, _, _, _, _, _, _] rfl ?go_15
    refine go_set B (i := 3) (DE.to (r' := rInt ((mn5 (lawNums ns 0 16) : Nat) : Int)) (de_mod ?z12 (de_toInt B T.b_int (de_ixM (R := rInt) (0 : Int) ?xl10 ?xh11 (de_var B (i := 1) rfl rfl (.inl rfl)) de_int) rfl) (de_add (de_var B (i := 2) rfl rfl (.inl rfl)) de_int)) ?wn13) rfl (.inl rfl) ?go_16
    (case xl10 => first | decide | omega | exact (fm_bd (by omega)).1)
    (case xh11 => first | (rw [hlh]; decide) | omega | (rw [wh5_len]; omega) | (rw [wy5_len]; omega) | exact (fm_bd (by omega)).2 | (rw [rr5_len (lawNums ns 0 16) (lawNums ns 1 36) (Int.natCast_pos.mp h5)]; omega))
    (case z12 => first | decide | omega)
    (case wn13 => exact congrArg rInt (mn5_b _).1.symm)
    refine @go_nf _ _ _ _ _ _ [_, _, _, _, _, _, _, _, _, _, _, _, _, _, _, _, _, _, _, _, _, _] rfl ?go_17
    refine go_setL B (i := 4) (CA.lst (ca_call B (ok__law_rows T) (by decide) ((nm5 (lawNums ns 0 16)).length, mn5 (lawNums ns 0 16), (lawNums ns 1 36), (lawNums ns 0 16)) ?c_law_rows_15 (da_cons (de_var B (i := 2) rfl rfl (.inl rfl)) (da_cons (de_var B (i := 3) rfl rfl (.inl rfl)) (da_cons (DL.froz (CA.lst (ca_call B (ok__law_numbers T) (by decide) (ns, 1, 36) ?c_law_numbers_14 (da_cons (de_var B (i := 0) rfl rfl (.inl rfl)) (da_cons de_int (da_cons de_int da_nil))) rfl))) (da_cons (de_var B (i := 1) rfl rfl (.inl rfl)) da_nil)))) rfl)) rfl (.inl rfl) ?go_18
    (case c_law_numbers_14 => first | (show (16 : Nat) ≤ 100; decide) | (show (36 : Nat) ≤ 100; decide) | (show (12 : Nat) ≤ 100; decide))
    (case c_law_rows_15 => exact ⟨hnb.2, (mn5_b _).2, hld, by rw [hlh]; decide⟩)
    refine @go_nf _ _ _ _ _ _ [_, _, _, _, _, _, _, _, _, _, _, _, _, _, _, _, _, _, _, _, _, _] rfl ?go_19
    refine go_frozH 4 rfl ?go_20
    refine @go_nf _ _ _ _ _ _ [_, _, _, _, _, _, _, _, _, _, _, _, _, _, _, _, _, _, _, _, _, _] rfl ?go_21
    refine go_set B (i := 5) (DE.to (r' := rBook X.K cs.Book ⟨_, frameQ _ _⟩) (de_make (okr_Book X.K) B (ok_Book T) (by decide) ((nm5 (lawNums ns 0 16)), (rw5 (lawNums ns 0 16) (lawNums ns 1 36)).map toQ) ?c_Book_24 ?o_Book_25 rfl (da_cons (DL.froz (DL.to (l' := List.map rStr (nm5 (lawNums ns 0 16))) (dl_lc B [("_law_k", 11)] (sr_range1 B T.b_range (de_var B (i := 2) rfl rfl (.inl rfl)) rfl ?r16 ?r17) (blkOk_by (by decide +kernel)) _ (fun _ => true) (fun k : Nat => rStr (("c" : Str) ++ ((toString ((k : Nat) : Int) : String) : Str))) ?sz20 (by decide) (fun _ _ _ _ _ B k hi => (dg_name B (i := 11) rfl (.inl rfl))) (fun _ _ _ _ _ B k hi => dts_nil) (fun _ _ _ _ _ B k hi hb => (de_catS ?ct19 de_str (de_strI B T.b_str ?sg18 (de_var B (i := 11) rfl rfl (.inl rfl)) rfl)))) ?cl21)) (da_cons (de_ll2n (DL.froz (DL.to (l' := List.map (fun l => rLst X.K (List.map rInt l)) ((rw5 (lawNums ns 0 16) (lawNums ns 1 36)))) (dl_lc B [("_law_row", 18)] (sr_listM (R := (fun l => rLst X.K (List.map rInt l))) [] (de_h2l (de_var B (i := 4) rfl rfl (.inl rfl)))) (blkOk_by (by decide +kernel)) _ (fun _ => true) (fun i : Nat => rLst X.K (((rw5 (lawNums ns 0 16) (lawNums ns 1 36)).getD i []).map rInt)) ?sz22 (by decide) (fun _ _ _ _ _ B i hi => (dg_name B (i := 18) rfl (.inl rfl))) (fun _ _ _ _ _ B i hi => dts_nil) (fun _ _ _ _ _ B i hi hb => (DL.froz (dl_list B T.b_list (de_var B (i := 18) rfl rfl (.inl rfl)) rfl)))) ?cl23))) da_nil)) rfl) rfl) rfl (.inl rfl) ?go_22
    (case r16 => first | omega | decide)
    (case r17 => first | omega | decide)
    (case sg18 => exact Nat.lt_trans (lg_b (B := 16) (by omega) (n := 30) (by decide) (by decide)) (by decide))
    (case ct19 => exact Nat.le_trans (nameK_len k (by omega)) (by decide))
    (case sz20 => first | exact Nat.lt_of_le_of_lt (show _ ≤ 16 by omega) (by decide) | exact Nat.lt_of_le_of_lt (show _ ≤ 16 by simp; omega) (by decide))
    (case cl21 => first | rfl | exact nm5_lc _ | exact lc_map (f := fun r : List Int => rLst X.K (r.map rInt)) | exact fw5_lc _ _ | exact fy5_lc _ | exact List.map_append.symm | exact tb5_lc _ _ _ | exact wr5_lc _ _ _ | (rw [List.map_append]; rfl))
    (case sz22 => first | exact Nat.lt_of_le_of_lt (show _ ≤ 16 by omega) (by decide) | exact Nat.lt_of_le_of_lt (show _ ≤ 16 by simp; omega) (by decide))
    (case cl23 => first | rfl | exact nm5_lc _ | exact lc_map (f := fun r : List Int => rLst X.K (r.map rInt)) | exact fw5_lc _ _ | exact fy5_lc _ | exact List.map_append.symm | exact tb5_lc _ _ _ | exact wr5_lc _ _ _ | (rw [List.map_append]; rfl))
    (case c_Book_24 => exact rw5_bk _ _)
    (case o_Book_25 => exact bk_out (nm5_16 _) (nm5_ok _).1 (rw5_lens _ _))
    refine @go_nf _ _ _ _ _ _ [_, _, _, _, _, _, _, _, _, _, _, _, _, _, _, _, _, _, _, _, _, _] rfl ?go_23
    refine go_setL B (i := 6) (CA.lst (ca_call B (ok__law_numbers T) (by decide) (ns, 2, 12) ?c_law_numbers_26 (da_cons (de_var B (i := 0) rfl rfl (.inl rfl)) (da_cons de_int (da_cons de_int da_nil))) rfl)) rfl (.inl rfl) ?go_24
    (case c_law_numbers_26 => first | (show (16 : Nat) ≤ 100; decide) | (show (36 : Nat) ≤ 100; decide) | (show (12 : Nat) ≤ 100; decide))
    refine @go_nf _ _ _ _ _ _ [_, _, _, _, _, _, _, _, _, _, _, _, _, _, _, _, _, _, _, _, _, _] rfl ?go_25
    refine go_froz 6 rfl ?go_26
    refine @go_nf _ _ _ _ _ _ [_, _, _, _, _, _, _, _, _, _, _, _, _, _, _, _, _, _, _, _, _, _] rfl ?go_27
    refine go_set B (i := 7) de_int rfl (.inr ⟨rfl, Bf _⟩) ?go_28
    refine @go_nf _ _ _ _ _ _ [_, _, _, _, _, _, _, _, _, _, _, _, _, _, _, _, _, _, _, _, _, _] rfl ?go_29
    refine go_ifK [(7, .im (rInt (sc5 (lawNums ns 0 16))))] (dt_eqI (de_mod ?z29 (de_toInt B T.b_int (de_ixM (R := rInt) (0 : Int) ?xl27 ?xh28 (de_var B (i := 1) rfl rfl (.inl rfl)) de_int) rfl) de_int) de_int) ?gk_30 (fun hk hc => ?gt_31) (fun hk hc => ?gf_32)
    (case xl27 => first | decide | omega | exact (fm_bd (by omega)).1)
    (case xh28 => first | (rw [hlh]; decide) | omega | (rw [wh5_len]; omega) | (rw [wy5_len]; omega) | exact (fm_bd (by omega)).2 | (rw [rr5_len (lawNums ns 0 16) (lawNums ns 1 36) (Int.natCast_pos.mp h5)]; omega))
    (case z29 => first | decide | omega)
    case gt_31 =>
      skip
      refine go_set B (i := 7) (de_add (de_pow ⟨by decide, by decide, by decide⟩ de_int de_int) de_int) rfl (.inr ⟨rfl, Bf _⟩) ?go_33
      refine @go_nf _ _ _ _ _ _ [_, _, _, _, _, _, _, _, _, _, _, _, _, _, _, _, _, _, _, _, _, _] rfl ?go_34
      refine go_join hk ?jl_35
      (case jl_35 => refine .same ?_; refine .same ?_; refine .same ?_; refine .same ?_; refine .same ?_; refine .same ?_; refine .same ?_; refine .im ?h ?_; (case h => exact Sub.of (congrArg rInt (sc5_t hc))); refine .same ?_; refine .same ?_; refine .same ?_; refine .same ?_; refine .same ?_; refine .same ?_; refine .same ?_; refine .same ?_; refine .same ?_; refine .same ?_; refine .same ?_; refine .same ?_; refine .same ?_; refine .same ?_; exact .nil)
    case gf_32 =>
      skip
      refine go_join hk ?jl_36
      (case jl_36 => refine .same ?_; refine .same ?_; refine .same ?_; refine .same ?_; refine .same ?_; refine .same ?_; refine .same ?_; refine .im ?h ?_; (case h => exact Sub.of (congrArg rInt (sc5_f hc))); refine .same ?_; refine .same ?_; refine .same ?_; refine .same ?_; refine .same ?_; refine .same ?_; refine .same ?_; refine .same ?_; refine .same ?_; refine .same ?_; refine .same ?_; refine .same ?_; refine .same ?_; refine .same ?_; exact .nil)
    case gk_30 =>
      refine @go_nf _ _ _ _ _ _ [_, _, _, _, _, _, _, _, _, _, _, _, _, _, _, _, _, _, _, _, _, _] rfl ?go_37
      refine go_set B (i := 8) (CA.val (ca_call B (ok__law_sum T) (by decide) ((nm5 (lawNums ns 0 16)).length, (rw5 (lawNums ns 0 16) (lawNums ns 1 36)), fw5 (lawNums ns 0 16) (lawNums ns 2 12)) ?c_law_sum_37 (da_cons (de_var B (i := 2) rfl rfl (.inl rfl)) (da_cons (de_h2l (de_var B (i := 4) rfl rfl (.inl rfl))) (da_cons (DL.froz (DL.to (l' := List.map rInt (fw5 (lawNums ns 0 16) (lawNums ns 2 12))) (dl_lc B [("_law_number", 21)] (sr_listM (R := rInt) (0 : Int) (DL.froz (dl_mid (R := rInt) (de_var B (i := 6) rfl rfl (.inl rfl)) ?sl30 ?sm31 ?sn32 de_int de_int))) (blkOk_by (by decide +kernel)) _ (fun _ => true) (fun i : Nat => rInt ((((((lawNums ns 2 12).drop 0).take 6).getD i 0).fmod 7 - 3) * sc5 (lawNums ns 0 16))) ?sz35 (by decide) (fun _ _ _ _ _ B i hi => (dg_name B (i := 21) rfl (.inl rfl))) (fun _ _ _ _ _ B i hi => dts_nil) (fun _ _ _ _ _ B i hi hb => (de_mulG ?m34 (de_sub (de_mod ?z33 (de_toInt B T.b_int (de_var B (i := 21) rfl rfl (.inl rfl)) rfl) de_int) de_int) (de_var B (i := 7) rfl rfl (.inr (.inl rfl)))))) ?cl36)) da_nil))) rfl)) rfl (.inr ⟨rfl, Bf _⟩) ?go_38
      (case sl30 => decide)
      (case sm31 => decide)
      (case sn32 => rw [hlm]; decide)
      (case z33 => first | decide | omega)
      (case m34 => first | exact low_m (lg_4k (num_4 _)) (lg_4k (num_4 _)) | exact low_m (lg_4k (fm7_4 _)) (lg_4k (by omega)) | exact low_m (lg_4k (by omega)) (lg_4k (wy5_4 _ _ _ _)) | exact low_m (lg_4k (by omega)) (lg_4k (fm3_4 _)) | exact low_m (lg_4k (by omega)) (lg_4k (by omega)) | exact low_m (lg_4k (by decide)) (lg_4k (by split <;> decide)))
      (case sz35 => first | exact Nat.lt_of_le_of_lt (show _ ≤ 16 by omega) (by decide) | exact Nat.lt_of_le_of_lt (show _ ≤ 16 by simp; omega) (by decide))
      (case cl36 => first | rfl | exact nm5_lc _ | exact lc_map (f := fun r : List Int => rLst X.K (r.map rInt)) | exact fw5_lc _ _ | exact fy5_lc _ | exact List.map_append.symm | exact tb5_lc _ _ _ | exact wr5_lc _ _ _ | (rw [List.map_append]; rfl))
      (case c_law_sum_37 => first | exact sum5_w _ _ _ hlm | exact sum5_y _ _ _ hlm)
      refine @go_nf _ _ _ _ _ _ [_, _, _, _, _, _, _, _, _, _, _, _, _, _, _, _, _, _, _, _, _, _] rfl ?go_39
      refine go_set B (i := 9) (CA.val (ca_call B (ok__law_sum T) (by decide) ((nm5 (lawNums ns 0 16)).length, (rw5 (lawNums ns 0 16) (lawNums ns 1 36)), fy5 (lawNums ns 2 12)) ?c_law_sum_44 (da_cons (de_var B (i := 2) rfl rfl (.inl rfl)) (da_cons (de_h2l (de_var B (i := 4) rfl rfl (.inl rfl))) (da_cons (DL.froz (DL.to (l' := List.map rInt (fy5 (lawNums ns 2 12))) (dl_lc B [("_law_number", 21)] (sr_listM (R := rInt) (0 : Int) (DL.froz (dl_mid (R := rInt) (de_var B (i := 6) rfl rfl (.inl rfl)) ?sl38 ?sm39 ?sn40 de_int de_int))) (blkOk_by (by decide +kernel)) _ (fun _ => true) (fun i : Nat => rInt (((((lawNums ns 2 12).drop 6).take 6).getD i 0).fmod 5 - 2)) ?sz42 (by decide) (fun _ _ _ _ _ B i hi => (dg_name B (i := 21) rfl (.inl rfl))) (fun _ _ _ _ _ B i hi => dts_nil) (fun _ _ _ _ _ B i hi hb => (de_sub (de_mod ?z41 (de_toInt B T.b_int (de_var B (i := 21) rfl rfl (.inl rfl)) rfl) de_int) de_int))) ?cl43)) da_nil))) rfl)) rfl (.inr ⟨rfl, Bf _⟩) ?go_40
      (case sl38 => decide)
      (case sm39 => decide)
      (case sn40 => rw [hlm]; decide)
      (case z41 => first | decide | omega)
      (case sz42 => first | exact Nat.lt_of_le_of_lt (show _ ≤ 16 by omega) (by decide) | exact Nat.lt_of_le_of_lt (show _ ≤ 16 by simp; omega) (by decide))
      (case cl43 => first | rfl | exact nm5_lc _ | exact lc_map (f := fun r : List Int => rLst X.K (r.map rInt)) | exact fw5_lc _ _ | exact fy5_lc _ | exact List.map_append.symm | exact tb5_lc _ _ _ | exact wr5_lc _ _ _ | (rw [List.map_append]; rfl))
      (case c_law_sum_44 => first | exact sum5_w _ _ _ hlm | exact sum5_y _ _ _ hlm)
      refine @go_nf _ _ _ _ _ _ [_, _, _, _, _, _, _, _, _, _, _, _, _, _, _, _, _, _, _, _, _, _] rfl ?go_41
      refine go_set B (i := 10) de_int rfl (.inr ⟨rfl, Bf _⟩) ?go_42
      refine @go_nf _ _ _ _ _ _ [_, _, _, _, _, _, _, _, _, _, _, _, _, _, _, _, _, _, _, _, _, _] rfl ?go_43
      refine go_forS B (fun i => [(10, .im (rInt (mst (wy5 (lawNums ns 0 16) (lawNums ns 1 36) (lawNums ns 2 12)) i))), (11, .any)]) (fun i => True) (sr_range1 B T.b_range (de_var B (i := 2) rfl rfl (.inl rfl)) rfl ?r45 ?r46) _ (fun i hi => (dg_name B (i := 11) rfl (.inl rfl))) ?h0_44 ?j0_45 (fun F1 u i hi hj => ?gb_46) (fun hj => ?ge_47)
      (case r45 => first | omega | decide)
      (case r46 => first | omega | decide)
      (case h0_44 => refine .same ?_; refine .same ?_; refine .same ?_; refine .same ?_; refine .same ?_; refine .same ?_; refine .same ?_; refine .same ?_; refine .same ?_; refine .same ?_; refine .im ?h ?_; (case h => exact Sub.rfl); refine .any ?_; refine .same ?_; refine .same ?_; refine .same ?_; refine .same ?_; refine .same ?_; refine .same ?_; refine .same ?_; refine .same ?_; refine .same ?_; refine .same ?_; exact .nil)
      (case j0_45 => trivial)
      case gb_46 =>
        refine @go_nf _ _ _ _ _ _ [_, _, _, _, _, _, _, _, _, _, _, _, _, _, _, _, _, _, _, _, _, _] rfl ?go_48
        refine go_set B (i := 10) (de_max2 B T.b_max (de_var B (i := 10) rfl rfl (.inr (.inl rfl))) (de_abs B T.b_abs (de_ixM (R := rInt) (0 : Int) ?xl47 ?xh48 (de_h2l (de_var B (i := 9) rfl rfl (.inr (.inl rfl)))) (de_var B (i := 11) rfl rfl (.inl rfl))) rfl) rfl) rfl (.inr ⟨rfl, Bf _⟩) ?go_49
        (case xl47 => first | decide | omega | exact (fm_bd (by omega)).1)
        (case xh48 => first | (rw [hlh]; decide) | omega | (rw [wh5_len]; omega) | (rw [wy5_len]; omega) | exact (fm_bd (by omega)).2 | (rw [rr5_len (lawNums ns 0 16) (lawNums ns 1 36) (Int.natCast_pos.mp h5)]; omega))
        refine @go_nf _ _ _ _ _ _ [_, _, _, _, _, _, _, _, _, _, _, _, _, _, _, _, _, _, _, _, _, _] rfl ?go_50
        refine go_turnS ?jn_51 ?ln_52
        (case jn_51 => trivial)
        (case ln_52 => refine .same ?_; refine .same ?_; refine .same ?_; refine .same ?_; refine .same ?_; refine .same ?_; refine .same ?_; refine .same ?_; refine .same ?_; refine .same ?_; refine .im ?h ?_; (case h => exact Sub.rfl); refine .any ?_; refine .same ?_; refine .same ?_; refine .same ?_; refine .same ?_; refine .same ?_; refine .same ?_; refine .same ?_; refine .same ?_; refine .same ?_; refine .same ?_; exact .nil)
      case ge_47 =>
        refine @go_nf _ _ _ _ _ _ [_, _, _, _, _, _, _, _, _, _, _, _, _, _, _, _, _, _, _, _, _, _] rfl ?go_53
        refine go_set B (i := 12) (de_add de_int (de_mod ?z51 (de_toInt B T.b_int (de_ixM (R := rInt) (0 : Int) ?xl49 ?xh50 (de_var B (i := 1) rfl rfl (.inl rfl)) de_int) rfl) de_int)) rfl (.inr ⟨rfl, Bf _⟩) ?go_54
        (case xl49 => first | decide | omega | exact (fm_bd (by omega)).1)
        (case xh50 => first | (rw [hlh]; decide) | omega | (rw [wh5_len]; omega) | (rw [wy5_len]; omega) | exact (fm_bd (by omega)).2 | (rw [rr5_len (lawNums ns 0 16) (lawNums ns 1 36) (Int.natCast_pos.mp h5)]; omega))
        (case z51 => first | decide | omega)
        refine @go_nf _ _ _ _ _ _ [_, _, _, _, _, _, _, _, _, _, _, _, _, _, _, _, _, _, _, _, _, _] rfl ?go_55
        refine go_ifK [(12, .im (rInt (bt5 (lawNums ns 0 16))))] (dt_eqI (de_mod ?z54 (de_toInt B T.b_int (de_ixM (R := rInt) (0 : Int) ?xl52 ?xh53 (de_var B (i := 1) rfl rfl (.inl rfl)) de_int) rfl) de_int) de_int) ?gk_56 (fun hk hc => ?gt_57) (fun hk hc => ?gf_58)
        (case xl52 => first | decide | omega | exact (fm_bd (by omega)).1)
        (case xh53 => first | (rw [hlh]; decide) | omega | (rw [wh5_len]; omega) | (rw [wy5_len]; omega) | exact (fm_bd (by omega)).2 | (rw [rr5_len (lawNums ns 0 16) (lawNums ns 1 36) (Int.natCast_pos.mp h5)]; omega))
        (case z54 => first | decide | omega)
        case gt_57 =>
          skip
          refine go_set B (i := 12) (de_add (de_pow ⟨by decide, by decide, by decide⟩ de_int de_int) de_int) rfl (.inr ⟨rfl, Bf _⟩) ?go_59
          refine @go_nf _ _ _ _ _ _ [_, _, _, _, _, _, _, _, _, _, _, _, _, _, _, _, _, _, _, _, _, _] rfl ?go_60
          refine go_join hk ?jl_61
          (case jl_61 => refine .same ?_; refine .same ?_; refine .same ?_; refine .same ?_; refine .same ?_; refine .same ?_; refine .same ?_; refine .same ?_; refine .same ?_; refine .same ?_; refine .same ?_; refine .same ?_; refine .im ?h ?_; (case h => exact Sub.of (congrArg rInt (bt5_t hc))); refine .same ?_; refine .same ?_; refine .same ?_; refine .same ?_; refine .same ?_; refine .same ?_; refine .same ?_; refine .same ?_; refine .same ?_; exact .nil)
        case gf_58 =>
          skip
          refine go_join hk ?jl_62
          (case jl_62 => refine .same ?_; refine .same ?_; refine .same ?_; refine .same ?_; refine .same ?_; refine .same ?_; refine .same ?_; refine .same ?_; refine .same ?_; refine .same ?_; refine .same ?_; refine .same ?_; refine .im ?h ?_; (case h => exact Sub.of (congrArg rInt (bt5_f hc))); refine .same ?_; refine .same ?_; refine .same ?_; refine .same ?_; refine .same ?_; refine .same ?_; refine .same ?_; refine .same ?_; refine .same ?_; exact .nil)
        case gk_56 =>
          refine @go_nf _ _ _ _ _ _ [_, _, _, _, _, _, _, _, _, _, _, _, _, _, _, _, _, _, _, _, _, _] rfl ?go_63
          refine go_set B (i := 13) (de_mod ?z60 (de_toInt B T.b_int (de_mulG ?m59 (de_ixM (R := rInt) (0 : Int) ?xl55 ?xh56 (de_var B (i := 1) rfl rfl (.inl rfl)) de_int) (de_ixM (R := rInt) (0 : Int) ?xl57 ?xh58 (de_var B (i := 1) rfl rfl (.inl rfl)) de_int)) rfl) (de_add (de_var B (i := 12) rfl rfl (.inr (.inl rfl))) de_int)) rfl (.inr ⟨rfl, Bf _⟩) ?go_64
          (case xl55 => first | decide | omega | exact (fm_bd (by omega)).1)
          (case xh56 => first | (rw [hlh]; decide) | omega | (rw [wh5_len]; omega) | (rw [wy5_len]; omega) | exact (fm_bd (by omega)).2 | (rw [rr5_len (lawNums ns 0 16) (lawNums ns 1 36) (Int.natCast_pos.mp h5)]; omega))
          (case xl57 => first | decide | omega | exact (fm_bd (by omega)).1)
          (case xh58 => first | (rw [hlh]; decide) | omega | (rw [wh5_len]; omega) | (rw [wy5_len]; omega) | exact (fm_bd (by omega)).2 | (rw [rr5_len (lawNums ns 0 16) (lawNums ns 1 36) (Int.natCast_pos.mp h5)]; omega))
          (case m59 => first | exact low_m (lg_4k (num_4 _)) (lg_4k (num_4 _)) | exact low_m (lg_4k (fm7_4 _)) (lg_4k (by omega)) | exact low_m (lg_4k (by omega)) (lg_4k (wy5_4 _ _ _ _)) | exact low_m (lg_4k (by omega)) (lg_4k (fm3_4 _)) | exact low_m (lg_4k (by omega)) (lg_4k (by omega)) | exact low_m (lg_4k (by decide)) (lg_4k (by split <;> decide)))
          (case z60 => first | decide | omega)
          refine @go_nf _ _ _ _ _ _ [_, _, _, _, _, _, _, _, _, _, _, _, _, _, _, _, _, _, _, _, _, _] rfl ?go_65
          refine go_ifK [(13, .im (rInt (pt5 (lawNums ns 0 16))))] (dt_eqI (de_mod ?z63 (de_toInt B T.b_int (de_ixM (R := rInt) (0 : Int) ?xl61 ?xh62 (de_var B (i := 1) rfl rfl (.inl rfl)) de_int) rfl) de_int) de_int) ?gk_66 (fun hk hc => ?gt_67) (fun hk hc => ?gf_68)
          (case xl61 => first | decide | omega | exact (fm_bd (by omega)).1)
          (case xh62 => first | (rw [hlh]; decide) | omega | (rw [wh5_len]; omega) | (rw [wy5_len]; omega) | exact (fm_bd (by omega)).2 | (rw [rr5_len (lawNums ns 0 16) (lawNums ns 1 36) (Int.natCast_pos.mp h5)]; omega))
          (case z63 => first | decide | omega)
          case gt_67 =>
            skip
            refine go_set B (i := 13) (de_mod ?z139 (de_toInt B T.b_int (de_mulG ?m137 (de_ixM (R := rInt) (0 : Int) ?xl133 ?xh134 (de_var B (i := 1) rfl rfl (.inl rfl)) de_int) (de_ixM (R := rInt) (0 : Int) ?xl135 ?xh136 (de_var B (i := 1) rfl rfl (.inl rfl)) de_int)) rfl) (de_add (de_mulG ?m138 de_int (de_var B (i := 12) rfl rfl (.inr (.inl rfl)))) de_int)) rfl (.inr ⟨rfl, Bf _⟩) ?go_69
            (case xl133 => first | decide | omega | exact (fm_bd (by omega)).1)
            (case xh134 => first | (rw [hlh]; decide) | omega | (rw [wh5_len]; omega) | (rw [wy5_len]; omega) | exact (fm_bd (by omega)).2 | (rw [rr5_len (lawNums ns 0 16) (lawNums ns 1 36) (Int.natCast_pos.mp h5)]; omega))
            (case xl135 => first | decide | omega | exact (fm_bd (by omega)).1)
            (case xh136 => first | (rw [hlh]; decide) | omega | (rw [wh5_len]; omega) | (rw [wy5_len]; omega) | exact (fm_bd (by omega)).2 | (rw [rr5_len (lawNums ns 0 16) (lawNums ns 1 36) (Int.natCast_pos.mp h5)]; omega))
            (case m137 => first | exact low_m (lg_4k (num_4 _)) (lg_4k (num_4 _)) | exact low_m (lg_4k (fm7_4 _)) (lg_4k (by omega)) | exact low_m (lg_4k (by omega)) (lg_4k (wy5_4 _ _ _ _)) | exact low_m (lg_4k (by omega)) (lg_4k (fm3_4 _)) | exact low_m (lg_4k (by omega)) (lg_4k (by omega)) | exact low_m (lg_4k (by decide)) (lg_4k (by split <;> decide)))
            (case m138 => first | exact low_m (lg_4k (num_4 _)) (lg_4k (num_4 _)) | exact low_m (lg_4k (fm7_4 _)) (lg_4k (by omega)) | exact low_m (lg_4k (by omega)) (lg_4k (wy5_4 _ _ _ _)) | exact low_m (lg_4k (by omega)) (lg_4k (fm3_4 _)) | exact low_m (lg_4k (by omega)) (lg_4k (by omega)) | exact low_m (lg_4k (by decide)) (lg_4k (by split <;> decide)))
            (case z139 => first | decide | omega)
            refine @go_nf _ _ _ _ _ _ [_, _, _, _, _, _, _, _, _, _, _, _, _, _, _, _, _, _, _, _, _, _] rfl ?go_70
            refine go_join hk ?jl_71
            (case jl_71 => refine .same ?_; refine .same ?_; refine .same ?_; refine .same ?_; refine .same ?_; refine .same ?_; refine .same ?_; refine .same ?_; refine .same ?_; refine .same ?_; refine .same ?_; refine .same ?_; refine .same ?_; refine .im ?h ?_; (case h => exact Sub.of (congrArg rInt (pt5_t hc))); refine .same ?_; refine .same ?_; refine .same ?_; refine .same ?_; refine .same ?_; refine .same ?_; refine .same ?_; refine .same ?_; exact .nil)
          case gf_68 =>
            skip
            refine go_join hk ?jl_72
            (case jl_72 => refine .same ?_; refine .same ?_; refine .same ?_; refine .same ?_; refine .same ?_; refine .same ?_; refine .same ?_; refine .same ?_; refine .same ?_; refine .same ?_; refine .same ?_; refine .same ?_; refine .same ?_; refine .im ?h ?_; (case h => exact Sub.of (congrArg rInt (pt5_f hc))); refine .same ?_; refine .same ?_; refine .same ?_; refine .same ?_; refine .same ?_; refine .same ?_; refine .same ?_; refine .same ?_; exact .nil)
          case gk_66 =>
            refine @go_nf _ _ _ _ _ _ [_, _, _, _, _, _, _, _, _, _, _, _, _, _, _, _, _, _, _, _, _, _] rfl ?go_73
            refine go_setLc (l' := List.map (rNum X.K) (tb5 (lawNums ns 0 16) (lawNums ns 1 36) (lawNums ns 2 12))) B [("_law_k", 11)] (sr_range1 B T.b_range (de_var B (i := 2) rfl rfl (.inl rfl)) rfl ?r64 ?r65) (blkOk_by (by decide +kernel)) _ (fun _ => true) (fun i : Nat => rNum X.K ((((wh5 (lawNums ns 0 16) (lawNums ns 1 36) (lawNums ns 2 12)).getD ((i : Nat) : Int).toNat 0 : Int) : Rat) + (((pt5 (lawNums ns 0 16) * (wy5 (lawNums ns 0 16) (lawNums ns 1 36) (lawNums ns 2 12)).getD ((i : Nat) : Int).toNat 0 : Int)) : Rat) / (((bt5 (lawNums ns 0 16) * mo5 (lawNums ns 0 16) (lawNums ns 1 36) (lawNums ns 2 12) : Int)) : Rat))) ?sz74 (by decide) (fun _ _ _ _ _ B i hi => (dg_name B (i := 11) rfl (.inl rfl))) (fun _ _ _ _ _ B i hi => dts_nil) (fun _ _ _ _ _ B i hi hb => (CA.val (ca_call B (ok__law_plus T) (by decide) (_, _) ?c_law_plus_73 (da_cons (de_i2n (de_ixM (R := rInt) (0 : Int) ?xl66 ?xh67 (de_h2l (de_var B (i := 8) rfl rfl (.inr (.inl rfl)))) (de_var B (i := 11) rfl rfl (.inl rfl)))) (da_cons (CA.val (ca_call B (ok__law_make T) (by decide) (_, _) ?c_law_make_72 (da_cons (de_mulG ?m70 (de_var B (i := 13) rfl rfl (.inr (.inl rfl))) (de_ixM (R := rInt) (0 : Int) ?xl68 ?xh69 (de_h2l (de_var B (i := 9) rfl rfl (.inr (.inl rfl)))) (de_var B (i := 11) rfl rfl (.inl rfl)))) (da_cons (de_mulG ?m71 (de_var B (i := 12) rfl rfl (.inr (.inl rfl))) (de_var B (i := 10) rfl rfl (.inr (.inl rfl)))) da_nil)) rfl)) da_nil)) rfl))) (hl := ?cl75) (iy := 14) (hNy := rfl) (hyl := rfl) (h := ?go_74) (hsw := fun env h => by cases env; subst h; with_unfolding_all rfl)
            (case r64 => first | omega | decide)
            (case r65 => first | omega | decide)
            (case xl66 => first | decide | omega | exact (fm_bd (by omega)).1)
            (case xh67 => first | (rw [hlh]; decide) | omega | (rw [wh5_len]; omega) | (rw [wy5_len]; omega) | exact (fm_bd (by omega)).2 | (rw [rr5_len (lawNums ns 0 16) (lawNums ns 1 36) (Int.natCast_pos.mp h5)]; omega))
            (case xl68 => first | decide | omega | exact (fm_bd (by omega)).1)
            (case xh69 => first | (rw [hlh]; decide) | omega | (rw [wh5_len]; omega) | (rw [wy5_len]; omega) | exact (fm_bd (by omega)).2 | (rw [rr5_len (lawNums ns 0 16) (lawNums ns 1 36) (Int.natCast_pos.mp h5)]; omega))
            (case m70 => first | exact low_m (lg_4k (num_4 _)) (lg_4k (num_4 _)) | exact low_m (lg_4k (fm7_4 _)) (lg_4k (by omega)) | exact low_m (lg_4k (by omega)) (lg_4k (wy5_4 _ _ _ _)) | exact low_m (lg_4k (by omega)) (lg_4k (fm3_4 _)) | exact low_m (lg_4k (by omega)) (lg_4k (by omega)) | exact low_m (lg_4k (by decide)) (lg_4k (by split <;> decide)))
            (case m71 => first | exact low_m (lg_4k (num_4 _)) (lg_4k (num_4 _)) | exact low_m (lg_4k (fm7_4 _)) (lg_4k (by omega)) | exact low_m (lg_4k (by omega)) (lg_4k (wy5_4 _ _ _ _)) | exact low_m (lg_4k (by omega)) (lg_4k (fm3_4 _)) | exact low_m (lg_4k (by omega)) (lg_4k (by omega)) | exact low_m (lg_4k (by decide)) (lg_4k (by split <;> decide)))
            (case c_law_make_72 => first | exact mk5_ok _ _ _ _ | exact mks5_ok _)
            (case c_law_plus_73 => exact ⟨wh5_sz _ _ _ _, fr5_sz _ _ _ _⟩)
            (case sz74 => first | exact Nat.lt_of_le_of_lt (show _ ≤ 16 by omega) (by decide) | exact Nat.lt_of_le_of_lt (show _ ≤ 16 by simp; omega) (by decide))
            (case cl75 => first | rfl | exact nm5_lc _ | exact lc_map (f := fun r : List Int => rLst X.K (r.map rInt)) | exact fw5_lc _ _ | exact fy5_lc _ | exact List.map_append.symm | exact tb5_lc _ _ _ | exact wr5_lc _ _ _ | (rw [List.map_append]; rfl))
            refine @go_nf _ _ _ _ _ _ [_, _, _, _, _, _, _, _, _, _, _, _, _, _, _, _, _, _, _, _, _, _] rfl ?go_75
            refine go_frozH 14 rfl ?go_76
            refine @go_nf _ _ _ _ _ _ [_, _, _, _, _, _, _, _, _, _, _, _, _, _, _, _, _, _, _, _, _, _] rfl ?go_77
            refine go_if (dt_not (dt_val (CA.val (ca_call B (ok__law_asks T) (by decide) ((nm5 (lawNums ns 0 16)), (rw5 (lawNums ns 0 16) (lawNums ns 1 36)), (tb5 (lawNums ns 0 16) (lawNums ns 1 36) (lawNums ns 2 12)), (W5 (lawNums ns 0 16) (lawNums ns 1 36) (lawNums ns 2 12))) ?c_law_asks_76 (da_cons (de_var B (i := 5) rfl rfl (.inl rfl)) (da_cons (de_var B (i := 2) rfl rfl (.inl rfl)) (da_cons (de_var B (i := 4) rfl rfl (.inl rfl)) (da_cons (de_h2l (de_var B (i := 14) rfl rfl (.inl rfl))) (da_cons (de_li2n (de_h2l (de_var B (i := 8) rfl rfl (.inr (.inl rfl))))) da_nil))))) rfl)))) (fun hc => ?gt_78) (fun hc => ?gf_79)
            (case c_law_asks_76 => first | exact gl_ak _ _ _ (gl_T _ _ _) (gl_W _ _ _) | exact ask5 _ _ _ (fm_nat (by omega)))
            case gt_78 =>
              try (simp only [decide_eq_true_eq, decide_eq_false_iff_not, Bool.not_eq_true', Bool.not_eq_false', Bool.not_eq_true, Bool.not_eq_false] at hc)
              refine go_ret R de_bl ?rs_80
              (case rs_80 => exfalso; revert hc; simp)
            case gf_79 =>
              try (simp only [decide_eq_true_eq, decide_eq_false_iff_not, Bool.not_eq_true', Bool.not_eq_false', Bool.not_eq_true, Bool.not_eq_false] at hc)
              refine go_then ?go_81
              refine go_set B (i := 15) (DE.to (r' := rInt ((at5 (lawNums ns 0 16) : Nat) : Int)) (de_mod ?z79 (de_toInt B T.b_int (de_ixM (R := rInt) (0 : Int) ?xl77 ?xh78 (de_var B (i := 1) rfl rfl (.inl rfl)) de_int) rfl) (de_var B (i := 2) rfl rfl (.inl rfl))) ?wa80) rfl (.inl rfl) ?go_82
              (case xl77 => first | decide | omega | exact (fm_bd (by omega)).1)
              (case xh78 => first | (rw [hlh]; decide) | omega | (rw [wh5_len]; omega) | (rw [wy5_len]; omega) | exact (fm_bd (by omega)).2 | (rw [rr5_len (lawNums ns 0 16) (lawNums ns 1 36) (Int.natCast_pos.mp h5)]; omega))
              (case z79 => first | decide | omega)
              (case wa80 => exact congrArg rInt (at5_b _).1.symm)
              refine @go_nf _ _ _ _ _ _ [_, _, _, _, _, _, _, _, _, _, _, _, _, _, _, _, _, _, _, _, _, _] rfl ?go_83
              refine go_set B (i := 16) (CA.val (ca_call B (ok__law_make T) (by decide) (sn5 (lawNums ns 0 16), 1 + ((lawNums ns 0 16).getD 12 0).fmod 2) ?c_law_make_88 (da_cons (de_sub de_int (de_mulG ?m84 de_int (de_intB B T.b_int (de_eqI (de_mod ?z83 (de_toInt B T.b_int (de_ixM (R := rInt) (0 : Int) ?xl81 ?xh82 (de_var B (i := 1) rfl rfl (.inl rfl)) de_int) rfl) de_int) de_int) rfl))) (da_cons (de_add de_int (de_mod ?z87 (de_toInt B T.b_int (de_ixM (R := rInt) (0 : Int) ?xl85 ?xh86 (de_var B (i := 1) rfl rfl (.inl rfl)) de_int) rfl) de_int)) da_nil)) rfl)) rfl (.inl rfl) ?go_84
              (case xl81 => first | decide | omega | exact (fm_bd (by omega)).1)
              (case xh82 => first | (rw [hlh]; decide) | omega | (rw [wh5_len]; omega) | (rw [wy5_len]; omega) | exact (fm_bd (by omega)).2 | (rw [rr5_len (lawNums ns 0 16) (lawNums ns 1 36) (Int.natCast_pos.mp h5)]; omega))
              (case z83 => first | decide | omega)
              (case m84 => first | exact low_m (lg_4k (num_4 _)) (lg_4k (num_4 _)) | exact low_m (lg_4k (fm7_4 _)) (lg_4k (by omega)) | exact low_m (lg_4k (by omega)) (lg_4k (wy5_4 _ _ _ _)) | exact low_m (lg_4k (by omega)) (lg_4k (fm3_4 _)) | exact low_m (lg_4k (by omega)) (lg_4k (by omega)) | exact low_m (lg_4k (by decide)) (lg_4k (by split <;> decide)))
              (case xl85 => first | decide | omega | exact (fm_bd (by omega)).1)
              (case xh86 => first | (rw [hlh]; decide) | omega | (rw [wh5_len]; omega) | (rw [wy5_len]; omega) | exact (fm_bd (by omega)).2 | (rw [rr5_len (lawNums ns 0 16) (lawNums ns 1 36) (Int.natCast_pos.mp h5)]; omega))
              (case z87 => first | decide | omega)
              (case c_law_make_88 => first | exact mk5_ok _ _ _ _ | exact mks5_ok _)
              refine @go_nf _ _ _ _ _ _ [_, _, _, _, _, _, _, _, _, _, _, _, _, _, _, _, _, _, _, _, _, _] rfl ?go_85
              refine go_setL B (i := 17) (DL.to (l' := List.map (rP X.K (fun l => rLst X.K (List.map (rNum X.K) l)) (fun l => rLst X.K (List.map (rNum X.K) l))) (caA (lawNums ns 0 16) (lawNums ns 1 36) (lawNums ns 2 12))) (dl_lst (da_cons (de_tup (da_cons (de_h2l (de_var B (i := 14) rfl rfl (.inl rfl))) (da_cons (DL.froz (CA.lst (ca_call B (ok__law_moved T) (by decide) ((W5 (lawNums ns 0 16) (lawNums ns 1 36) (lawNums ns 2 12)), at5 (lawNums ns 0 16), st5 (lawNums ns 0 16)) ?c_law_moved_89 (da_cons (de_li2n (de_h2l (de_var B (i := 8) rfl rfl (.inr (.inl rfl))))) (da_cons (de_var B (i := 15) rfl rfl (.inl rfl)) (da_cons (de_var B (i := 16) rfl rfl (.inl rfl)) da_nil))) rfl))) da_nil)) (show (2 : Nat) ≤ sizeLine by decide)) (da_cons (de_tup (da_cons (DL.froz (CA.lst (ca_call B (ok__law_moved T) (by decide) ((tb5 (lawNums ns 0 16) (lawNums ns 1 36) (lawNums ns 2 12)), at5 (lawNums ns 0 16), st5 (lawNums ns 0 16)) ?c_law_moved_90 (da_cons (de_h2l (de_var B (i := 14) rfl rfl (.inl rfl))) (da_cons (de_var B (i := 15) rfl rfl (.inl rfl)) (da_cons (de_var B (i := 16) rfl rfl (.inl rfl)) da_nil))) rfl))) (da_cons (de_li2n (de_h2l (de_var B (i := 8) rfl rfl (.inr (.inl rfl))))) da_nil)) (show (2 : Nat) ≤ sizeLine by decide)) (da_cons (de_tup (da_cons (de_h2l (de_var B (i := 14) rfl rfl (.inl rfl))) (da_cons (DL.froz (dl_list B T.b_list (de_h2l (de_var B (i := 14) rfl rfl (.inl rfl))) rfl)) da_nil)) (show (2 : Nat) ≤ sizeLine by decide)) da_nil))) (show (3 : Nat) ≤ sizeLine by decide)) ?cl91) rfl (.inl rfl) ?go_86
              (case c_law_moved_89 => first | exact mov5_W _ _ _ | exact mov5_T _ _ _)
              (case c_law_moved_90 => first | exact mov5_W _ _ _ | exact mov5_T _ _ _)
              (case cl91 => first | rfl | exact nm5_lc _ | exact lc_map (f := fun r : List Int => rLst X.K (r.map rInt)) | exact fw5_lc _ _ | exact fy5_lc _ | exact List.map_append.symm | exact tb5_lc _ _ _ | exact wr5_lc _ _ _ | (rw [List.map_append]; rfl))
              refine @go_nf _ _ _ _ _ _ [_, _, _, _, _, _, _, _, _, _, _, _, _, _, _, _, _, _, _, _, _, _] rfl ?go_87
              refine go_setL B (i := 17) (DL.to (l' := List.map (rP X.K (fun l => rLst X.K (List.map (rNum X.K) l)) (fun l => rLst X.K (List.map (rNum X.K) l))) (caA (lawNums ns 0 16) (lawNums ns 1 36) (lawNums ns 2 12) ++ caB (lawNums ns 0 16) (lawNums ns 1 36) (lawNums ns 2 12))) (dl_catOv B (i := 17) rfl rfl (.inl rfl) (dl_lst (da_cons (de_tup (da_cons (DL.froz (DL.to (l' := List.map (rNum X.K) ((tb5 (lawNums ns 0 16) (lawNums ns 1 36) (lawNums ns 2 12)) ++ [((0 : Int) : Rat)])) (dl_catH ?cz92 (de_var B (i := 14) rfl rfl (.inl rfl)) (DL.hfz (dl_lst (da_cons (de_i2n de_int) da_nil) (show (1 : Nat) ≤ sizeLine by decide)))) ?cl93)) (da_cons (de_li2n (de_h2l (de_var B (i := 8) rfl rfl (.inr (.inl rfl))))) da_nil)) (show (2 : Nat) ≤ sizeLine by decide)) (da_cons (de_tup (da_cons (DL.froz (dl_from (de_h2l (de_var B (i := 14) rfl rfl (.inl rfl))) ?sl94 de_int)) (da_cons (de_li2n (DL.froz (dl_from (de_h2l (de_var B (i := 8) rfl rfl (.inr (.inl rfl)))) ?sl95 de_int))) da_nil)) (show (2 : Nat) ≤ sizeLine by decide)) (da_cons (de_tup (da_cons (de_h2l (de_var B (i := 14) rfl rfl (.inl rfl))) (da_cons (de_li2n (DL.froz (DL.to (l' := List.map rInt ((wh5 (lawNums ns 0 16) (lawNums ns 1 36) (lawNums ns 2 12)) ++ [0])) (dl_catH ?cz96 (de_var B (i := 8) rfl rfl (.inr (.inl rfl))) (DL.hfz (dl_lst (da_cons de_int da_nil) (show (1 : Nat) ≤ sizeLine by decide)))) ?cl97))) da_nil)) (show (2 : Nat) ≤ sizeLine by decide)) (da_cons (de_tup (da_cons (de_h2l (de_var B (i := 14) rfl rfl (.inl rfl))) (da_cons (de_li2n (DL.froz (dl_from (de_h2l (de_var B (i := 8) rfl rfl (.inr (.inl rfl)))) ?sl98 de_int))) da_nil)) (show (2 : Nat) ≤ sizeLine by decide)) da_nil)))) (show (4 : Nat) ≤ sizeLine by decide)) ?s99) ?cl100) rfl (.inl rfl) ?go_88
              (case cz92 => first | exact Nat.le_trans (show _ ≤ 20 by rw [List.length_map, tb5_len]; simp; omega) (by decide) | exact Nat.le_trans (show _ ≤ 20 by rw [List.length_map, wh5_len]; simp; omega) (by decide))
              (case cl93 => first | rfl | exact nm5_lc _ | exact lc_map (f := fun r : List Int => rLst X.K (r.map rInt)) | exact fw5_lc _ _ | exact fy5_lc _ | exact List.map_append.symm | exact tb5_lc _ _ _ | exact wr5_lc _ _ _ | (rw [List.map_append]; rfl))
              (case sl94 => decide)
              (case sl95 => decide)
              (case cz96 => first | exact Nat.le_trans (show _ ≤ 20 by rw [List.length_map, tb5_len]; simp; omega) (by decide) | exact Nat.le_trans (show _ ≤ 20 by rw [List.length_map, wh5_len]; simp; omega) (by decide))
              (case cl97 => first | rfl | exact nm5_lc _ | exact lc_map (f := fun r : List Int => rLst X.K (r.map rInt)) | exact fw5_lc _ _ | exact fy5_lc _ | exact List.map_append.symm | exact tb5_lc _ _ _ | exact wr5_lc _ _ _ | (rw [List.map_append]; rfl))
              (case sl98 => decide)
              (case s99 => first | decide | (simp; done) | (simp [caA, caB, caC]; decide))
              (case cl100 => first | rfl | exact nm5_lc _ | exact lc_map (f := fun r : List Int => rLst X.K (r.map rInt)) | exact fw5_lc _ _ | exact fy5_lc _ | exact List.map_append.symm | exact tb5_lc _ _ _ | exact wr5_lc _ _ _ | (rw [List.map_append]; rfl))
              refine @go_nf _ _ _ _ _ _ [_, _, _, _, _, _, _, _, _, _, _, _, _, _, _, _, _, _, _, _, _, _] rfl ?go_89
              refine go_setL B (i := 17) (DL.to (l' := List.map (rP X.K (fun l => rLst X.K (List.map (rNum X.K) l)) (fun l => rLst X.K (List.map (rNum X.K) l))) ((caA (lawNums ns 0 16) (lawNums ns 1 36) (lawNums ns 2 12) ++ caB (lawNums ns 0 16) (lawNums ns 1 36) (lawNums ns 2 12)) ++ caC (lawNums ns 0 16) (lawNums ns 1 36) (lawNums ns 2 12))) (dl_catOv B (i := 17) rfl rfl (.inl rfl) (dl_lst (da_cons (de_tup (da_cons (DL.froz (CA.lst (ca_call B (ok__law_moved T) (by decide) ((tb5 (lawNums ns 0 16) (lawNums ns 1 36) (lawNums ns 2 12)), at5 (lawNums ns 0 16), st5 (lawNums ns 0 16)) ?c_law_moved_101 (da_cons (de_h2l (de_var B (i := 14) rfl rfl (.inl rfl))) (da_cons (de_var B (i := 15) rfl rfl (.inl rfl)) (da_cons (de_var B (i := 16) rfl rfl (.inl rfl)) da_nil))) rfl))) (da_cons (de_li2n (DL.froz (DL.to (l' := List.map rInt ((wh5 (lawNums ns 0 16) (lawNums ns 1 36) (lawNums ns 2 12)) ++ [0])) (dl_catH ?cz102 (de_var B (i := 8) rfl rfl (.inr (.inl rfl))) (DL.hfz (dl_lst (da_cons de_int da_nil) (show (1 : Nat) ≤ sizeLine by decide)))) ?cl103))) da_nil)) (show (2 : Nat) ≤ sizeLine by decide)) (da_cons (de_tup (da_cons (de_li2n (de_h2l (de_var B (i := 8) rfl rfl (.inr (.inl rfl))))) (da_cons (de_li2n (DL.froz (dl_list B T.b_list (de_h2l (de_var B (i := 8) rfl rfl (.inr (.inl rfl)))) rfl))) da_nil)) (show (2 : Nat) ≤ sizeLine by decide)) (da_cons (de_tup (da_cons (de_li2n (de_h2l (de_var B (i := 8) rfl rfl (.inr (.inl rfl))))) (da_cons (DL.froz (dl_list B T.b_list (de_h2l (de_var B (i := 14) rfl rfl (.inl rfl))) rfl)) da_nil)) (show (2 : Nat) ≤ sizeLine by decide)) da_nil))) (show (3 : Nat) ≤ sizeLine by decide)) ?s104) ?cl105) rfl (.inl rfl) ?go_90
              (case c_law_moved_101 => first | exact mov5_W _ _ _ | exact mov5_T _ _ _)
              (case cz102 => first | exact Nat.le_trans (show _ ≤ 20 by rw [List.length_map, tb5_len]; simp; omega) (by decide) | exact Nat.le_trans (show _ ≤ 20 by rw [List.length_map, wh5_len]; simp; omega) (by decide))
              (case cl103 => first | rfl | exact nm5_lc _ | exact lc_map (f := fun r : List Int => rLst X.K (r.map rInt)) | exact fw5_lc _ _ | exact fy5_lc _ | exact List.map_append.symm | exact tb5_lc _ _ _ | exact wr5_lc _ _ _ | (rw [List.map_append]; rfl))
              (case s104 => first | decide | (simp; done) | (simp [caA, caB, caC]; decide))
              (case cl105 => first | rfl | exact nm5_lc _ | exact lc_map (f := fun r : List Int => rLst X.K (r.map rInt)) | exact fw5_lc _ _ | exact fy5_lc _ | exact List.map_append.symm | exact tb5_lc _ _ _ | exact wr5_lc _ _ _ | (rw [List.map_append]; rfl))
              refine @go_nf _ _ _ _ _ _ [_, _, _, _, _, _, _, _, _, _, _, _, _, _, _, _, _, _, _, _, _, _] rfl ?go_91
              refine go_ifK [(17, .ow ((caL (lawNums ns 0 16) (lawNums ns 1 36) (lawNums ns 2 12)).map (rP X.K (fun l => rLst X.K (List.map (rNum X.K) l)) (fun l => rLst X.K (List.map (rNum X.K) l))))), (18, .any)] (dt_gt (de_lenM B T.b_len (de_h2l (de_var B (i := 4) rfl rfl (.inl rfl))) rfl) de_int) ?gk_92 (fun hk hc => ?gt_93) (fun hk hc => ?gf_94)
              case gt_93 =>
                have h5 := of_decide_eq_true hc
                refine go_set B (i := 18) (de_ixM (R := (fun l => rLst X.K (List.map rInt l))) [] ?xl122 ?xh123 (de_h2l (de_var B (i := 4) rfl rfl (.inl rfl))) (de_mod ?z121 (de_toInt B T.b_int (de_ixM (R := rInt) (0 : Int) ?xl119 ?xh120 (de_var B (i := 1) rfl rfl (.inl rfl)) de_int) rfl) (de_lenM B T.b_len (de_h2l (de_var B (i := 4) rfl rfl (.inl rfl))) rfl))) rfl (.inr ⟨rfl, Bf _⟩) ?go_95
                (case xl119 => first | decide | omega | exact (fm_bd (by omega)).1)
                (case xh120 => first | (rw [hlh]; decide) | omega | (rw [wh5_len]; omega) | (rw [wy5_len]; omega) | exact (fm_bd (by omega)).2 | (rw [rr5_len (lawNums ns 0 16) (lawNums ns 1 36) (Int.natCast_pos.mp h5)]; omega))
                (case z121 => first | decide | omega)
                (case xl122 => first | decide | omega | exact (fm_bd (by omega)).1)
                (case xh123 => first | (rw [hlh]; decide) | omega | (rw [wh5_len]; omega) | (rw [wy5_len]; omega) | exact (fm_bd (by omega)).2 | (rw [rr5_len (lawNums ns 0 16) (lawNums ns 1 36) (Int.natCast_pos.mp h5)]; omega))
                refine @go_nf _ _ _ _ _ _ [_, _, _, _, _, _, _, _, _, _, _, _, _, _, _, _, _, _, _, _, _, _] rfl ?go_96
                refine go_append B (i := 17) rfl (de_tup (da_cons (de_h2l (de_var B (i := 14) rfl rfl (.inl rfl))) (da_cons (de_li2n (DL.froz (DL.to (l' := List.map rInt (wr5 (lawNums ns 0 16) (lawNums ns 1 36) (lawNums ns 2 12))) (dl_lc B [("_law_k", 11)] (sr_range1 B T.b_range (de_var B (i := 2) rfl rfl (.inl rfl)) rfl ?r124 ?r125) (blkOk_by (by decide +kernel)) _ (fun _ => true) (fun i : Nat => rInt ((wh5 (lawNums ns 0 16) (lawNums ns 1 36) (lawNums ns 2 12)).getD ((i : Nat) : Int).toNat 0 + (rr5 (lawNums ns 0 16) (lawNums ns 1 36)).getD ((i : Nat) : Int).toNat 0)) ?sz130 (by decide) (fun _ _ _ _ _ B i hi => (dg_name B (i := 11) rfl (.inl rfl))) (fun _ _ _ _ _ B i hi => dts_nil) (fun _ _ _ _ _ B i hi hb => (de_add (de_ixM (R := rInt) (0 : Int) ?xl126 ?xh127 (de_h2l (de_var B (i := 8) rfl rfl (.inr (.inl rfl)))) (de_var B (i := 11) rfl rfl (.inl rfl))) (de_ixM (R := rInt) (0 : Int) ?xl128 ?xh129 (de_var B (i := 18) rfl rfl (.inr (.inl rfl))) (de_var B (i := 11) rfl rfl (.inl rfl)))))) ?cl131))) da_nil)) (show (2 : Nat) ≤ sizeLine by decide)) ?s132 rfl (.inl rfl) ?go_97
                (case r124 => first | omega | decide)
                (case r125 => first | omega | decide)
                (case xl126 => first | decide | omega | exact (fm_bd (by omega)).1)
                (case xh127 => first | (rw [hlh]; decide) | omega | (rw [wh5_len]; omega) | (rw [wy5_len]; omega) | exact (fm_bd (by omega)).2 | (rw [rr5_len (lawNums ns 0 16) (lawNums ns 1 36) (Int.natCast_pos.mp h5)]; omega))
                (case xl128 => first | decide | omega | exact (fm_bd (by omega)).1)
                (case xh129 => first | (rw [hlh]; decide) | omega | (rw [wh5_len]; omega) | (rw [wy5_len]; omega) | exact (fm_bd (by omega)).2 | (rw [rr5_len (lawNums ns 0 16) (lawNums ns 1 36) (Int.natCast_pos.mp h5)]; omega))
                (case sz130 => first | exact Nat.lt_of_le_of_lt (show _ ≤ 16 by omega) (by decide) | exact Nat.lt_of_le_of_lt (show _ ≤ 16 by simp; omega) (by decide))
                (case cl131 => first | rfl | exact nm5_lc _ | exact lc_map (f := fun r : List Int => rLst X.K (r.map rInt)) | exact fw5_lc _ _ | exact fy5_lc _ | exact List.map_append.symm | exact tb5_lc _ _ _ | exact wr5_lc _ _ _ | (rw [List.map_append]; rfl))
                (case s132 => first | decide | (simp; done) | (simp [caA, caB, caC]; decide))
                refine @go_nf _ _ _ _ _ _ [_, _, _, _, _, _, _, _, _, _, _, _, _, _, _, _, _, _, _, _, _, _] rfl ?go_98
                refine go_join hk ?jl_99
                (case jl_99 => refine .same ?_; refine .same ?_; refine .same ?_; refine .same ?_; refine .same ?_; refine .same ?_; refine .same ?_; refine .same ?_; refine .same ?_; refine .same ?_; refine .same ?_; refine .same ?_; refine .same ?_; refine .same ?_; refine .same ?_; refine .same ?_; refine .same ?_; refine .ow ?h ?_; (case h => exact caL_t _ _ _ hc); refine .any ?_; refine .same ?_; refine .same ?_; refine .same ?_; exact .nil)
              case gf_94 =>
                skip
                refine go_join hk ?jl_100
                (case jl_100 => refine .same ?_; refine .same ?_; refine .same ?_; refine .same ?_; refine .same ?_; refine .same ?_; refine .same ?_; refine .same ?_; refine .same ?_; refine .same ?_; refine .same ?_; refine .same ?_; refine .same ?_; refine .same ?_; refine .same ?_; refine .same ?_; refine .same ?_; refine .ow ?h ?_; (case h => exact caL_f _ _ _ hc); refine .any ?_; refine .same ?_; refine .same ?_; refine .same ?_; exact .nil)
              case gk_92 =>
                refine @go_nf _ _ _ _ _ _ [_, _, _, _, _, _, _, _, _, _, _, _, _, _, _, _, _, _, _, _, _, _] rfl ?go_101
                refine go_frozH 17 rfl ?go_102
                refine @go_nf _ _ _ _ _ _ [_, _, _, _, _, _, _, _, _, _, _, _, _, _, _, _, _, _, _, _, _, _] rfl ?go_103
                refine go_set B (i := 19) (de_mod ?z108 (de_toInt B T.b_int (de_ixM (R := rInt) (0 : Int) ?xl106 ?xh107 (de_var B (i := 1) rfl rfl (.inl rfl)) de_int) rfl) (de_lenM B T.b_len (de_h2l (de_var B (i := 17) rfl rfl (.inl rfl))) rfl)) rfl (.inl rfl) ?go_104
                (case xl106 => first | decide | omega | exact (fm_bd (by omega)).1)
                (case xh107 => first | (rw [hlh]; decide) | omega | (rw [wh5_len]; omega) | (rw [wy5_len]; omega) | exact (fm_bd (by omega)).2 | (rw [rr5_len (lawNums ns 0 16) (lawNums ns 1 36) (Int.natCast_pos.mp h5)]; omega))
                (case z108 => first | decide | omega)
                refine @go_nf _ _ _ _ _ _ [_, _, _, _, _, _, _, _, _, _, _, _, _, _, _, _, _, _, _, _, _, _] rfl ?go_105
                refine go_forS B (fun i => [(11, .any), (20, .any)]) (fun i => True) (sr_range1 B T.b_range de_int rfl ?r109 ?r110) _ (fun i hi => (dg_name B (i := 11) rfl (.inl rfl))) ?h0_106 ?j0_107 (fun F1 u i hi hj => ?gb_108) (fun hj => ?ge_109)
                (case r109 => first | omega | decide)
                (case r110 => first | omega | decide)
                (case h0_106 => refine .same ?_; refine .same ?_; refine .same ?_; refine .same ?_; refine .same ?_; refine .same ?_; refine .same ?_; refine .same ?_; refine .same ?_; refine .same ?_; refine .same ?_; refine .any ?_; refine .same ?_; refine .same ?_; refine .same ?_; refine .same ?_; refine .same ?_; refine .same ?_; refine .same ?_; refine .same ?_; refine .any ?_; refine .same ?_; exact .nil)
                (case j0_107 => trivial)
                case gb_108 =>
                  refine @go_nf _ _ _ _ _ _ [_, _, _, _, _, _, _, _, _, _, _, _, _, _, _, _, _, _, _, _, _, _] rfl ?go_110
                  refine go_set B (i := 20) (de_ixM (R := (rP X.K (fun l => rLst X.K (List.map (rNum X.K) l)) (fun l => rLst X.K (List.map (rNum X.K) l)))) ([], []) ?xl116 ?xh117 (de_h2l (de_var B (i := 17) rfl rfl (.inl rfl))) (de_mod ?z115 (de_toInt B T.b_int (de_add (de_var B (i := 19) rfl rfl (.inl rfl)) (de_mulG ?m114 (de_var B (i := 11) rfl rfl (.inl rfl)) (de_add de_int (de_mod ?z113 (de_toInt B T.b_int (de_ixM (R := rInt) (0 : Int) ?xl111 ?xh112 (de_var B (i := 1) rfl rfl (.inl rfl)) de_int) rfl) de_int)))) rfl) (de_lenM B T.b_len (de_h2l (de_var B (i := 17) rfl rfl (.inl rfl))) rfl))) rfl (.inl rfl) ?go_111
                  (case xl111 => first | decide | omega | exact (fm_bd (by omega)).1)
                  (case xh112 => first | (rw [hlh]; decide) | omega | (rw [wh5_len]; omega) | (rw [wy5_len]; omega) | exact (fm_bd (by omega)).2 | (rw [rr5_len (lawNums ns 0 16) (lawNums ns 1 36) (Int.natCast_pos.mp h5)]; omega))
                  (case z113 => first | decide | omega)
                  (case m114 => first | exact low_m (lg_4k (num_4 _)) (lg_4k (num_4 _)) | exact low_m (lg_4k (fm7_4 _)) (lg_4k (by omega)) | exact low_m (lg_4k (by omega)) (lg_4k (wy5_4 _ _ _ _)) | exact low_m (lg_4k (by omega)) (lg_4k (fm3_4 _)) | exact low_m (lg_4k (by omega)) (lg_4k (by omega)) | exact low_m (lg_4k (by decide)) (lg_4k (by split <;> decide)))
                  (case z115 => first | decide | omega)
                  (case xl116 => first | decide | omega | exact (fm_bd (by omega)).1)
                  (case xh117 => first | (rw [hlh]; decide) | omega | (rw [wh5_len]; omega) | (rw [wy5_len]; omega) | exact (fm_bd (by omega)).2 | (rw [rr5_len (lawNums ns 0 16) (lawNums ns 1 36) (Int.natCast_pos.mp h5)]; omega))
                  refine @go_nf _ _ _ _ _ _ [_, _, _, _, _, _, _, _, _, _, _, _, _, _, _, _, _, _, _, _, _, _] rfl ?go_112
                  refine go_if (dt_not (dt_val (CA.val (ca_call B (ok__law_asks T) (by decide) ((nm5 (lawNums ns 0 16)), (rw5 (lawNums ns 0 16) (lawNums ns 1 36)), ((caL (lawNums ns 0 16) (lawNums ns 1 36) (lawNums ns 2 12)).getD _ ([], [])).1, ((caL (lawNums ns 0 16) (lawNums ns 1 36) (lawNums ns 2 12)).getD _ ([], [])).2) ?c_law_asks_118 (da_cons (de_var B (i := 5) rfl rfl (.inl rfl)) (da_cons (de_var B (i := 2) rfl rfl (.inl rfl)) (da_cons (de_var B (i := 4) rfl rfl (.inl rfl)) (da_cons (de_ixT (r := (fun l => rLst X.K (List.map (rNum X.K) l)) (Prod.fst _)) rfl (de_var B (i := 20) rfl rfl (.inl rfl)) de_int) (da_cons (de_ixT (r := (fun l => rLst X.K (List.map (rNum X.K) l)) (Prod.snd _)) rfl (de_var B (i := 20) rfl rfl (.inl rfl)) de_int) da_nil))))) rfl)))) (fun hc => ?gt_113) (fun hc => ?gf_114)
                  (case c_law_asks_118 => first | exact gl_ak _ _ _ (gl_T _ _ _) (gl_W _ _ _) | exact ask5 _ _ _ (fm_nat (by omega)))
                  case gt_113 =>
                    try (simp only [decide_eq_true_eq, decide_eq_false_iff_not, Bool.not_eq_true', Bool.not_eq_false', Bool.not_eq_true, Bool.not_eq_false] at hc)
                    refine go_ret (u.rt R) de_bl ?rs_115
                    (case rs_115 => exfalso; revert hc; simp)
                  case gf_114 =>
                    try (simp only [decide_eq_true_eq, decide_eq_false_iff_not, Bool.not_eq_true', Bool.not_eq_false', Bool.not_eq_true, Bool.not_eq_false] at hc)
                    refine go_then ?go_116
                    refine go_turnS ?jn_117 ?ln_118
                    (case jn_117 => trivial)
                    (case ln_118 => refine .same ?_; refine .same ?_; refine .same ?_; refine .same ?_; refine .same ?_; refine .same ?_; refine .same ?_; refine .same ?_; refine .same ?_; refine .same ?_; refine .same ?_; refine .any ?_; refine .same ?_; refine .same ?_; refine .same ?_; refine .same ?_; refine .same ?_; refine .same ?_; refine .same ?_; refine .same ?_; refine .any ?_; refine .same ?_; exact .nil)
                case ge_109 =>
                  refine @go_nf _ _ _ _ _ _ [_, _, _, _, _, _, _, _, _, _, _, _, _, _, _, _, _, _, _, _, _, _] rfl ?go_119
                  refine go_ret R de_bl ?rs_120
                  (case rs_120 => exact Sub.rfl)
end K45

namespace K45
open PySem PySem.Spec PyProof.Rows L2 DL
theorem td_mk {K : PySem.W.Frag} {mg : Str → Option Value} {h : Heap} {x : Str} {st : Stmt} {f : Addr} {od an : Option Addr} {sl : Array (Option Value)} {oc kV dc pm cd ct : Value} (X : K.In h) (G : h.Ns mainGlobals mg)
    (a : PySem.W.nsIn K mainGlobals x = some (some (.ref f))) (l : K.lookup f = some ⟨oc, od, .func (PySem.W.fnOf x x (defArgs st) (defBody st) (defScope st) .none kV dc pm an cd ct), sl⟩) (c : PySem.W.codeIn K cd x = true) (k : PySem.W.keepIn K (.ref f) = true) : TD K mg x st :=
  ⟨f, _, fun_mk l c k, PySem.W.mg_of X G a⟩
theorem xcls_mk {K : PySem.W.Frag} {mg : Str → Option Value} {h : Heap} {x : Str} {C : Addr} (X : K.In h) (G : h.Ns mainGlobals mg) (g : PySem.W.nsIn K mainGlobals x = some (some (.ref C)))
    (e : PySem.W.excIn K C [.type "ValueError", .type "Exception", .type "BaseException", .type "object"] "ValueError.__new__" = true) (k : PySem.W.keepIn K (.ref C) = true) (b : PySem.W.subIn K (.ref C) (.type "BaseException") = some true)
    (t : PySem.W.typeIn K (.ref C) = some (.type "type")) (hd : PySem.W.hasDictIn K C = true) : XCls K mg x C := ⟨PySem.W.mg_of X G g, e, k, b, t, hd⟩
theorem int_mk {K : PySem.W.Frag} {mg : Str → Option Value} {h : Heap} {x : Str} {n : Int} {tk : Nat} (X : K.In h) (G : h.Ns mainGlobals mg) (g : PySem.W.nsIn K mainGlobals x = some (some (.int n tk))) : ∃ u, mg x = some u ∧ RelV (.int n) u := ⟨_, PySem.W.mg_of X G g, _, rfl⟩
theorem str_mk {K : PySem.W.Frag} {mg : Str → Option Value} {h : Heap} {x s : Str} {tk : Nat} (X : K.In h) (G : h.Ns mainGlobals mg) (g : PySem.W.nsIn K mainGlobals x = some (some (.str s tk))) : ∃ u, mg x = some u ∧ RelV (.str s) u := ⟨_, PySem.W.mg_of X G g, _, rfl⟩
theorem ti_Book {K : PySem.W.Frag} {mg : Str → Option Value} {h : Heap} {C f : Addr} {od an : Option Addr} {sl : Array (Option Value)} {oc kV dc pm cd ct : Value} (X : K.In h) (G : h.Ns mainGlobals mg)
    (g : PySem.W.nsIn K mainGlobals "Book" = some (some (.ref C))) (fi : PySem.W.findIn K (.ref C) "__init__" = some (some (.ref f))) (l : K.lookup f = some ⟨oc, od, .func (PySem.W.fnOf "__init__" "Book.__init__" (defArgs s_Book) (defBody s_Book) (defScope s_Book) .none kV dc pm an cd ct), sl⟩) (c : PySem.W.codeIn K cd "Book.__init__" = true) (kf : PySem.W.keepIn K (.ref f) = true)
    (mk : PySem.W.makesIn K C = true) (fn : PySem.W.isFn K (.ref f) = true) (kp : PySem.W.keepIn K (.ref C) = true) (pg : PySem.W.plainGet K C Str.empty = true) (hd : PySem.W.hasDictIn K C = true) (po : PySem.W.plainOver K C = true) (sa : PySem.W.findIn K (.ref C) "__setattr__" = some (some (.builtin "object.__setattr__")))
    (n0 : PySem.W.findIn K (.ref C) "names" = some none) (n1 : PySem.W.findIn K (.ref C) "size" = some none) (n2 : PySem.W.findIn K (.ref C) "frame" = some none) : TI K mg "Book" "Book.__init__" C s_Book ["names", "size", "frame"] :=
  ⟨⟨f, _, fun_mk l c kf, ⟨mk, fi, fn, kp⟩⟩, PySem.W.mg_of X G g, ⟨⟨pg, hd, po, sa⟩, fun y hy => by
    simp only [List.mem_cons, List.not_mem_nil, or_false] at hy
    rcases hy with rfl | rfl | rfl
    · exact n0
    · exact n1
    · exact n2⟩⟩
theorem tc_Book_free {K : PySem.W.Frag} {C p g : Addr} {rest : List Value} {od an : Option Addr} {sl : Array (Option Value)} {oc kV dc pm cd ct : Value}
    (rd : PySem.W.readsIn K C (.type "type") = true) (ga : PySem.W.specialIn K (.ref C) "__getattribute__" = some (some (.builtin "type.__getattribute__"))) (at_ : PySem.W.findCls K (.ref C) (.type "type") "free" = some (.get (.builtin "classmethod.__get__") (.ref p) .none (.ref C)))
    (rc : PySem.W.recIn K p "classmethod" = some (.ref g :: rest)) (fi : PySem.W.fnIn K g = true) (l : K.lookup g = some ⟨oc, od, .func (PySem.W.fnOf "free" "Book.free" (defArgs s_Book_free) (defBody s_Book_free) (defScope s_Book_free) .none kV dc pm an cd ct), sl⟩) (c : PySem.W.codeIn K cd "Book.free" = true) (kf : PySem.W.keepIn K (.ref g) = true) : TC K C "free" "Book.free" s_Book_free :=
  ⟨.type "type", p, g, _, ⟨rd, ga⟩, ⟨at_, ⟨rest, rc⟩, fi⟩, fun_mk l c kf⟩
theorem txt_of {K : PySem.W.Frag} {mg : Str → Option Value} {C_BookError C_ZeroBottom C_BadName C_BadSize C_NotTable C_NotWhole C_NotRounding C_BadChance C_Book : Addr}
    (b_ValueError : mg "ValueError" = none)
    (b_abs : mg "abs" = none)
    (b_all : mg "all" = none)
    (b_bool : mg "bool" = none)
    (b_classmethod : mg "classmethod" = none)
    (b_enumerate : mg "enumerate" = none)
    (b_int : mg "int" = none)
    (b_isinstance : mg "isinstance" = none)
    (b_len : mg "len" = none)
    (b_list : mg "list" = none)
    (b_max : mg "max" = none)
    (b_range : mg "range" = none)
    (b_set : mg "set" = none)
    (b_str : mg "str" = none)
    (b_tuple : mg "tuple" = none)
    (b_zip : mg "zip" = none)
    (m_gcd : mg "gcd" = some (.builtin "math.gcd"))
    (m_lcm : mg "lcm" = some (.builtin "math.lcm"))
    (x_BookError : XCls K mg "BookError" C_BookError)
    (x_ZeroBottom : XCls K mg "ZeroBottom" C_ZeroBottom)
    (x_BadName : XCls K mg "BadName" C_BadName)
    (x_BadSize : XCls K mg "BadSize" C_BadSize)
    (x_NotTable : XCls K mg "NotTable" C_NotTable)
    (x_NotWhole : XCls K mg "NotWhole" C_NotWhole)
    (x_NotRounding : XCls K mg "NotRounding" C_NotRounding)
    (x_BadChance : XCls K mg "BadChance" C_BadChance)
    (i_Book : TI K mg "Book" "Book.__init__" C_Book s_Book ["names", "size", "frame"])
    (cm_Book_free : TC K C_Book "free" "Book.free" s_Book_free)
    (c_LETTERS : ∃ u, mg "LETTERS" = some u ∧ RelV (.str "abcdefghijklmnopqrstuvwxyz") u)
    (c_DIGITS : ∃ u, mg "DIGITS" = some u ∧ RelV (.str "0123456789") u)
    (c_MOST_CELLS : ∃ u, mg "MOST_CELLS" = some u ∧ RelV (.int 16) u)
    (c_MOST_SIGNS : ∃ u, mg "MOST_SIGNS" = some u ∧ RelV (.int 12) u)
    (d__wall : TD K mg "_wall" s__wall)
    (d_ratio : TD K mg "ratio" s_ratio)
    (d_is_whole : TD K mg "is_whole" s_is_whole)
    (d_top_of : TD K mg "top_of" s_top_of)
    (d_bottom_of : TD K mg "bottom_of" s_bottom_of)
    (d_plus : TD K mg "plus" s_plus)
    (d_minus : TD K mg "minus" s_minus)
    (d_times : TD K mg "times" s_times)
    (d_over : TD K mg "over" s_over)
    (d_less : TD K mg "less" s_less)
    (d_floor_of : TD K mg "floor_of" s_floor_of)
    (d_ceiling_of : TD K mg "ceiling_of" s_ceiling_of)
    (d_common_bottom : TD K mg "common_bottom" s_common_bottom)
    (d_least_of : TD K mg "least_of" s_least_of)
    (d_support : TD K mg "support" s_support)
    (d_scaled : TD K mg "scaled" s_scaled)
    (d_added : TD K mg "added" s_added)
    (d_primitive : TD K mg "primitive" s_primitive)
    (d_lowest : TD K mg "lowest" s_lowest)
    (d_cleared : TD K mg "cleared" s_cleared)
    (d_lead_at : TD K mg "lead_at" s_lead_at)
    (d_without : TD K mg "without" s_without)
    (d_lowered : TD K mg "lowered" s_lowered)
    (d_check_names : TD K mg "check_names" s_check_names)
    (d_is_name : TD K mg "is_name" s_is_name)
    (d_frame_of : TD K mg "frame_of" s_frame_of)
    (d_pivots : TD K mg "pivots" s_pivots)
    (d_is_table : TD K mg "is_table" s_is_table)
    (d_table_of : TD K mg "table_of" s_table_of)
    (d_check_table : TD K mg "check_table" s_check_table)
    (d_check_whole : TD K mg "check_whole" s_check_whole)
    (d_is_empty : TD K mg "is_empty" s_is_empty)
    (d_lies_within : TD K mg "lies_within" s_lies_within)
    (d_all_within : TD K mg "all_within" s_all_within)
    (d_around : TD K mg "around" s_around)
    (d_lies_around : TD K mg "lies_around" s_lies_around)
    (d_is_rounding : TD K mg "is_rounding" s_is_rounding)
    (d_paper_chance : TD K mg "paper_chance" s_paper_chance)
    (d_chance_at : TD K mg "chance_at" s_chance_at)
    (d_rest_after : TD K mg "rest_after" s_rest_after)
    (d__law_cell : TD K mg "_law_cell" s__law_cell)
    (d__law_numbers : TD K mg "_law_numbers" s__law_numbers)
    (d__law_gcd : TD K mg "_law_gcd" s__law_gcd)
    (d__law_make : TD K mg "_law_make" s__law_make)
    (d__law_top : TD K mg "_law_top" s__law_top)
    (d__law_bottom : TD K mg "_law_bottom" s__law_bottom)
    (d__law_is_int : TD K mg "_law_is_int" s__law_is_int)
    (d__law_is_number : TD K mg "_law_is_number" s__law_is_number)
    (d__law_plus : TD K mg "_law_plus" s__law_plus)
    (d__law_times : TD K mg "_law_times" s__law_times)
    (d__law_less : TD K mg "_law_less" s__law_less)
    (d__law_cleared : TD K mg "_law_cleared" s__law_cleared)
    (d__law_rank : TD K mg "_law_rank" s__law_rank)
    (d__law_spans : TD K mg "_law_spans" s__law_spans)
    (d__law_rows : TD K mg "_law_rows" s__law_rows)
    (d__law_sum : TD K mg "_law_sum" s__law_sum)
    (d__law_floor : TD K mg "_law_floor" s__law_floor)
    (d__law_ceiling : TD K mg "_law_ceiling" s__law_ceiling)
    (d__law_chance : TD K mg "_law_chance" s__law_chance)
    (d__law_due : TD K mg "_law_due" s__law_due)
    (d__law_told : TD K mg "_law_told" s__law_told)
    (d__law_rest : TD K mg "_law_rest" s__law_rest)
    (d__law_asks : TD K mg "_law_asks" s__law_asks)
    (d__law_moved : TD K mg "_law_moved" s__law_moved)
    (d_law : TD K mg "law" s_law)
    (e_BadChance : ExcC K C_BadChance)
    (s_BadChance_BookError : PySem.W.subIn K (.ref C_BadChance) (.ref C_BookError) = some true)
    (k_BadChance_BookError : PySem.W.kitOne K (.ref C_BadChance) (.ref C_BookError) = some true)
    (s_BadChance_ZeroBottom : PySem.W.subIn K (.ref C_BadChance) (.ref C_ZeroBottom) = some false)
    (k_BadChance_ZeroBottom : PySem.W.kitOne K (.ref C_BadChance) (.ref C_ZeroBottom) = some false)
    (s_BadChance_BadName : PySem.W.subIn K (.ref C_BadChance) (.ref C_BadName) = some false)
    (k_BadChance_BadName : PySem.W.kitOne K (.ref C_BadChance) (.ref C_BadName) = some false)
    (s_BadChance_BadSize : PySem.W.subIn K (.ref C_BadChance) (.ref C_BadSize) = some false)
    (k_BadChance_BadSize : PySem.W.kitOne K (.ref C_BadChance) (.ref C_BadSize) = some false)
    (s_BadChance_NotTable : PySem.W.subIn K (.ref C_BadChance) (.ref C_NotTable) = some false)
    (k_BadChance_NotTable : PySem.W.kitOne K (.ref C_BadChance) (.ref C_NotTable) = some false)
    (s_BadChance_NotWhole : PySem.W.subIn K (.ref C_BadChance) (.ref C_NotWhole) = some false)
    (k_BadChance_NotWhole : PySem.W.kitOne K (.ref C_BadChance) (.ref C_NotWhole) = some false)
    (s_BadChance_NotRounding : PySem.W.subIn K (.ref C_BadChance) (.ref C_NotRounding) = some false)
    (k_BadChance_NotRounding : PySem.W.kitOne K (.ref C_BadChance) (.ref C_NotRounding) = some false)
    (s_BadChance_BadChance : PySem.W.subIn K (.ref C_BadChance) (.ref C_BadChance) = some true)
    (k_BadChance_BadChance : PySem.W.kitOne K (.ref C_BadChance) (.ref C_BadChance) = some true)
    (s_BadChance_Book : PySem.W.subIn K (.ref C_BadChance) (.ref C_Book) = some false)
    (k_BadChance_Book : PySem.W.kitOne K (.ref C_BadChance) (.ref C_Book) = some false)
    (k_BadChance_ValueError : PySem.W.kitOne K (.ref C_BadChance) (.type "ValueError") = some true)
    (e_BadSize : ExcC K C_BadSize)
    (s_BadSize_BookError : PySem.W.subIn K (.ref C_BadSize) (.ref C_BookError) = some true)
    (k_BadSize_BookError : PySem.W.kitOne K (.ref C_BadSize) (.ref C_BookError) = some true)
    (s_BadSize_ZeroBottom : PySem.W.subIn K (.ref C_BadSize) (.ref C_ZeroBottom) = some false)
    (k_BadSize_ZeroBottom : PySem.W.kitOne K (.ref C_BadSize) (.ref C_ZeroBottom) = some false)
    (s_BadSize_BadName : PySem.W.subIn K (.ref C_BadSize) (.ref C_BadName) = some false)
    (k_BadSize_BadName : PySem.W.kitOne K (.ref C_BadSize) (.ref C_BadName) = some false)
    (s_BadSize_BadSize : PySem.W.subIn K (.ref C_BadSize) (.ref C_BadSize) = some true)
    (k_BadSize_BadSize : PySem.W.kitOne K (.ref C_BadSize) (.ref C_BadSize) = some true)
    (s_BadSize_NotTable : PySem.W.subIn K (.ref C_BadSize) (.ref C_NotTable) = some false)
    (k_BadSize_NotTable : PySem.W.kitOne K (.ref C_BadSize) (.ref C_NotTable) = some false)
    (s_BadSize_NotWhole : PySem.W.subIn K (.ref C_BadSize) (.ref C_NotWhole) = some false)
    (k_BadSize_NotWhole : PySem.W.kitOne K (.ref C_BadSize) (.ref C_NotWhole) = some false)
    (s_BadSize_NotRounding : PySem.W.subIn K (.ref C_BadSize) (.ref C_NotRounding) = some false)
    (k_BadSize_NotRounding : PySem.W.kitOne K (.ref C_BadSize) (.ref C_NotRounding) = some false)
    (s_BadSize_BadChance : PySem.W.subIn K (.ref C_BadSize) (.ref C_BadChance) = some false)
    (k_BadSize_BadChance : PySem.W.kitOne K (.ref C_BadSize) (.ref C_BadChance) = some false)
    (s_BadSize_Book : PySem.W.subIn K (.ref C_BadSize) (.ref C_Book) = some false)
    (k_BadSize_Book : PySem.W.kitOne K (.ref C_BadSize) (.ref C_Book) = some false)
    (k_BadSize_ValueError : PySem.W.kitOne K (.ref C_BadSize) (.type "ValueError") = some true)
    (e_NotRounding : ExcC K C_NotRounding)
    (s_NotRounding_BookError : PySem.W.subIn K (.ref C_NotRounding) (.ref C_BookError) = some true)
    (k_NotRounding_BookError : PySem.W.kitOne K (.ref C_NotRounding) (.ref C_BookError) = some true)
    (s_NotRounding_ZeroBottom : PySem.W.subIn K (.ref C_NotRounding) (.ref C_ZeroBottom) = some false)
    (k_NotRounding_ZeroBottom : PySem.W.kitOne K (.ref C_NotRounding) (.ref C_ZeroBottom) = some false)
    (s_NotRounding_BadName : PySem.W.subIn K (.ref C_NotRounding) (.ref C_BadName) = some false)
    (k_NotRounding_BadName : PySem.W.kitOne K (.ref C_NotRounding) (.ref C_BadName) = some false)
    (s_NotRounding_BadSize : PySem.W.subIn K (.ref C_NotRounding) (.ref C_BadSize) = some false)
    (k_NotRounding_BadSize : PySem.W.kitOne K (.ref C_NotRounding) (.ref C_BadSize) = some false)
    (s_NotRounding_NotTable : PySem.W.subIn K (.ref C_NotRounding) (.ref C_NotTable) = some false)
    (k_NotRounding_NotTable : PySem.W.kitOne K (.ref C_NotRounding) (.ref C_NotTable) = some false)
    (s_NotRounding_NotWhole : PySem.W.subIn K (.ref C_NotRounding) (.ref C_NotWhole) = some false)
    (k_NotRounding_NotWhole : PySem.W.kitOne K (.ref C_NotRounding) (.ref C_NotWhole) = some false)
    (s_NotRounding_NotRounding : PySem.W.subIn K (.ref C_NotRounding) (.ref C_NotRounding) = some true)
    (k_NotRounding_NotRounding : PySem.W.kitOne K (.ref C_NotRounding) (.ref C_NotRounding) = some true)
    (s_NotRounding_BadChance : PySem.W.subIn K (.ref C_NotRounding) (.ref C_BadChance) = some false)
    (k_NotRounding_BadChance : PySem.W.kitOne K (.ref C_NotRounding) (.ref C_BadChance) = some false)
    (s_NotRounding_Book : PySem.W.subIn K (.ref C_NotRounding) (.ref C_Book) = some false)
    (k_NotRounding_Book : PySem.W.kitOne K (.ref C_NotRounding) (.ref C_Book) = some false)
    (k_NotRounding_ValueError : PySem.W.kitOne K (.ref C_NotRounding) (.type "ValueError") = some true)
    (e_NotTable : ExcC K C_NotTable)
    (s_NotTable_BookError : PySem.W.subIn K (.ref C_NotTable) (.ref C_BookError) = some true)
    (k_NotTable_BookError : PySem.W.kitOne K (.ref C_NotTable) (.ref C_BookError) = some true)
    (s_NotTable_ZeroBottom : PySem.W.subIn K (.ref C_NotTable) (.ref C_ZeroBottom) = some false)
    (k_NotTable_ZeroBottom : PySem.W.kitOne K (.ref C_NotTable) (.ref C_ZeroBottom) = some false)
    (s_NotTable_BadName : PySem.W.subIn K (.ref C_NotTable) (.ref C_BadName) = some false)
    (k_NotTable_BadName : PySem.W.kitOne K (.ref C_NotTable) (.ref C_BadName) = some false)
    (s_NotTable_BadSize : PySem.W.subIn K (.ref C_NotTable) (.ref C_BadSize) = some false)
    (k_NotTable_BadSize : PySem.W.kitOne K (.ref C_NotTable) (.ref C_BadSize) = some false)
    (s_NotTable_NotTable : PySem.W.subIn K (.ref C_NotTable) (.ref C_NotTable) = some true)
    (k_NotTable_NotTable : PySem.W.kitOne K (.ref C_NotTable) (.ref C_NotTable) = some true)
    (s_NotTable_NotWhole : PySem.W.subIn K (.ref C_NotTable) (.ref C_NotWhole) = some false)
    (k_NotTable_NotWhole : PySem.W.kitOne K (.ref C_NotTable) (.ref C_NotWhole) = some false)
    (s_NotTable_NotRounding : PySem.W.subIn K (.ref C_NotTable) (.ref C_NotRounding) = some false)
    (k_NotTable_NotRounding : PySem.W.kitOne K (.ref C_NotTable) (.ref C_NotRounding) = some false)
    (s_NotTable_BadChance : PySem.W.subIn K (.ref C_NotTable) (.ref C_BadChance) = some false)
    (k_NotTable_BadChance : PySem.W.kitOne K (.ref C_NotTable) (.ref C_BadChance) = some false)
    (s_NotTable_Book : PySem.W.subIn K (.ref C_NotTable) (.ref C_Book) = some false)
    (k_NotTable_Book : PySem.W.kitOne K (.ref C_NotTable) (.ref C_Book) = some false)
    (k_NotTable_ValueError : PySem.W.kitOne K (.ref C_NotTable) (.type "ValueError") = some true)
    (e_NotWhole : ExcC K C_NotWhole)
    (s_NotWhole_BookError : PySem.W.subIn K (.ref C_NotWhole) (.ref C_BookError) = some true)
    (k_NotWhole_BookError : PySem.W.kitOne K (.ref C_NotWhole) (.ref C_BookError) = some true)
    (s_NotWhole_ZeroBottom : PySem.W.subIn K (.ref C_NotWhole) (.ref C_ZeroBottom) = some false)
    (k_NotWhole_ZeroBottom : PySem.W.kitOne K (.ref C_NotWhole) (.ref C_ZeroBottom) = some false)
    (s_NotWhole_BadName : PySem.W.subIn K (.ref C_NotWhole) (.ref C_BadName) = some false)
    (k_NotWhole_BadName : PySem.W.kitOne K (.ref C_NotWhole) (.ref C_BadName) = some false)
    (s_NotWhole_BadSize : PySem.W.subIn K (.ref C_NotWhole) (.ref C_BadSize) = some false)
    (k_NotWhole_BadSize : PySem.W.kitOne K (.ref C_NotWhole) (.ref C_BadSize) = some false)
    (s_NotWhole_NotTable : PySem.W.subIn K (.ref C_NotWhole) (.ref C_NotTable) = some false)
    (k_NotWhole_NotTable : PySem.W.kitOne K (.ref C_NotWhole) (.ref C_NotTable) = some false)
    (s_NotWhole_NotWhole : PySem.W.subIn K (.ref C_NotWhole) (.ref C_NotWhole) = some true)
    (k_NotWhole_NotWhole : PySem.W.kitOne K (.ref C_NotWhole) (.ref C_NotWhole) = some true)
    (s_NotWhole_NotRounding : PySem.W.subIn K (.ref C_NotWhole) (.ref C_NotRounding) = some false)
    (k_NotWhole_NotRounding : PySem.W.kitOne K (.ref C_NotWhole) (.ref C_NotRounding) = some false)
    (s_NotWhole_BadChance : PySem.W.subIn K (.ref C_NotWhole) (.ref C_BadChance) = some false)
    (k_NotWhole_BadChance : PySem.W.kitOne K (.ref C_NotWhole) (.ref C_BadChance) = some false)
    (s_NotWhole_Book : PySem.W.subIn K (.ref C_NotWhole) (.ref C_Book) = some false)
    (k_NotWhole_Book : PySem.W.kitOne K (.ref C_NotWhole) (.ref C_Book) = some false)
    (k_NotWhole_ValueError : PySem.W.kitOne K (.ref C_NotWhole) (.type "ValueError") = some true) : ∃ cs : Cs, Txt K mg cs :=
  ⟨⟨C_BookError, C_ZeroBottom, C_BadName, C_BadSize, C_NotTable, C_NotWhole, C_NotRounding, C_BadChance, C_Book⟩, { b_ValueError := b_ValueError, b_abs := b_abs, b_all := b_all, b_bool := b_bool, b_classmethod := b_classmethod, b_enumerate := b_enumerate, b_int := b_int, b_isinstance := b_isinstance, b_len := b_len, b_list := b_list, b_max := b_max, b_range := b_range, b_set := b_set, b_str := b_str, b_tuple := b_tuple, b_zip := b_zip, m_gcd := m_gcd, m_lcm := m_lcm, x_BookError := x_BookError, x_ZeroBottom := x_ZeroBottom, x_BadName := x_BadName, x_BadSize := x_BadSize, x_NotTable := x_NotTable, x_NotWhole := x_NotWhole, x_NotRounding := x_NotRounding, x_BadChance := x_BadChance, i_Book := i_Book, cm_Book_free := cm_Book_free, c_LETTERS := c_LETTERS, c_DIGITS := c_DIGITS, c_MOST_CELLS := c_MOST_CELLS, c_MOST_SIGNS := c_MOST_SIGNS, d__wall := d__wall, d_ratio := d_ratio, d_is_whole := d_is_whole, d_top_of := d_top_of, d_bottom_of := d_bottom_of, d_plus := d_plus, d_minus := d_minus, d_times := d_times, d_over := d_over, d_less := d_less, d_floor_of := d_floor_of, d_ceiling_of := d_ceiling_of, d_common_bottom := d_common_bottom, d_least_of := d_least_of, d_support := d_support, d_scaled := d_scaled, d_added := d_added, d_primitive := d_primitive, d_lowest := d_lowest, d_cleared := d_cleared, d_lead_at := d_lead_at, d_without := d_without, d_lowered := d_lowered, d_check_names := d_check_names, d_is_name := d_is_name, d_frame_of := d_frame_of, d_pivots := d_pivots, d_is_table := d_is_table, d_table_of := d_table_of, d_check_table := d_check_table, d_check_whole := d_check_whole, d_is_empty := d_is_empty, d_lies_within := d_lies_within, d_all_within := d_all_within, d_around := d_around, d_lies_around := d_lies_around, d_is_rounding := d_is_rounding, d_paper_chance := d_paper_chance, d_chance_at := d_chance_at, d_rest_after := d_rest_after, d__law_cell := d__law_cell, d__law_numbers := d__law_numbers, d__law_gcd := d__law_gcd, d__law_make := d__law_make, d__law_top := d__law_top, d__law_bottom := d__law_bottom, d__law_is_int := d__law_is_int, d__law_is_number := d__law_is_number, d__law_plus := d__law_plus, d__law_times := d__law_times, d__law_less := d__law_less, d__law_cleared := d__law_cleared, d__law_rank := d__law_rank, d__law_spans := d__law_spans, d__law_rows := d__law_rows, d__law_sum := d__law_sum, d__law_floor := d__law_floor, d__law_ceiling := d__law_ceiling, d__law_chance := d__law_chance, d__law_due := d__law_due, d__law_told := d__law_told, d__law_rest := d__law_rest, d__law_asks := d__law_asks, d__law_moved := d__law_moved, d_law := d_law, e_BadChance := e_BadChance, s_BadChance_BookError := s_BadChance_BookError, k_BadChance_BookError := k_BadChance_BookError, s_BadChance_ZeroBottom := s_BadChance_ZeroBottom, k_BadChance_ZeroBottom := k_BadChance_ZeroBottom, s_BadChance_BadName := s_BadChance_BadName, k_BadChance_BadName := k_BadChance_BadName, s_BadChance_BadSize := s_BadChance_BadSize, k_BadChance_BadSize := k_BadChance_BadSize, s_BadChance_NotTable := s_BadChance_NotTable, k_BadChance_NotTable := k_BadChance_NotTable, s_BadChance_NotWhole := s_BadChance_NotWhole, k_BadChance_NotWhole := k_BadChance_NotWhole, s_BadChance_NotRounding := s_BadChance_NotRounding, k_BadChance_NotRounding := k_BadChance_NotRounding, s_BadChance_BadChance := s_BadChance_BadChance, k_BadChance_BadChance := k_BadChance_BadChance, s_BadChance_Book := s_BadChance_Book, k_BadChance_Book := k_BadChance_Book, k_BadChance_ValueError := k_BadChance_ValueError, e_BadSize := e_BadSize, s_BadSize_BookError := s_BadSize_BookError, k_BadSize_BookError := k_BadSize_BookError, s_BadSize_ZeroBottom := s_BadSize_ZeroBottom, k_BadSize_ZeroBottom := k_BadSize_ZeroBottom, s_BadSize_BadName := s_BadSize_BadName, k_BadSize_BadName := k_BadSize_BadName, s_BadSize_BadSize := s_BadSize_BadSize, k_BadSize_BadSize := k_BadSize_BadSize, s_BadSize_NotTable := s_BadSize_NotTable, k_BadSize_NotTable := k_BadSize_NotTable, s_BadSize_NotWhole := s_BadSize_NotWhole, k_BadSize_NotWhole := k_BadSize_NotWhole, s_BadSize_NotRounding := s_BadSize_NotRounding, k_BadSize_NotRounding := k_BadSize_NotRounding, s_BadSize_BadChance := s_BadSize_BadChance, k_BadSize_BadChance := k_BadSize_BadChance, s_BadSize_Book := s_BadSize_Book, k_BadSize_Book := k_BadSize_Book, k_BadSize_ValueError := k_BadSize_ValueError, e_NotRounding := e_NotRounding, s_NotRounding_BookError := s_NotRounding_BookError, k_NotRounding_BookError := k_NotRounding_BookError, s_NotRounding_ZeroBottom := s_NotRounding_ZeroBottom, k_NotRounding_ZeroBottom := k_NotRounding_ZeroBottom, s_NotRounding_BadName := s_NotRounding_BadName, k_NotRounding_BadName := k_NotRounding_BadName, s_NotRounding_BadSize := s_NotRounding_BadSize, k_NotRounding_BadSize := k_NotRounding_BadSize, s_NotRounding_NotTable := s_NotRounding_NotTable, k_NotRounding_NotTable := k_NotRounding_NotTable, s_NotRounding_NotWhole := s_NotRounding_NotWhole, k_NotRounding_NotWhole := k_NotRounding_NotWhole, s_NotRounding_NotRounding := s_NotRounding_NotRounding, k_NotRounding_NotRounding := k_NotRounding_NotRounding, s_NotRounding_BadChance := s_NotRounding_BadChance, k_NotRounding_BadChance := k_NotRounding_BadChance, s_NotRounding_Book := s_NotRounding_Book, k_NotRounding_Book := k_NotRounding_Book, k_NotRounding_ValueError := k_NotRounding_ValueError, e_NotTable := e_NotTable, s_NotTable_BookError := s_NotTable_BookError, k_NotTable_BookError := k_NotTable_BookError, s_NotTable_ZeroBottom := s_NotTable_ZeroBottom, k_NotTable_ZeroBottom := k_NotTable_ZeroBottom, s_NotTable_BadName := s_NotTable_BadName, k_NotTable_BadName := k_NotTable_BadName, s_NotTable_BadSize := s_NotTable_BadSize, k_NotTable_BadSize := k_NotTable_BadSize, s_NotTable_NotTable := s_NotTable_NotTable, k_NotTable_NotTable := k_NotTable_NotTable, s_NotTable_NotWhole := s_NotTable_NotWhole, k_NotTable_NotWhole := k_NotTable_NotWhole, s_NotTable_NotRounding := s_NotTable_NotRounding, k_NotTable_NotRounding := k_NotTable_NotRounding, s_NotTable_BadChance := s_NotTable_BadChance, k_NotTable_BadChance := k_NotTable_BadChance, s_NotTable_Book := s_NotTable_Book, k_NotTable_Book := k_NotTable_Book, k_NotTable_ValueError := k_NotTable_ValueError, e_NotWhole := e_NotWhole, s_NotWhole_BookError := s_NotWhole_BookError, k_NotWhole_BookError := k_NotWhole_BookError, s_NotWhole_ZeroBottom := s_NotWhole_ZeroBottom, k_NotWhole_ZeroBottom := k_NotWhole_ZeroBottom, s_NotWhole_BadName := s_NotWhole_BadName, k_NotWhole_BadName := k_NotWhole_BadName, s_NotWhole_BadSize := s_NotWhole_BadSize, k_NotWhole_BadSize := k_NotWhole_BadSize, s_NotWhole_NotTable := s_NotWhole_NotTable, k_NotWhole_NotTable := k_NotWhole_NotTable, s_NotWhole_NotWhole := s_NotWhole_NotWhole, k_NotWhole_NotWhole := k_NotWhole_NotWhole, s_NotWhole_NotRounding := s_NotWhole_NotRounding, k_NotWhole_NotRounding := k_NotWhole_NotRounding, s_NotWhole_BadChance := s_NotWhole_BadChance, k_NotWhole_BadChance := k_NotWhole_BadChance, s_NotWhole_Book := s_NotWhole_Book, k_NotWhole_Book := k_NotWhole_Book, k_NotWhole_ValueError := k_NotWhole_ValueError }⟩
def spLaw (K : PySem.W.Frag) : Sp := Pm (ι := List Int) (fun ns => True) (fun ns => [rLst K (ns.map rInt)]) (fun ns => .val (rBl true))
theorem law_end {l : PySem.W.OpenLaw} {w : World} {K : PySem.W.Frag} {mg : Str → Option Value} {h : Heap} {fa : Addr} {cs : Cs} (hmg : mg "law" = some (.ref fa)) (T : Txt K mg cs) :
    ∃ fd : FuncData, (∀ (s : Shared) (u : Value), BindsTo s fd ⟨[u], []⟩ [("_law_script", u)]) ∧ ∀ base : Heap, K.In base → base.Ns mainGlobals mg → FnOk l.prog w K mg base (L2.CX l.prog w) 13 fa fd ["_law_script"] (spLaw K) := by
  obtain ⟨f, fd, F, hm⟩ := T.d_law.ex
  have e : f = fa := by rw [hm] at hmg; cases hmg; rfl
  subst e
  refine ⟨fd, fun s u => ?_, fun base hK hn => ?_⟩
  · obtain ⟨oc, od, kV, doc, pm, an, cdv, ct, osl, rfl, _, _⟩ := F.ex
    exact .of_eq rfl
  · exact ok_law (P := l.prog) (w := w) (base := base) T F
theorem walk {l : PySem.W.OpenLaw} {q : Program} {loose : List Str} {XP : (Str → Option Value) → Heap → Prop} {YP : World → Heap → Prop} {d : DefRec} {K : Params → PySem.W.Frag} (hn : l.most = some 63) (hdf : d.params.defaults = []) (hd : d.name = "law")
    (hY : ∀ (w : World) (h : Heap), YP w h → (K w.params).In h)
    (F : ∀ (w : World) (mg : Str → Option Value) (h : Heap), (K w.params).In h → h.Ns mainGlobals mg → ∃ cs : Cs, Txt (K w.params) mg cs) :
    PySem.W.WalkO q loose XP YP l.row.toRowW d [] (fun f vs => PySem.call f vs) :=
  L2.walk_of (n := 63) (k := 13) (x := "_law_script") (CX := fun w => L2.CX l.prog w) (sp := fun w => spLaw (K w.params)) hn (by decide) hdf ⟨rfl, by decide, by decide⟩ hY
    (fun w mg fa h KX G hmg => by
      obtain ⟨cs, T⟩ := F w mg h KX G
      exact law_end (h := h) (hd ▸ hmg) T)
    (fun _ H a ns hl _ hS => ⟨ns, H, trivial, fun _ _ z => z, .cons ⟨a, ns.map V.int, rfl, hS, rl_ints H ns⟩ .nil, fun v _ _ _ hv => hv⟩)
    (fun _ _ _ _ _ ⟨_, _, _, _, _, _, _, _, _, _, _, _, z⟩ => z)
end K45
open PySem PySem.W PyProof.Rows
set_option maxRecDepth 100000 in
set_option maxHeartbeats 0 in
theorem PySem.Challenge.cw_fineststep_k45_greatest_chance_holds : PySem.Challenge.rw_fineststep_k45_greatest_chance.Holds := by
  w_on; o_law; k_head; (case hw => w_witness2)
  k_fill
  refine K45.walk (l := PySem.Challenge.rw_fineststep_k45_greatest_chance) rfl rfl rfl (fun w h Y => PySem.W.kIn_of Y) ?F
  case F =>
    intro w mg h KX G
    refine' K45.txt_of (PySem.W.mg_none_of KX G ?zb_ValueError) (PySem.W.mg_none_of KX G ?zb_abs) (PySem.W.mg_none_of KX G ?zb_all) (PySem.W.mg_none_of KX G ?zb_bool) (PySem.W.mg_none_of KX G ?zb_classmethod) (PySem.W.mg_none_of KX G ?zb_enumerate) (PySem.W.mg_none_of KX G ?zb_int) (PySem.W.mg_none_of KX G ?zb_isinstance) (PySem.W.mg_none_of KX G ?zb_len) (PySem.W.mg_none_of KX G ?zb_list) (PySem.W.mg_none_of KX G ?zb_max) (PySem.W.mg_none_of KX G ?zb_range) (PySem.W.mg_none_of KX G ?zb_set) (PySem.W.mg_none_of KX G ?zb_str) (PySem.W.mg_none_of KX G ?zb_tuple) (PySem.W.mg_none_of KX G ?zb_zip) (PySem.W.mg_of KX G ?zm_gcd) (PySem.W.mg_of KX G ?zm_lcm) (K45.xcls_mk KX G ?xg_BookError ?xe_BookError ?xk_BookError ?xb_BookError ?xt_BookError ?xh_BookError) (K45.xcls_mk KX G ?xg_ZeroBottom ?xe_ZeroBottom ?xk_ZeroBottom ?xb_ZeroBottom ?xt_ZeroBottom ?xh_ZeroBottom) (K45.xcls_mk KX G ?xg_BadName ?xe_BadName ?xk_BadName ?xb_BadName ?xt_BadName ?xh_BadName) (K45.xcls_mk KX G ?xg_BadSize ?xe_BadSize ?xk_BadSize ?xb_BadSize ?xt_BadSize ?xh_BadSize) (K45.xcls_mk KX G ?xg_NotTable ?xe_NotTable ?xk_NotTable ?xb_NotTable ?xt_NotTable ?xh_NotTable) (K45.xcls_mk KX G ?xg_NotWhole ?xe_NotWhole ?xk_NotWhole ?xb_NotWhole ?xt_NotWhole ?xh_NotWhole) (K45.xcls_mk KX G ?xg_NotRounding ?xe_NotRounding ?xk_NotRounding ?xb_NotRounding ?xt_NotRounding ?xh_NotRounding) (K45.xcls_mk KX G ?xg_BadChance ?xe_BadChance ?xk_BadChance ?xb_BadChance ?xt_BadChance ?xh_BadChance) (K45.ti_Book KX G ?ig_Book ?ifi_Book ?il_Book ?icd_Book ?ikf_Book ?imk_Book ?ifn_Book ?ikp_Book ?ipg_Book ?ihd_Book ?ipo_Book ?isa_Book ?in0_Book ?in1_Book ?in2_Book) (K45.tc_Book_free ?trd_Book_free ?tga_Book_free ?tat_Book_free ?trc_Book_free ?tfi_Book_free ?tl_Book_free ?tcd_Book_free ?tkf_Book_free) (K45.str_mk KX G ?zs_LETTERS) (K45.str_mk KX G ?zs_DIGITS) (K45.int_mk KX G ?zc_MOST_CELLS) (K45.int_mk KX G ?zc_MOST_SIGNS) (K45.td_mk KX G ?da_0 ?dl_0 ?dc_0 ?dk_0) (K45.td_mk KX G ?da_1 ?dl_1 ?dc_1 ?dk_1) (K45.td_mk KX G ?da_2 ?dl_2 ?dc_2 ?dk_2) (K45.td_mk KX G ?da_3 ?dl_3 ?dc_3 ?dk_3) (K45.td_mk KX G ?da_4 ?dl_4 ?dc_4 ?dk_4) (K45.td_mk KX G ?da_5 ?dl_5 ?dc_5 ?dk_5) (K45.td_mk KX G ?da_6 ?dl_6 ?dc_6 ?dk_6) (K45.td_mk KX G ?da_7 ?dl_7 ?dc_7 ?dk_7) (K45.td_mk KX G ?da_8 ?dl_8 ?dc_8 ?dk_8) (K45.td_mk KX G ?da_9 ?dl_9 ?dc_9 ?dk_9) (K45.td_mk KX G ?da_10 ?dl_10 ?dc_10 ?dk_10) (K45.td_mk KX G ?da_11 ?dl_11 ?dc_11 ?dk_11) (K45.td_mk KX G ?da_12 ?dl_12 ?dc_12 ?dk_12) (K45.td_mk KX G ?da_13 ?dl_13 ?dc_13 ?dk_13) (K45.td_mk KX G ?da_14 ?dl_14 ?dc_14 ?dk_14) (K45.td_mk KX G ?da_15 ?dl_15 ?dc_15 ?dk_15) (K45.td_mk KX G ?da_16 ?dl_16 ?dc_16 ?dk_16) (K45.td_mk KX G ?da_17 ?dl_17 ?dc_17 ?dk_17) (K45.td_mk KX G ?da_18 ?dl_18 ?dc_18 ?dk_18) (K45.td_mk KX G ?da_19 ?dl_19 ?dc_19 ?dk_19) (K45.td_mk KX G ?da_20 ?dl_20 ?dc_20 ?dk_20) (K45.td_mk KX G ?da_21 ?dl_21 ?dc_21 ?dk_21) (K45.td_mk KX G ?da_22 ?dl_22 ?dc_22 ?dk_22) (K45.td_mk KX G ?da_23 ?dl_23 ?dc_23 ?dk_23) (K45.td_mk KX G ?da_24 ?dl_24 ?dc_24 ?dk_24) (K45.td_mk KX G ?da_25 ?dl_25 ?dc_25 ?dk_25) (K45.td_mk KX G ?da_26 ?dl_26 ?dc_26 ?dk_26) (K45.td_mk KX G ?da_27 ?dl_27 ?dc_27 ?dk_27) (K45.td_mk KX G ?da_28 ?dl_28 ?dc_28 ?dk_28) (K45.td_mk KX G ?da_29 ?dl_29 ?dc_29 ?dk_29) (K45.td_mk KX G ?da_30 ?dl_30 ?dc_30 ?dk_30) (K45.td_mk KX G ?da_31 ?dl_31 ?dc_31 ?dk_31) (K45.td_mk KX G ?da_32 ?dl_32 ?dc_32 ?dk_32) (K45.td_mk KX G ?da_33 ?dl_33 ?dc_33 ?dk_33) (K45.td_mk KX G ?da_34 ?dl_34 ?dc_34 ?dk_34) (K45.td_mk KX G ?da_35 ?dl_35 ?dc_35 ?dk_35) (K45.td_mk KX G ?da_36 ?dl_36 ?dc_36 ?dk_36) (K45.td_mk KX G ?da_37 ?dl_37 ?dc_37 ?dk_37) (K45.td_mk KX G ?da_38 ?dl_38 ?dc_38 ?dk_38) (K45.td_mk KX G ?da_39 ?dl_39 ?dc_39 ?dk_39) (K45.td_mk KX G ?da_40 ?dl_40 ?dc_40 ?dk_40) (K45.td_mk KX G ?da_41 ?dl_41 ?dc_41 ?dk_41) (K45.td_mk KX G ?da_42 ?dl_42 ?dc_42 ?dk_42) (K45.td_mk KX G ?da_43 ?dl_43 ?dc_43 ?dk_43) (K45.td_mk KX G ?da_44 ?dl_44 ?dc_44 ?dk_44) (K45.td_mk KX G ?da_45 ?dl_45 ?dc_45 ?dk_45) (K45.td_mk KX G ?da_46 ?dl_46 ?dc_46 ?dk_46) (K45.td_mk KX G ?da_47 ?dl_47 ?dc_47 ?dk_47) (K45.td_mk KX G ?da_48 ?dl_48 ?dc_48 ?dk_48) (K45.td_mk KX G ?da_49 ?dl_49 ?dc_49 ?dk_49) (K45.td_mk KX G ?da_50 ?dl_50 ?dc_50 ?dk_50) (K45.td_mk KX G ?da_51 ?dl_51 ?dc_51 ?dk_51) (K45.td_mk KX G ?da_52 ?dl_52 ?dc_52 ?dk_52) (K45.td_mk KX G ?da_53 ?dl_53 ?dc_53 ?dk_53) (K45.td_mk KX G ?da_54 ?dl_54 ?dc_54 ?dk_54) (K45.td_mk KX G ?da_55 ?dl_55 ?dc_55 ?dk_55) (K45.td_mk KX G ?da_56 ?dl_56 ?dc_56 ?dk_56) (K45.td_mk KX G ?da_57 ?dl_57 ?dc_57 ?dk_57) (K45.td_mk KX G ?da_58 ?dl_58 ?dc_58 ?dk_58) (K45.td_mk KX G ?da_59 ?dl_59 ?dc_59 ?dk_59) (K45.td_mk KX G ?da_60 ?dl_60 ?dc_60 ?dk_60) (K45.td_mk KX G ?da_61 ?dl_61 ?dc_61 ?dk_61) (K45.td_mk KX G ?da_62 ?dl_62 ?dc_62 ?dk_62) (K45.td_mk KX G ?da_63 ?dl_63 ?dc_63 ?dk_63) (K45.td_mk KX G ?da_64 ?dl_64 ?dc_64 ?dk_64) ⟨?e0_BadChance, ?e1_BadChance, ?e2_BadChance, ?e3_BadChance, ?e4_BadChance, ?e5_BadChance, ?e6_BadChance, ?e7_BadChance⟩ ?s_BadChance_BookError ?k_BadChance_BookError ?s_BadChance_ZeroBottom ?k_BadChance_ZeroBottom ?s_BadChance_BadName ?k_BadChance_BadName ?s_BadChance_BadSize ?k_BadChance_BadSize ?s_BadChance_NotTable ?k_BadChance_NotTable ?s_BadChance_NotWhole ?k_BadChance_NotWhole ?s_BadChance_NotRounding ?k_BadChance_NotRounding ?s_BadChance_BadChance ?k_BadChance_BadChance ?s_BadChance_Book ?k_BadChance_Book ?k_BadChance_VE ⟨?e0_BadSize, ?e1_BadSize, ?e2_BadSize, ?e3_BadSize, ?e4_BadSize, ?e5_BadSize, ?e6_BadSize, ?e7_BadSize⟩ ?s_BadSize_BookError ?k_BadSize_BookError ?s_BadSize_ZeroBottom ?k_BadSize_ZeroBottom ?s_BadSize_BadName ?k_BadSize_BadName ?s_BadSize_BadSize ?k_BadSize_BadSize ?s_BadSize_NotTable ?k_BadSize_NotTable ?s_BadSize_NotWhole ?k_BadSize_NotWhole ?s_BadSize_NotRounding ?k_BadSize_NotRounding ?s_BadSize_BadChance ?k_BadSize_BadChance ?s_BadSize_Book ?k_BadSize_Book ?k_BadSize_VE ⟨?e0_NotRounding, ?e1_NotRounding, ?e2_NotRounding, ?e3_NotRounding, ?e4_NotRounding, ?e5_NotRounding, ?e6_NotRounding, ?e7_NotRounding⟩ ?s_NotRounding_BookError ?k_NotRounding_BookError ?s_NotRounding_ZeroBottom ?k_NotRounding_ZeroBottom ?s_NotRounding_BadName ?k_NotRounding_BadName ?s_NotRounding_BadSize ?k_NotRounding_BadSize ?s_NotRounding_NotTable ?k_NotRounding_NotTable ?s_NotRounding_NotWhole ?k_NotRounding_NotWhole ?s_NotRounding_NotRounding ?k_NotRounding_NotRounding ?s_NotRounding_BadChance ?k_NotRounding_BadChance ?s_NotRounding_Book ?k_NotRounding_Book ?k_NotRounding_VE ⟨?e0_NotTable, ?e1_NotTable, ?e2_NotTable, ?e3_NotTable, ?e4_NotTable, ?e5_NotTable, ?e6_NotTable, ?e7_NotTable⟩ ?s_NotTable_BookError ?k_NotTable_BookError ?s_NotTable_ZeroBottom ?k_NotTable_ZeroBottom ?s_NotTable_BadName ?k_NotTable_BadName ?s_NotTable_BadSize ?k_NotTable_BadSize ?s_NotTable_NotTable ?k_NotTable_NotTable ?s_NotTable_NotWhole ?k_NotTable_NotWhole ?s_NotTable_NotRounding ?k_NotTable_NotRounding ?s_NotTable_BadChance ?k_NotTable_BadChance ?s_NotTable_Book ?k_NotTable_Book ?k_NotTable_VE ⟨?e0_NotWhole, ?e1_NotWhole, ?e2_NotWhole, ?e3_NotWhole, ?e4_NotWhole, ?e5_NotWhole, ?e6_NotWhole, ?e7_NotWhole⟩ ?s_NotWhole_BookError ?k_NotWhole_BookError ?s_NotWhole_ZeroBottom ?k_NotWhole_ZeroBottom ?s_NotWhole_BadName ?k_NotWhole_BadName ?s_NotWhole_BadSize ?k_NotWhole_BadSize ?s_NotWhole_NotTable ?k_NotWhole_NotTable ?s_NotWhole_NotWhole ?k_NotWhole_NotWhole ?s_NotWhole_NotRounding ?k_NotWhole_NotRounding ?s_NotWhole_BadChance ?k_NotWhole_BadChance ?s_NotWhole_Book ?k_NotWhole_Book ?k_NotWhole_VE
    (case zb_ValueError => k_is)
    (case zb_abs => k_is)
    (case zb_all => k_is)
    (case zb_bool => k_is)
    (case zb_classmethod => k_is)
    (case zb_enumerate => k_is)
    (case zb_int => k_is)
    (case zb_isinstance => k_is)
    (case zb_len => k_is)
    (case zb_list => k_is)
    (case zb_max => k_is)
    (case zb_range => k_is)
    (case zb_set => k_is)
    (case zb_str => k_is)
    (case zb_tuple => k_is)
    (case zb_zip => k_is)
    (case zm_gcd => k_is)
    (case zm_lcm => k_is)
    (case xg_BookError => k_is)
    (case xe_BookError => k_exc)
    (case xk_BookError => k_is)
    (case xb_BookError => k_is)
    (case xt_BookError => k_is)
    (case xh_BookError => k_is)
    (case xg_ZeroBottom => k_is)
    (case xe_ZeroBottom => k_exc)
    (case xk_ZeroBottom => k_is)
    (case xb_ZeroBottom => k_is)
    (case xt_ZeroBottom => k_is)
    (case xh_ZeroBottom => k_is)
    (case xg_BadName => k_is)
    (case xe_BadName => k_exc)
    (case xk_BadName => k_is)
    (case xb_BadName => k_is)
    (case xt_BadName => k_is)
    (case xh_BadName => k_is)
    (case xg_BadSize => k_is)
    (case xe_BadSize => k_exc)
    (case xk_BadSize => k_is)
    (case xb_BadSize => k_is)
    (case xt_BadSize => k_is)
    (case xh_BadSize => k_is)
    (case xg_NotTable => k_is)
    (case xe_NotTable => k_exc)
    (case xk_NotTable => k_is)
    (case xb_NotTable => k_is)
    (case xt_NotTable => k_is)
    (case xh_NotTable => k_is)
    (case xg_NotWhole => k_is)
    (case xe_NotWhole => k_exc)
    (case xk_NotWhole => k_is)
    (case xb_NotWhole => k_is)
    (case xt_NotWhole => k_is)
    (case xh_NotWhole => k_is)
    (case xg_NotRounding => k_is)
    (case xe_NotRounding => k_exc)
    (case xk_NotRounding => k_is)
    (case xb_NotRounding => k_is)
    (case xt_NotRounding => k_is)
    (case xh_NotRounding => k_is)
    (case xg_BadChance => k_is)
    (case xe_BadChance => k_exc)
    (case xk_BadChance => k_is)
    (case xb_BadChance => k_is)
    (case xt_BadChance => k_is)
    (case xh_BadChance => k_is)
    (case ig_Book => first | k_is | rfl | decide +kernel)
    (case ifi_Book => first | k_is | rfl | decide +kernel)
    (case il_Book => first | k_is | rfl | decide +kernel)
    (case icd_Book => first | k_is | rfl | decide +kernel)
    (case ikf_Book => first | k_is | rfl | decide +kernel)
    (case imk_Book => first | k_is | rfl | decide +kernel)
    (case ifn_Book => first | k_is | rfl | decide +kernel)
    (case ikp_Book => first | k_is | rfl | decide +kernel)
    (case ipg_Book => first | k_is | rfl | decide +kernel)
    (case ihd_Book => first | k_is | rfl | decide +kernel)
    (case ipo_Book => first | k_is | rfl | decide +kernel)
    (case isa_Book => first | k_is | rfl | decide +kernel)
    (case in0_Book => first | k_is | rfl | decide +kernel)
    (case in1_Book => first | k_is | rfl | decide +kernel)
    (case in2_Book => first | k_is | rfl | decide +kernel)
    (case trd_Book_free => first | k_is | rfl | decide +kernel)
    (case tga_Book_free => first | k_is | rfl | decide +kernel)
    (case tat_Book_free => first | k_is | rfl | decide +kernel)
    (case trc_Book_free => first | k_is | rfl | decide +kernel)
    (case tfi_Book_free => first | k_is | rfl | decide +kernel)
    (case tl_Book_free => first | k_is | rfl | decide +kernel)
    (case tcd_Book_free => first | k_is | rfl | decide +kernel)
    (case tkf_Book_free => first | k_is | rfl | decide +kernel)
    (case zs_LETTERS => k_is)
    (case zs_DIGITS => k_is)
    (case zc_MOST_CELLS => k_is)
    (case zc_MOST_SIGNS => k_is)
    (case da_0 => k_is)
    (case dl_0 => k_is)
    (case dc_0 => k_is)
    (case dk_0 => k_is)
    (case da_1 => k_is)
    (case dl_1 => k_is)
    (case dc_1 => k_is)
    (case dk_1 => k_is)
    (case da_2 => k_is)
    (case dl_2 => k_is)
    (case dc_2 => k_is)
    (case dk_2 => k_is)
    (case da_3 => k_is)
    (case dl_3 => k_is)
    (case dc_3 => k_is)
    (case dk_3 => k_is)
    (case da_4 => k_is)
    (case dl_4 => k_is)
    (case dc_4 => k_is)
    (case dk_4 => k_is)
    (case da_5 => k_is)
    (case dl_5 => k_is)
    (case dc_5 => k_is)
    (case dk_5 => k_is)
    (case da_6 => k_is)
    (case dl_6 => k_is)
    (case dc_6 => k_is)
    (case dk_6 => k_is)
    (case da_7 => k_is)
    (case dl_7 => k_is)
    (case dc_7 => k_is)
    (case dk_7 => k_is)
    (case da_8 => k_is)
    (case dl_8 => k_is)
    (case dc_8 => k_is)
    (case dk_8 => k_is)
    (case da_9 => k_is)
    (case dl_9 => k_is)
    (case dc_9 => k_is)
    (case dk_9 => k_is)
    (case da_10 => k_is)
    (case dl_10 => k_is)
    (case dc_10 => k_is)
    (case dk_10 => k_is)
    (case da_11 => k_is)
    (case dl_11 => k_is)
    (case dc_11 => k_is)
    (case dk_11 => k_is)
    (case da_12 => k_is)
    (case dl_12 => k_is)
    (case dc_12 => k_is)
    (case dk_12 => k_is)
    (case da_13 => k_is)
    (case dl_13 => k_is)
    (case dc_13 => k_is)
    (case dk_13 => k_is)
    (case da_14 => k_is)
    (case dl_14 => k_is)
    (case dc_14 => k_is)
    (case dk_14 => k_is)
    (case da_15 => k_is)
    (case dl_15 => k_is)
    (case dc_15 => k_is)
    (case dk_15 => k_is)
    (case da_16 => k_is)
    (case dl_16 => k_is)
    (case dc_16 => k_is)
    (case dk_16 => k_is)
    (case da_17 => k_is)
    (case dl_17 => k_is)
    (case dc_17 => k_is)
    (case dk_17 => k_is)
    (case da_18 => k_is)
    (case dl_18 => k_is)
    (case dc_18 => k_is)
    (case dk_18 => k_is)
    (case da_19 => k_is)
    (case dl_19 => k_is)
    (case dc_19 => k_is)
    (case dk_19 => k_is)
    (case da_20 => k_is)
    (case dl_20 => k_is)
    (case dc_20 => k_is)
    (case dk_20 => k_is)
    (case da_21 => k_is)
    (case dl_21 => k_is)
    (case dc_21 => k_is)
    (case dk_21 => k_is)
    (case da_22 => k_is)
    (case dl_22 => k_is)
    (case dc_22 => k_is)
    (case dk_22 => k_is)
    (case da_23 => k_is)
    (case dl_23 => k_is)
    (case dc_23 => k_is)
    (case dk_23 => k_is)
    (case da_24 => k_is)
    (case dl_24 => k_is)
    (case dc_24 => k_is)
    (case dk_24 => k_is)
    (case da_25 => k_is)
    (case dl_25 => k_is)
    (case dc_25 => k_is)
    (case dk_25 => k_is)
    (case da_26 => k_is)
    (case dl_26 => k_is)
    (case dc_26 => k_is)
    (case dk_26 => k_is)
    (case da_27 => k_is)
    (case dl_27 => k_is)
    (case dc_27 => k_is)
    (case dk_27 => k_is)
    (case da_28 => k_is)
    (case dl_28 => k_is)
    (case dc_28 => k_is)
    (case dk_28 => k_is)
    (case da_29 => k_is)
    (case dl_29 => k_is)
    (case dc_29 => k_is)
    (case dk_29 => k_is)
    (case da_30 => k_is)
    (case dl_30 => k_is)
    (case dc_30 => k_is)
    (case dk_30 => k_is)
    (case da_31 => k_is)
    (case dl_31 => k_is)
    (case dc_31 => k_is)
    (case dk_31 => k_is)
    (case da_32 => k_is)
    (case dl_32 => k_is)
    (case dc_32 => k_is)
    (case dk_32 => k_is)
    (case da_33 => k_is)
    (case dl_33 => k_is)
    (case dc_33 => k_is)
    (case dk_33 => k_is)
    (case da_34 => k_is)
    (case dl_34 => k_is)
    (case dc_34 => k_is)
    (case dk_34 => k_is)
    (case da_35 => k_is)
    (case dl_35 => k_is)
    (case dc_35 => k_is)
    (case dk_35 => k_is)
    (case da_36 => k_is)
    (case dl_36 => k_is)
    (case dc_36 => k_is)
    (case dk_36 => k_is)
    (case da_37 => k_is)
    (case dl_37 => k_is)
    (case dc_37 => k_is)
    (case dk_37 => k_is)
    (case da_38 => k_is)
    (case dl_38 => k_is)
    (case dc_38 => k_is)
    (case dk_38 => k_is)
    (case da_39 => k_is)
    (case dl_39 => k_is)
    (case dc_39 => k_is)
    (case dk_39 => k_is)
    (case da_40 => k_is)
    (case dl_40 => k_is)
    (case dc_40 => k_is)
    (case dk_40 => k_is)
    (case da_41 => k_is)
    (case dl_41 => k_is)
    (case dc_41 => k_is)
    (case dk_41 => k_is)
    (case da_42 => k_is)
    (case dl_42 => k_is)
    (case dc_42 => k_is)
    (case dk_42 => k_is)
    (case da_43 => k_is)
    (case dl_43 => k_is)
    (case dc_43 => k_is)
    (case dk_43 => k_is)
    (case da_44 => k_is)
    (case dl_44 => k_is)
    (case dc_44 => k_is)
    (case dk_44 => k_is)
    (case da_45 => k_is)
    (case dl_45 => k_is)
    (case dc_45 => k_is)
    (case dk_45 => k_is)
    (case da_46 => k_is)
    (case dl_46 => k_is)
    (case dc_46 => k_is)
    (case dk_46 => k_is)
    (case da_47 => k_is)
    (case dl_47 => k_is)
    (case dc_47 => k_is)
    (case dk_47 => k_is)
    (case da_48 => k_is)
    (case dl_48 => k_is)
    (case dc_48 => k_is)
    (case dk_48 => k_is)
    (case da_49 => k_is)
    (case dl_49 => k_is)
    (case dc_49 => k_is)
    (case dk_49 => k_is)
    (case da_50 => k_is)
    (case dl_50 => k_is)
    (case dc_50 => k_is)
    (case dk_50 => k_is)
    (case da_51 => k_is)
    (case dl_51 => k_is)
    (case dc_51 => k_is)
    (case dk_51 => k_is)
    (case da_52 => k_is)
    (case dl_52 => k_is)
    (case dc_52 => k_is)
    (case dk_52 => k_is)
    (case da_53 => k_is)
    (case dl_53 => k_is)
    (case dc_53 => k_is)
    (case dk_53 => k_is)
    (case da_54 => k_is)
    (case dl_54 => k_is)
    (case dc_54 => k_is)
    (case dk_54 => k_is)
    (case da_55 => k_is)
    (case dl_55 => k_is)
    (case dc_55 => k_is)
    (case dk_55 => k_is)
    (case da_56 => k_is)
    (case dl_56 => k_is)
    (case dc_56 => k_is)
    (case dk_56 => k_is)
    (case da_57 => k_is)
    (case dl_57 => k_is)
    (case dc_57 => k_is)
    (case dk_57 => k_is)
    (case da_58 => k_is)
    (case dl_58 => k_is)
    (case dc_58 => k_is)
    (case dk_58 => k_is)
    (case da_59 => k_is)
    (case dl_59 => k_is)
    (case dc_59 => k_is)
    (case dk_59 => k_is)
    (case da_60 => k_is)
    (case dl_60 => k_is)
    (case dc_60 => k_is)
    (case dk_60 => k_is)
    (case da_61 => k_is)
    (case dl_61 => k_is)
    (case dc_61 => k_is)
    (case dk_61 => k_is)
    (case da_62 => k_is)
    (case dl_62 => k_is)
    (case dc_62 => k_is)
    (case dk_62 => k_is)
    (case da_63 => k_is)
    (case dl_63 => k_is)
    (case dc_63 => k_is)
    (case dk_63 => k_is)
    (case da_64 => k_is)
    (case dl_64 => k_is)
    (case dc_64 => k_is)
    (case dk_64 => k_is)
    (case e0_BadChance => k_is)
    (case e1_BadChance => k_is)
    (case e2_BadChance => k_is)
    (case e3_BadChance => k_is)
    (case e4_BadChance => k_is)
    (case e5_BadChance => k_is)
    (case e6_BadChance => k_is)
    (case e7_BadChance => k_is)
    (case s_BadChance_BookError => first | rfl | k_is)
    (case k_BadChance_BookError => first | k_is | rfl)
    (case s_BadChance_ZeroBottom => first | rfl | k_is)
    (case k_BadChance_ZeroBottom => first | k_is | rfl)
    (case s_BadChance_BadName => first | rfl | k_is)
    (case k_BadChance_BadName => first | k_is | rfl)
    (case s_BadChance_BadSize => first | rfl | k_is)
    (case k_BadChance_BadSize => first | k_is | rfl)
    (case s_BadChance_NotTable => first | rfl | k_is)
    (case k_BadChance_NotTable => first | k_is | rfl)
    (case s_BadChance_NotWhole => first | rfl | k_is)
    (case k_BadChance_NotWhole => first | k_is | rfl)
    (case s_BadChance_NotRounding => first | rfl | k_is)
    (case k_BadChance_NotRounding => first | k_is | rfl)
    (case s_BadChance_BadChance => first | rfl | k_is)
    (case k_BadChance_BadChance => first | k_is | rfl)
    (case s_BadChance_Book => first | rfl | k_is)
    (case k_BadChance_Book => first | k_is | rfl)
    (case k_BadChance_VE => first | k_is | rfl)
    (case e0_BadSize => k_is)
    (case e1_BadSize => k_is)
    (case e2_BadSize => k_is)
    (case e3_BadSize => k_is)
    (case e4_BadSize => k_is)
    (case e5_BadSize => k_is)
    (case e6_BadSize => k_is)
    (case e7_BadSize => k_is)
    (case s_BadSize_BookError => first | rfl | k_is)
    (case k_BadSize_BookError => first | k_is | rfl)
    (case s_BadSize_ZeroBottom => first | rfl | k_is)
    (case k_BadSize_ZeroBottom => first | k_is | rfl)
    (case s_BadSize_BadName => first | rfl | k_is)
    (case k_BadSize_BadName => first | k_is | rfl)
    (case s_BadSize_BadSize => first | rfl | k_is)
    (case k_BadSize_BadSize => first | k_is | rfl)
    (case s_BadSize_NotTable => first | rfl | k_is)
    (case k_BadSize_NotTable => first | k_is | rfl)
    (case s_BadSize_NotWhole => first | rfl | k_is)
    (case k_BadSize_NotWhole => first | k_is | rfl)
    (case s_BadSize_NotRounding => first | rfl | k_is)
    (case k_BadSize_NotRounding => first | k_is | rfl)
    (case s_BadSize_BadChance => first | rfl | k_is)
    (case k_BadSize_BadChance => first | k_is | rfl)
    (case s_BadSize_Book => first | rfl | k_is)
    (case k_BadSize_Book => first | k_is | rfl)
    (case k_BadSize_VE => first | k_is | rfl)
    (case e0_NotRounding => k_is)
    (case e1_NotRounding => k_is)
    (case e2_NotRounding => k_is)
    (case e3_NotRounding => k_is)
    (case e4_NotRounding => k_is)
    (case e5_NotRounding => k_is)
    (case e6_NotRounding => k_is)
    (case e7_NotRounding => k_is)
    (case s_NotRounding_BookError => first | rfl | k_is)
    (case k_NotRounding_BookError => first | k_is | rfl)
    (case s_NotRounding_ZeroBottom => first | rfl | k_is)
    (case k_NotRounding_ZeroBottom => first | k_is | rfl)
    (case s_NotRounding_BadName => first | rfl | k_is)
    (case k_NotRounding_BadName => first | k_is | rfl)
    (case s_NotRounding_BadSize => first | rfl | k_is)
    (case k_NotRounding_BadSize => first | k_is | rfl)
    (case s_NotRounding_NotTable => first | rfl | k_is)
    (case k_NotRounding_NotTable => first | k_is | rfl)
    (case s_NotRounding_NotWhole => first | rfl | k_is)
    (case k_NotRounding_NotWhole => first | k_is | rfl)
    (case s_NotRounding_NotRounding => first | rfl | k_is)
    (case k_NotRounding_NotRounding => first | k_is | rfl)
    (case s_NotRounding_BadChance => first | rfl | k_is)
    (case k_NotRounding_BadChance => first | k_is | rfl)
    (case s_NotRounding_Book => first | rfl | k_is)
    (case k_NotRounding_Book => first | k_is | rfl)
    (case k_NotRounding_VE => first | k_is | rfl)
    (case e0_NotTable => k_is)
    (case e1_NotTable => k_is)
    (case e2_NotTable => k_is)
    (case e3_NotTable => k_is)
    (case e4_NotTable => k_is)
    (case e5_NotTable => k_is)
    (case e6_NotTable => k_is)
    (case e7_NotTable => k_is)
    (case s_NotTable_BookError => first | rfl | k_is)
    (case k_NotTable_BookError => first | k_is | rfl)
    (case s_NotTable_ZeroBottom => first | rfl | k_is)
    (case k_NotTable_ZeroBottom => first | k_is | rfl)
    (case s_NotTable_BadName => first | rfl | k_is)
    (case k_NotTable_BadName => first | k_is | rfl)
    (case s_NotTable_BadSize => first | rfl | k_is)
    (case k_NotTable_BadSize => first | k_is | rfl)
    (case s_NotTable_NotTable => first | rfl | k_is)
    (case k_NotTable_NotTable => first | k_is | rfl)
    (case s_NotTable_NotWhole => first | rfl | k_is)
    (case k_NotTable_NotWhole => first | k_is | rfl)
    (case s_NotTable_NotRounding => first | rfl | k_is)
    (case k_NotTable_NotRounding => first | k_is | rfl)
    (case s_NotTable_BadChance => first | rfl | k_is)
    (case k_NotTable_BadChance => first | k_is | rfl)
    (case s_NotTable_Book => first | rfl | k_is)
    (case k_NotTable_Book => first | k_is | rfl)
    (case k_NotTable_VE => first | k_is | rfl)
    (case e0_NotWhole => k_is)
    (case e1_NotWhole => k_is)
    (case e2_NotWhole => k_is)
    (case e3_NotWhole => k_is)
    (case e4_NotWhole => k_is)
    (case e5_NotWhole => k_is)
    (case e6_NotWhole => k_is)
    (case e7_NotWhole => k_is)
    (case s_NotWhole_BookError => first | rfl | k_is)
    (case k_NotWhole_BookError => first | k_is | rfl)
    (case s_NotWhole_ZeroBottom => first | rfl | k_is)
    (case k_NotWhole_ZeroBottom => first | k_is | rfl)
    (case s_NotWhole_BadName => first | rfl | k_is)
    (case k_NotWhole_BadName => first | k_is | rfl)
    (case s_NotWhole_BadSize => first | rfl | k_is)
    (case k_NotWhole_BadSize => first | k_is | rfl)
    (case s_NotWhole_NotTable => first | rfl | k_is)
    (case k_NotWhole_NotTable => first | k_is | rfl)
    (case s_NotWhole_NotWhole => first | rfl | k_is)
    (case k_NotWhole_NotWhole => first | k_is | rfl)
    (case s_NotWhole_NotRounding => first | rfl | k_is)
    (case k_NotWhole_NotRounding => first | k_is | rfl)
    (case s_NotWhole_BadChance => first | rfl | k_is)
    (case k_NotWhole_BadChance => first | k_is | rfl)
    (case s_NotWhole_Book => first | rfl | k_is)
    (case k_NotWhole_Book => first | k_is | rfl)
    (case k_NotWhole_VE => first | k_is | rfl)
