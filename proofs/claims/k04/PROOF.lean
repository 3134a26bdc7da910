import PyProof.Rows.All
import Wide.All
import OpenK.AllK
import Wide.FinOn
import HandS.ForMost
import HandS.ForExc
import HandS.Gcd
import HandS.Wide
import HandS.WideMore
import HandS.IsInst
import HandS.ExcIs
import HandS.Style
import HandS.Zip
import HandS.FStr
import HandS.Flow
import HandS.Deep
import HandS.List
import HandS.ExcInit
import HandS.ExcField
import HandS.Star
import HandS.SetFor
import HandS.Strs
import HandS.ClsMeth
import HandS.CallLocal
import HandS.Flt
import HandS.Conv
import PySem.Challenge.RW_fineststep_k04_settled_cells
import Open.SpecLaws
set_option Elab.async false
set_option linter.all false
set_option maxRecDepth 100000
set_option maxHeartbeats 4000000
set_option Elab.async false
set_option linter.all false
set_option maxRecDepth 100000
set_option maxHeartbeats 4000000
/-! A layer of data: what an expression is worth, a def at a time, over the hand layer. -/
namespace DL
open PySem PySem.Spec PyProof.Rows L2

/-! ### what a value is worth, by a heap that only grows -/
structure Rep where
  P : Hp → V → Prop
  mono : ∀ {F F' : Hp} {v : V}, Same F F' → P F v → P F' v
def RL (F : Hp) (l : List Rep) (vs : List V) : Prop := Paired (fun (r : Rep) v => r.P F v) l vs
theorem RL.mono {F F' : Hp} (s : Same F F') : ∀ {l : List Rep} {vs : List V}, RL F l vs → RL F' l vs
  | _, _, .nil => .nil
  | _, _, .cons h t => .cons (Rep.mono _ s h) (RL.mono s t)
theorem RL.len {F : Hp} {l : List Rep} {vs : List V} (h : RL F l vs) : l.length = vs.length := Paired.length h
theorem RL.get {F : Hp} : ∀ {l : List Rep} {vs : List V} {i : Nat} {r : Rep}, RL F l vs → l[i]? = some r → ∃ v, vs[i]? = some v ∧ r.P F v
  | _, _, _, _, .nil, e => by simp at e
  | _, _, 0, _, .cons h _, e => by simp at e; subst e; exact ⟨_, rfl, h⟩
  | _, _, i + 1, r, .cons _ t, e => by
    obtain ⟨v, h1, h2⟩ := RL.get (i := i) (r := r) t (by simpa using e)
    exact ⟨v, by simpa using h1, h2⟩
theorem RL.got {F : Hp} : ∀ {l : List Rep} {vs : List V} {i : Nat} {v : V}, RL F l vs → vs[i]? = some v → ∃ r, l[i]? = some r ∧ r.P F v
  | _, _, _, _, .nil, e => by simp at e
  | _, _, 0, _, .cons h _, e => by simp at e; subst e; exact ⟨_, rfl, h⟩
  | _, _, i + 1, v, .cons _ t, e => by
    obtain ⟨r, h1, h2⟩ := RL.got (i := i) (v := v) t (by simpa using e)
    exact ⟨r, by simpa using h1, h2⟩
theorem RL.app {F : Hp} : ∀ {l m : List Rep} {vs ws : List V}, RL F l vs → RL F m ws → RL F (l ++ m) (vs ++ ws)
  | _, _, _, _, .nil, s => s
  | _, _, _, _, .cons h t, s => .cons h (RL.app t s)
theorem RL.take {F : Hp} : ∀ {l : List Rep} {vs : List V} (n : Nat), RL F l vs → RL F (l.take n) (vs.take n)
  | _, _, 0, _ => .nil
  | _, _, _ + 1, .nil => .nil
  | _, _, n + 1, .cons h t => .cons h (RL.take n t)
theorem RL.drop {F : Hp} : ∀ {l : List Rep} {vs : List V} (n : Nat), RL F l vs → RL F (l.drop n) (vs.drop n)
  | _, _, 0, r => r
  | _, _, _ + 1, .nil => .nil
  | _, _, n + 1, .cons _ t => RL.drop n t
theorem RL.set {F : Hp} {r : Rep} {v : V} (h : r.P F v) : ∀ {l : List Rep} {vs : List V} (i : Nat), RL F l vs → RL F (l.set i r) (vs.set i v)
  | _, _, _, .nil => .nil
  | _, _, 0, .cons _ t => .cons h t
  | _, _, i + 1, .cons q t => .cons q (RL.set h i t)
theorem RL.snoc {F : Hp} {l : List Rep} {vs : List V} {r : Rep} {v : V} (h : RL F l vs) (q : r.P F v) : RL F (l ++ [r]) (vs ++ [v]) := h.app (.cons q .nil)

def rC (v : V) : Rep := ⟨fun _ x => x = v, fun _ h => h⟩
abbrev rInt (i : Int) : Rep := rC (.int i)
abbrev rBl (b : Bool) : Rep := rC (.bl b)
abbrev rStr (s : Str) : Rep := rC (.str s)
abbrev rNon : Rep := rC .non
theorem sqt_mono {K : PySem.W.Frag} {H H' : Hp} {a : Addr} {xs : List V} (e : Same H H') (h : SqT K H a xs) : SqT K H' a xs := by
  rcases h with (h | ⟨o, h⟩) | h
  · exact .inl (.inl (e _ _ h))
  · exact .inl (.inr ⟨o, e _ _ h⟩)
  · exact .inr h
def rTup (K : PySem.W.Frag) (l : List Rep) : Rep := ⟨fun F x => ∃ a vs, x = .ref a ∧ SqT K F a vs ∧ RL F l vs, fun s ⟨a, vs, e, h, q⟩ => ⟨a, vs, e, sqt_mono s h, q.mono s⟩⟩
def rLst (K : PySem.W.Frag) (l : List Rep) : Rep := ⟨fun F x => ∃ a vs, x = .ref a ∧ SqL K F a vs ∧ RL F l vs, fun s ⟨a, vs, e, h, q⟩ => ⟨a, vs, e, s.seq h, q.mono s⟩⟩
/-- a number: a whole one, or a pair in lowest terms -/
def rNum (K : PySem.W.Frag) (q : Rat) : Rep := if q.den = 1 then rInt q.num else rTup K [rInt q.num, rInt (q.den : Int)]
/-- one is worth what the other is worth -/
def Sub (r r' : Rep) : Prop := ∀ F v, r.P F v → r'.P F v
theorem Sub.rfl {r : Rep} : Sub r r := fun _ _ h => h
theorem Sub.of {r r' : Rep} (e : r = r') : Sub r r' := e ▸ Sub.rfl
theorem Sub.trans {a b c : Rep} (h : Sub a b) (k : Sub b c) : Sub a c := fun F v q => k F v (h F v q)

/-! ### growth: F the part that stands still, H the heap -/
structure Gr (F H F' H' : Hp) : Prop where
  f : Same F F'
  h : Same H H'
  s : Same F' H'
  n : ∀ a, H a ≠ none → F a = none → F' a = none
theorem Gr.refl {F H : Hp} (s : Same F H) : Gr F H F H := ⟨Same.refl _, Same.refl _, s, fun _ _ h => h⟩
theorem Gr.trans {F H F1 H1 F2 H2 : Hp} (a : Gr F H F1 H1) (b : Gr F1 H1 F2 H2) : Gr F H F2 H2 :=
  ⟨a.f.trans b.f, a.h.trans b.h, b.s, fun x h e => b.n x (fun z => h (a.h.free z)) (a.n x h e)⟩
theorem same_new {H : Hp} {p : Addr} {o : HO} (h : H p = none) : Same H (upd H p o) := fun b x e => by
  rw [upd_ne (ne_of_none e h)]
  exact e
theorem same_upd2 {F H : Hp} {p : Addr} {o : HO} (s : Same F H) : Same (upd F p o) (upd H p o) := fun b x e => by
  by_cases hb : b = p
  · subst hb
    rw [upd_same] at e ⊢
    exact e
  · rw [upd_ne hb] at e ⊢
    exact s _ _ e
theorem same_out {F H : Hp} {p : Addr} {o : HO} (s : Same F H) (h : F p = none) : Same F (upd H p o) := fun b x e => by
  rw [upd_ne (ne_of_none e h)]
  exact s _ _ e
/-- a new thing that stands still -/
theorem Gr.new {F H : Hp} {p : Addr} {o : HO} (s : Same F H) (h : H p = none) : Gr F H (upd F p o) (upd H p o) :=
  ⟨same_new (s.free h), same_new h, same_upd2 s, fun a ha e => by
    have hp : a ≠ p := fun z => ha (z ▸ h)
    rw [upd_ne hp]
    exact e⟩
/-- a new thing of one's own -/
theorem Gr.newOwn {F H : Hp} {p : Addr} {o : HO} (s : Same F H) (h : H p = none) : Gr F H F (upd H p o) :=
  ⟨Same.refl _, same_new h, same_out s (s.free h), fun _ _ e => e⟩

/-! ### what the slots hold -/
inductive Sl where
  | any
  | im (r : Rep)
  | ow (l : List Rep)
def Sl.ok (F H : Hp) : Sl → Option V → Prop
  | .any, _ => True
  | .im r, x => ∃ v, x = some v ∧ r.P F v
  | .ow l, x => ∃ p vs, x = some (.ref p) ∧ F p = none ∧ H p = some (.lst vs) ∧ RL F l vs
structure En (F0 H0 F H : Hp) (σ : L2.St) (Γ : List Sl) : Prop where
  gr : Gr F0 H0 F H
  len : Γ.length = σ.length
  ok : ∀ (i : Nat) (s : Sl) (x : Option V), Γ[i]? = some s → σ[i]? = some x → s.ok F H x
  own : ∀ (i : Nat) (p : Addr) (l : List Rep), Γ[i]? = some (.ow l) → σ[i]? = some (some (.ref p)) → H0 p = none
  sep : ∀ (i j : Nat) (p : Addr) (l l' : List Rep), Γ[i]? = some (.ow l) → Γ[j]? = some (.ow l') → σ[i]? = some (some (.ref p)) → σ[j]? = some (some (.ref p)) → i = j
section
variable {F0 H0 F H F' H' : Hp} {σ : L2.St} {Γ : List Sl} {i : Nat} {r : Rep} {l : List Rep} {v : V} {vs : List V} {p : Addr}
theorem En.at (e : En F0 H0 F H σ Γ) {s : Sl} (h : Γ[i]? = some s) : ∃ x, σ[i]? = some x ∧ s.ok F H x := by
  have hi : i < Γ.length := (List.getElem?_eq_some_iff.mp h).1
  have hj : i < σ.length := e.len ▸ hi
  exact ⟨σ[i], List.getElem?_eq_getElem hj, e.ok i s _ h (List.getElem?_eq_getElem hj)⟩
theorem En.im (e : En F0 H0 F H σ Γ) (h : Γ[i]? = some (.im r)) : ∃ v, σ[i]? = some (some v) ∧ r.P F v := by
  obtain ⟨x, h1, v, h2, h3⟩ := e.at h
  exact ⟨v, h2 ▸ h1, h3⟩
theorem En.ow (e : En F0 H0 F H σ Γ) (h : Γ[i]? = some (.ow l)) : ∃ p vs, σ[i]? = some (some (.ref p)) ∧ F p = none ∧ H p = some (.lst vs) ∧ RL F l vs ∧ H0 p = none := by
  obtain ⟨x, h1, p, vs, h2, h3, h4, h5⟩ := e.at h
  subst h2
  exact ⟨p, vs, h1, h3, h4, h5, e.own i p l h h1⟩
theorem En.grow (e : En F0 H0 F H σ Γ) (g : Gr F H F' H') : En F0 H0 F' H' σ Γ where
  gr := e.gr.trans g
  len := e.len
  ok i s x h1 h2 := by
    have q := e.ok i s x h1 h2
    cases s with
    | any => trivial
    | im r =>
      obtain ⟨v, a, b⟩ := q
      exact ⟨v, a, r.mono g.f b⟩
    | ow l =>
      obtain ⟨p, vs, a, b, c, d⟩ := q
      exact ⟨p, vs, a, g.n p (by rw [c]; exact fun z => nomatch z) b, g.h _ _ c, d.mono g.f⟩
  own := e.own
  sep := e.sep
theorem get_set {α : Type} {l : List α} {i j : Nat} {x y : α} (h : (l.set i x)[j]? = some y) : (i = j ∧ y = x) ∨ (i ≠ j ∧ l[j]? = some y) := by
  by_cases hi : i = j
  · subst hi
    have hl : i < l.length := by
      have := (List.getElem?_eq_some_iff.mp h).1
      simpa using this
    rw [List.getElem?_set_self hl] at h
    exact .inl ⟨rfl, (Option.some.inj h).symm⟩
  · rw [List.getElem?_set_ne hi] at h
    exact .inr ⟨hi, h⟩
theorem En.setIm (e : En F0 H0 F H σ Γ) (h : r.P F v) : En F0 H0 F H (σ.set i (some v)) (Γ.set i (.im r)) where
  gr := e.gr
  len := by simpa using e.len
  ok j s x h1 h2 := by
    rcases get_set h1 with ⟨rfl, rfl⟩ | ⟨n, h1⟩
    · rcases get_set h2 with ⟨_, rfl⟩ | ⟨n, _⟩
      · exact ⟨v, rfl, h⟩
      · exact absurd rfl n
    · rcases get_set h2 with ⟨z, _⟩ | ⟨_, h2⟩
      · exact absurd z n
      · exact e.ok j s x h1 h2
  own j p l h1 h2 := by
    rcases get_set h1 with ⟨_, z⟩ | ⟨n, h1⟩
    · cases z
    · rcases get_set h2 with ⟨z, _⟩ | ⟨_, h2⟩
      · exact absurd z n
      · exact e.own j p l h1 h2
  sep j k p l l' h1 h1' h2 h2' := by
    rcases get_set h1 with ⟨_, z⟩ | ⟨n, h1⟩
    · cases z
    rcases get_set h1' with ⟨_, z⟩ | ⟨n', h1'⟩
    · cases z
    rw [List.getElem?_set_ne n] at h2
    rw [List.getElem?_set_ne n'] at h2'
    exact e.sep j k p l l' h1 h1' h2 h2'
theorem En.setAny (e : En F0 H0 F H σ Γ) (x : Option V) : En F0 H0 F H (σ.set i x) (Γ.set i .any) where
  gr := e.gr
  len := by simpa using e.len
  ok j s y h1 h2 := by
    rcases get_set h1 with ⟨rfl, rfl⟩ | ⟨n, h1⟩
    · trivial
    · rcases get_set h2 with ⟨z, _⟩ | ⟨_, h2⟩
      · exact absurd z n
      · exact e.ok j s y h1 h2
  own j p l h1 h2 := by
    rcases get_set h1 with ⟨_, z⟩ | ⟨n, h1⟩
    · cases z
    · rcases get_set h2 with ⟨z, _⟩ | ⟨_, h2⟩
      · exact absurd z n
      · exact e.own j p l h1 h2
  sep j k p l l' h1 h1' h2 h2' := by
    rcases get_set h1 with ⟨_, z⟩ | ⟨n, h1⟩
    · cases z
    rcases get_set h1' with ⟨_, z⟩ | ⟨n', h1'⟩
    · cases z
    rw [List.getElem?_set_ne n] at h2
    rw [List.getElem?_set_ne n'] at h2'
    exact e.sep j k p l l' h1 h1' h2 h2'
/-- a list of one's own, that no slot holds -/
theorem En.setOw (e : En F0 H0 F H σ Γ) (hF : F p = none) (hH : H p = some (.lst vs)) (hr : RL F l vs) (h0 : H0 p = none) (hn : ∀ (j : Nat) (l' : List Rep), Γ[j]? = some (.ow l') → σ[j]? ≠ some (some (.ref p))) :
    En F0 H0 F H (σ.set i (some (.ref p))) (Γ.set i (.ow l)) where
  gr := e.gr
  len := by simpa using e.len
  ok j s x h1 h2 := by
    rcases get_set h1 with ⟨rfl, rfl⟩ | ⟨n, h1⟩
    · rcases get_set h2 with ⟨_, rfl⟩ | ⟨n, _⟩
      · exact ⟨p, vs, rfl, hF, hH, hr⟩
      · exact absurd rfl n
    · rcases get_set h2 with ⟨z, _⟩ | ⟨_, h2⟩
      · exact absurd z n
      · exact e.ok j s x h1 h2
  own j q l h1 h2 := by
    rcases get_set h2 with ⟨rfl, z⟩ | ⟨n, h2⟩
    · cases z
      exact h0
    · rcases get_set h1 with ⟨z, _⟩ | ⟨_, h1⟩
      · exact absurd z n
      · exact e.own j q l h1 h2
  sep j k q l1 l2 h1 h1' h2 h2' := by
    rcases get_set h2 with ⟨rfl, z⟩ | ⟨n, h2⟩
    · cases z
      rcases get_set h2' with ⟨rfl, _⟩ | ⟨n', h2'⟩
      · rfl
      · rcases get_set h1' with ⟨z, _⟩ | ⟨_, h1'⟩
        · exact z
        · exact absurd h2' (hn k l2 h1')
    · rcases get_set h1 with ⟨z, _⟩ | ⟨_, h1⟩
      · exact absurd z n
      rcases get_set h2' with ⟨rfl, z⟩ | ⟨n', h2'⟩
      · cases z
        exact absurd h2 (hn j l1 h1)
      · rcases get_set h1' with ⟨z, _⟩ | ⟨_, h1'⟩
        · exact absurd z n'
        · exact e.sep j k q l1 l2 h1 h1' h2 h2'
/-- a list of one's own is written anew -/
theorem En.put (e : En F0 H0 F H σ Γ) (h : Γ[i]? = some (.ow l)) (hs : σ[i]? = some (some (.ref p))) {l' : List Rep} {ws : List V} (hr : RL F l' ws) : En F0 H0 F (upd H p (.lst ws)) σ (Γ.set i (.ow l')) := by
  obtain ⟨p', vs', h1, h2, h3, h4, h5⟩ := e.ow h
  rw [hs] at h1
  cases h1
  exact {
    gr := ⟨e.gr.f, fun b o z => by rw [upd_ne (ne_of_none z h5)]; exact e.gr.h b o z, same_out e.gr.s h2, e.gr.n⟩
    len := by simpa using e.len
    ok := fun j s x k1 k2 => by
      rcases get_set k1 with ⟨rfl, rfl⟩ | ⟨n, k1⟩
      · rw [hs] at k2
        cases k2
        exact ⟨p, ws, rfl, h2, upd_same, hr⟩
      · have q := e.ok j s x k1 k2
        cases s with
        | any => trivial
        | im r => exact q
        | ow m =>
          obtain ⟨p2, ws2, a, b, c, d⟩ := q
          subst a
          refine ⟨p2, ws2, rfl, b, ?_, d⟩
          have hp : p2 ≠ p := fun z => n (e.sep i j p l m h k1 hs (z ▸ k2))
          rw [upd_ne hp]
          exact c
    own := fun j q m k1 k2 => by
      rcases get_set k1 with ⟨rfl, _⟩ | ⟨n, k1⟩
      · rw [hs] at k2
        cases k2
        exact h5
      · exact e.own j q m k1 k2
    sep := fun j k q m m' k1 k1' k2 k2' => by
      have g : ∀ {j : Nat} {m : List Rep}, (Γ.set i (.ow l'))[j]? = some (.ow m) → ∃ m1, Γ[j]? = some (.ow m1) := fun {j m} k1 => by
        rcases get_set k1 with ⟨rfl, _⟩ | ⟨n, k1⟩
        · exact ⟨l, h⟩
        · exact ⟨m, k1⟩
      obtain ⟨m1, k1⟩ := g k1
      obtain ⟨m2, k1'⟩ := g k1'
      exact e.sep j k q m1 m2 k1 k1' k2 k2' }
/-- a list of one's own stands still from now on -/
theorem En.freeze {K : PySem.W.Frag} (e : En F0 H0 F H σ Γ) (h : Γ[i]? = some (.ow l)) : ∃ F', Same F F' ∧ Same F' H ∧ En F0 H0 F' H σ (Γ.set i (.im (rLst K l))) := by
  obtain ⟨p, vs, h1, h2, h3, h4, h5⟩ := e.ow h
  have s1 : Same F (upd F p (.lst vs)) := same_new h2
  have s2 : Same (upd F p (.lst vs)) H := fun b o z => by
    by_cases hb : b = p
    · subst hb
      rw [upd_same] at z
      rw [h3, ← z]
    · rw [upd_ne hb] at z
      exact e.gr.s b o z
  have nn : ∀ {j : Nat} {q : Addr} {m : List Rep}, j ≠ i → Γ[j]? = some (.ow m) → σ[j]? = some (some (.ref q)) → q ≠ p := fun {j q m} hj k1 k2 z => hj (e.sep j i p m l k1 h (z ▸ k2) h1)
  refine ⟨upd F p (.lst vs), s1, s2, ?_⟩
  exact {
    gr := ⟨e.gr.f.trans s1, e.gr.h, s2, fun a ha z => by
      have hp : a ≠ p := fun y => ha (y ▸ h5)
      rw [upd_ne hp]
      exact e.gr.n a ha z⟩
    len := by simpa using e.len
    ok := fun j s x k1 k2 => by
      rcases get_set k1 with ⟨rfl, rfl⟩ | ⟨n, k1⟩
      · rw [h1] at k2
        cases k2
        exact ⟨.ref p, rfl, p, vs, rfl, SqL.of upd_same, h4.mono s1⟩
      · have q := e.ok j s x k1 k2
        cases s with
        | any => trivial
        | im r =>
          obtain ⟨v, a, b⟩ := q
          exact ⟨v, a, r.mono s1 b⟩
        | ow m =>
          obtain ⟨p2, ws2, a, b, c, d⟩ := q
          subst a
          refine ⟨p2, ws2, rfl, ?_, c, d.mono s1⟩
          rw [upd_ne (nn (Ne.symm n) k1 k2)]
          exact b
    own := fun j q m k1 k2 => by
      rcases get_set k1 with ⟨_, z⟩ | ⟨n, k1⟩
      · cases z
      · exact e.own j q m k1 k2
    sep := fun j k q m m' k1 k1' k2 k2' => by
      rcases get_set k1 with ⟨_, z⟩ | ⟨n, k1⟩
      · cases z
      rcases get_set k1' with ⟨_, z⟩ | ⟨n', k1'⟩
      · cases z
      exact e.sep j k q m m' k1 k1' k2 k2' }
end
/-! ### slots of which less is known -/
inductive SlLe : List Sl → List Sl → Prop
  | nil : SlLe [] []
  | any {s : Sl} {Γ Γ' : List Sl} : SlLe Γ Γ' → SlLe (s :: Γ) (.any :: Γ')
  | same {s : Sl} {Γ Γ' : List Sl} : SlLe Γ Γ' → SlLe (s :: Γ) (s :: Γ')
  | im {r r' : Rep} {Γ Γ' : List Sl} (h : Sub r r') : SlLe Γ Γ' → SlLe (.im r :: Γ) (.im r' :: Γ')
  | ow {l l' : List Rep} {Γ Γ' : List Sl} (h : l = l') : SlLe Γ Γ' → SlLe (.ow l :: Γ) (.ow l' :: Γ')
theorem SlLe.len : ∀ {Γ Γ' : List Sl}, SlLe Γ Γ' → Γ.length = Γ'.length
  | _, _, .nil => rfl
  | _, _, .any h => congrArg (· + 1) h.len
  | _, _, .same h => congrArg (· + 1) h.len
  | _, _, .im _ h => congrArg (· + 1) h.len
  | _, _, .ow _ h => congrArg (· + 1) h.len
theorem SlLe.rfl : ∀ {Γ : List Sl}, SlLe Γ Γ
  | [] => .nil
  | _ :: _ => .same SlLe.rfl
theorem SlLe.at : ∀ {Γ Γ' : List Sl}, SlLe Γ Γ' → ∀ {i : Nat} {s' : Sl}, Γ'[i]? = some s' → ∃ s, Γ[i]? = some s ∧ (s = s' ∨ s' = .any ∨ (∃ r r', s = .im r ∧ s' = .im r' ∧ Sub r r'))
  | _, _, .nil, i, s', h => by simp at h
  | _, _, .any h, 0, s', e => by simp at e; subst e; exact ⟨_, _root_.rfl, .inr (.inl _root_.rfl)⟩
  | _, _, .same h, 0, s', e => by simp at e; subst e; exact ⟨_, _root_.rfl, .inl _root_.rfl⟩
  | _, _, .im k h, 0, s', e => by simp at e; subst e; exact ⟨_, _root_.rfl, .inr (.inr ⟨_, _, _root_.rfl, _root_.rfl, k⟩)⟩
  | _, _, .ow k h, 0, s', e => by simp at e; subst e; exact ⟨_, _root_.rfl, .inl (by rw [k])⟩
  | _, _, .any h, i + 1, s', e => by simpa using h.at (i := i) (by simpa using e)
  | _, _, .same h, i + 1, s', e => by simpa using h.at (i := i) (by simpa using e)
  | _, _, .im k h, i + 1, s', e => by simpa using h.at (i := i) (by simpa using e)
  | _, _, .ow k h, i + 1, s', e => by simpa using h.at (i := i) (by simpa using e)
theorem En.le {F0 H0 F H : Hp} {σ : L2.St} {Γ Γ' : List Sl} (e : En F0 H0 F H σ Γ) (h : SlLe Γ Γ') : En F0 H0 F H σ Γ' where
  gr := e.gr
  len := by rw [← h.len]; exact e.len
  ok i s' x h1 h2 := by
    obtain ⟨s, k1, k2⟩ := h.at h1
    have q := e.ok i s x k1 h2
    rcases k2 with rfl | rfl | ⟨r, r', rfl, rfl, hs⟩
    · exact q
    · trivial
    · obtain ⟨v, a, b⟩ := q
      exact ⟨v, a, hs F v b⟩
  own i p l h1 h2 := by
    obtain ⟨s, k1, k2⟩ := h.at h1
    rcases k2 with rfl | z | ⟨r, r', rfl, z, hs⟩
    · exact e.own i p l k1 h2
    · cases z
    · cases z
  sep i j p l l' h1 h1' h2 h2' := by
    obtain ⟨s, k1, k2⟩ := h.at h1
    obtain ⟨s', k1', k2'⟩ := h.at h1'
    rcases k2 with rfl | z | ⟨r, r', rfl, z, hs⟩
    · rcases k2' with rfl | z | ⟨r, r', rfl, z, hs⟩
      · exact e.sep i j p l l' k1 k1' h2 h2'
      · cases z
      · cases z
    · cases z
    · cases z
end DL

set_option Elab.async false
set_option linter.all false
set_option maxRecDepth 100000
set_option maxHeartbeats 4000000
namespace DL
open PySem PySem.Spec PyProof.Rows L2

/-! ### what is asked of an expression, a test, an argument list, a block -/
def EV (X : Cx) (e : Expr) (σ : L2.St) (H : Hp) (Q : VK) : Prop := ∀ (pins : List (Addr × Obj)) (s : Shared), Inv X pins σ H s → wpAny (model X.prog X.w) X.A (eval e X.env) (EP X pins σ Q) X.xe s
def TV (X : Cx) (e : Expr) (σ : L2.St) (H : Hp) (Q : Bool → Hp → Prop) : Prop := ∀ (pins : List (Addr × Obj)) (s : Shared), Inv X pins σ H s → wpAny (model X.prog X.w) X.A (isTrue e X.env (eval e X.env)) (TP X pins σ Q) X.xe s
def WV (X : Cx) (e : Expr) (σ : L2.St) (H : Hp) (Q : Bool → Hp → Prop) : Prop := ∀ (whole : Sem Value) (pins : List (Addr × Obj)) (s : Shared), Inv X pins σ H s → wpAny (model X.prog X.w) X.A (isTrue e X.env whole) (TP X pins σ Q) X.xe s
def AV (X : Cx) (es : List Expr) (σ : L2.St) (H : Hp) (Q : List V → Hp → Prop) : Prop := ∀ (pos : Pos) (pins : List (Addr × Obj)) (s : Shared), Inv X pins σ H s → wpAny (model X.prog X.w) X.A (spliced (backTo pos (starEach es X.env))) (AP X pins σ Q) X.xe s
def XS (X : Cx) (st : List Stmt) (D : Ends) (σ : L2.St) (H : Hp) : Prop := ∀ (pins : List (Addr × Obj)) (s : Shared), Inv X pins σ H s → wpAny (model X.prog X.w) X.A (execs st X.env) (SP X pins D) X.xe s
section
variable {X : Cx} {e : Expr} {es : List Expr} {st : List Stmt} {σ : L2.St} {H : Hp}
theorem pe_ev : PE X e (EV X e) := ⟨fun pins s σ H Q I h => h pins s I⟩
theorem pt_ev : PT X e (TV X e) := ⟨fun pins s σ H Q I h => h pins s I⟩
theorem pw_ev : PW X e (WV X e) := ⟨fun whole pins s σ H Q I h => h whole pins s I⟩
theorem pa_ev : PA X es (AV X es) := ⟨fun pos pins s σ H Q I h => h pos pins s I⟩
theorem pss_ev : PSs X st (XS X st) := ⟨fun pins s σ H D I h => h pins s I⟩
theorem EV.of {te : TE} {Q : VK} (h : PE X e te) (q : te σ H Q) : EV X e σ H Q := fun pins s I => h.run pins s σ H Q I q
theorem TV.of {te : TT} {Q : Bool → Hp → Prop} (h : PT X e te) (q : te σ H Q) : TV X e σ H Q := fun pins s I => h.run pins s σ H Q I q
theorem WV.of {te : TT} {Q : Bool → Hp → Prop} (h : PW X e te) (q : te σ H Q) : WV X e σ H Q := fun whole pins s I => h.run whole pins s σ H Q I q
theorem AV.of {te : TA} {Q : List V → Hp → Prop} (h : PA X es te) (q : te σ H Q) : AV X es σ H Q := fun pos pins s I => h.run pos pins s σ H Q I q
theorem XS.of {te : TS} {D : Ends} (h : PSs X st te) (q : te D σ H) : XS X st D σ H := fun pins s I => h.run pins s σ H D I q
end

/-- where a def's body runs: its names, its scope, the room -/
structure BX (X : Cx) (N : List Str) (sc : Scope) (k : Nat) : Prop where
  hN : X.N = N
  hsc : X.env.scope = sc
  nd : N.Nodup
  room : Room k X.A
  calm : X.calm = true
  own : PassesOwn (model X.prog X.w) X.A X.env X.xe

/-- the values -/
def DE (X : Cx) (Γ : List Sl) (e : Expr) (r : Rep) : Prop := ∀ F0 H0 F H σ, En F0 H0 F H σ Γ → ∀ Q : VK, (∀ v F' H', Gr F H F' H' → r.P F' v → Q v H') → EV X e σ H Q
def DA (X : Cx) (Γ : List Sl) (es : List Expr) (rs : List Rep) : Prop := ∀ F0 H0 F H σ, En F0 H0 F H σ Γ → ∀ Q : List V → Hp → Prop, (∀ vs F' H', Gr F H F' H' → RL F' rs vs → Q vs H') → AV X es σ H Q
/-- a new list of one's own -/
def DL (X : Cx) (Γ : List Sl) (e : Expr) (l : List Rep) : Prop := ∀ F0 H0 F H σ, En F0 H0 F H σ Γ → ∀ Q : VK, (∀ p vs F' H', Gr F H F' H' → H p = none → F' p = none → H' p = some (.lst vs) → RL F' l vs → Q (.ref p) H') → EV X e σ H Q
def DT (X : Cx) (Γ : List Sl) (e : Expr) (b : Bool) : Prop := ∀ F0 H0 F H σ, En F0 H0 F H σ Γ → ∀ Q : Bool → Hp → Prop, (∀ F' H', Gr F H F' H' → Q b H') → TV X e σ H Q
def DW (X : Cx) (Γ : List Sl) (e : Expr) (b : Bool) : Prop := ∀ F0 H0 F H σ, En F0 H0 F H σ Γ → ∀ Q : Bool → Hp → Prop, (∀ F' H', Gr F H F' H' → Q b H') → WV X e σ H Q

section
variable {X : Cx} {N : List Str} {sc : Scope} {k : Nat} {Γ : List Sl} {a b c e : Expr} {es rest : List Expr} {r ra rb rc r' : Rep} {rs l : List Rep} {pos p : Pos} {x : Str}
theorem DE.sub (h : DE X Γ e r) (s : Sub r r') : DE X Γ e r' := fun F0 H0 F H σ en Q q => h F0 H0 F H σ en Q fun v F' H' g hv => q v F' H' g (s F' v hv)
theorem DE.to (h : DE X Γ e r) (s : r = r') : DE X Γ e r' := s ▸ h
theorem DT.to {b b' : Bool} (h : DT X Γ e b) (s : b = b') : DT X Γ e b' := s ▸ h
theorem DL.to {l l' : List Rep} (h : DL X Γ e l) (s : l = l') : DL X Γ e l' := s ▸ h
theorem DL.froz (h : DL X Γ e l) : DE X Γ e (rLst X.K l) := fun F0 H0 F H σ en Q q => h F0 H0 F H σ en Q fun p vs F' H' g h1 h2 h3 h4 =>
  q (.ref p) (upd F' p (.lst vs)) H' ⟨g.f.trans (same_new h2), g.h, fun b o z => by
    by_cases hb : b = p
    · subst hb
      rw [upd_same] at z
      rw [h3, ← z]
    · rw [upd_ne hb] at z
      exact g.s b o z, fun a ha z => by
    have hp : a ≠ p := fun y => ha (y ▸ h1)
    rw [upd_ne hp]
    exact g.n a ha z⟩ ⟨p, vs, rfl, SqL.of upd_same, h4.mono (same_new h2)⟩
theorem de_var (B : BX X N sc k) {i : Nat} (hΓ : Γ[i]? = some (.im r)) (hN : N[i]? = some x) (hv : Vis sc x) (hd : (x == ("__debug__" : Str)) = false := by decide) (hcd : (x == ("__classdict__" : Str)) = false := by decide) : DE X Γ (.Name x pos) r := fun F0 H0 F H σ en Q q => by
  obtain ⟨v, h1, h2⟩ := en.im hΓ
  exact .of (pe_var (i := i) (B.hN ▸ hN) (B.hsc ▸ hv) hd hcd) ⟨v, h1, q v F H (.refl en.gr.s) h2⟩
theorem de_int {i : Int} {j : Nat} : DE X Γ (.Constant (.int i) j pos) (rInt i) := fun F0 H0 F H σ en Q q => .of pe_int (q _ F H (.refl en.gr.s) rfl)
theorem de_bl {i : Bool} {j : Nat} : DE X Γ (.Constant (.bool i) j pos) (rBl i) := fun F0 H0 F H σ en Q q => .of pe_bl (q _ F H (.refl en.gr.s) rfl)
theorem de_non {j : Nat} : DE X Γ (.Constant .none j pos) rNon := fun F0 H0 F H σ en Q q => .of pe_non (q _ F H (.refl en.gr.s) rfl)
theorem de_str {s : Str} {j : Nat} : DE X Γ (.Constant (.str s) j pos) (rStr s) := fun F0 H0 F H σ en Q q => .of pe_str (q _ F H (.refl en.gr.s) rfl)
/-- an operator by values -/
def B2 (r2 : R2) (ra rb rc : Rep) : Prop := ∀ F H x y, Same F H → ra.P F x → rb.P F y → ∀ Q : VK, (∀ v F' H', Gr F H F' H' → rc.P F' v → Q v H') → r2 x y H Q
theorem two {r2 : R2} (ha : DE X Γ a ra) (hb : DE X Γ b rb) (h2 : B2 r2 ra rb rc) {F0 H0 F H : Hp} {σ : L2.St} (en : En F0 H0 F H σ Γ) {Q : VK} (q : ∀ v F' H', Gr F H F' H' → rc.P F' v → Q v H') :
    tOp r2 (EV X a) (EV X b) σ H Q :=
  ha F0 H0 F H σ en _ fun v F1 H1 g1 h1 => hb F0 H0 F1 H1 σ (en.grow g1) _ fun u F2 H2 g2 k2 => h2 F2 H2 v u g2.s (ra.mono g2.f h1) k2 Q fun z F3 H3 g3 h3 => q z F3 H3 ((g1.trans g2).trans g3) h3
theorem de_op {op : Operator} {r2 : R2} (ho : OpR X (binaryOp op) r2) (h2 : B2 r2 ra rb rc) (ha : DE X Γ a ra) (hb : DE X Γ b rb) : DE X Γ (.BinOp a op b pos) rc := fun F0 H0 F H σ en Q q =>
  .of (pe_op ho pe_ev pe_ev) (two ha hb h2 en q)
theorem de_cmp {op : CmpOp} {r2 : R2} (ho : OpR X (compareOp op) r2) (h2 : B2 r2 ra rb rc) (ha : DE X Γ a ra) (hb : DE X Γ b rb) (hm : behindInMarks op b = false) : DE X Γ (.Compare a [op] [b] pos) rc := fun F0 H0 F H σ en Q q =>
  .of (pe_cmpR ho pe_ev pe_ev hm) (two ha hb h2 en q)
theorem dt_cmp {op : CmpOp} {r2 : R2} {t : Bool} (ho : OpR X (compareOp op) r2) (h2 : B2 r2 ra rb (rBl t)) (ha : DE X Γ a ra) (hb : DE X Γ b rb) (hm : behindInMarks op b = false) : DT X Γ (.Compare a [op] [b] pos) t := fun F0 H0 F H σ en Q q =>
  .of (pt_cmpR ho pe_ev pe_ev hm) (two ha hb h2 en fun v F' H' g hv => ⟨t, hv, q F' H' g⟩)
theorem b2_I0 {g : Int → Int → V} {i j : Int} : B2 (rI0 g) (rInt i) (rInt j) (rC (g i j)) := fun F H x y s h1 h2 Q q => ⟨i, j, h1, h2, q _ F H (.refl s) rfl⟩
theorem b2_I {C : Int → Int → Prop} {g : Int → Int → V} {i j : Int} (hc : C i j) : B2 (rI C g) (rInt i) (rInt j) (rC (g i j)) := fun F H x y s h1 h2 Q q => ⟨i, j, h1, h2, hc, q _ F H (.refl s) rfl⟩
theorem b2_eq {x y : V} (h : scal x y = true) : B2 rEq (rC x) (rC y) (rBl (decide (x = y))) := fun F H x y s h1 h2 Q q => by cases h1; cases h2; exact ⟨h, q _ F H (.refl s) rfl⟩
theorem b2_ne {x y : V} (h : scal x y = true) : B2 rNe (rC x) (rC y) (rBl (!decide (x = y))) := fun F H x y s h1 h2 Q q => by cases h1; cases h2; exact ⟨h, q _ F H (.refl s) rfl⟩
/-! ints -/
section
variable {i j : Int}
theorem de_add (ha : DE X Γ a (rInt i)) (hb : DE X Γ b (rInt j)) : DE X Γ (.BinOp a .Add b pos) (rInt (i + j)) := de_op op_add b2_I0 ha hb
theorem de_sub (ha : DE X Γ a (rInt i)) (hb : DE X Γ b (rInt j)) : DE X Γ (.BinOp a .Sub b pos) (rInt (i - j)) := de_op op_sub b2_I0 ha hb
theorem de_mul (hc : CMulW i j) (ha : DE X Γ a (rInt i)) (hb : DE X Γ b (rInt j)) : DE X Γ (.BinOp a .Mult b pos) (rInt (i * j)) := de_op op_mulW (b2_I hc) ha hb
def CDivX (_ j : Int) : Prop := j ≠ 0 ∧ j.natAbs.log2 < 9000
theorem op_fdivX : OpR X (binaryOp .FloorDiv) (rI CDivX fun i j => .int (i.fdiv j)) := opI fun i j _ _ _ _ _ hc q => floordiv_int hc.1 q (.inl (PyProof.noPylong_of_log2 hc.2))
theorem de_fdiv (hc : CDivX i j) (ha : DE X Γ a (rInt i)) (hb : DE X Γ b (rInt j)) : DE X Γ (.BinOp a .FloorDiv b pos) (rInt (i.fdiv j)) := de_op op_fdivX (b2_I hc) ha hb
theorem de_mod (hc : j ≠ 0) (ha : DE X Γ a (rInt i)) (hb : DE X Γ b (rInt j)) : DE X Γ (.BinOp a .Mod b pos) (rInt (i.fmod j)) := de_op op_modN (b2_I hc) ha hb
theorem de_pow (hc : CPow i j) (ha : DE X Γ a (rInt i)) (hb : DE X Γ b (rInt j)) : DE X Γ (.BinOp a .Pow b pos) (rInt (i ^ j.toNat)) := de_op op_pow (b2_I hc) ha hb
def U1 (f : V → Hp → VK → Prop) (ra rc : Rep) : Prop := ∀ F H x, Same F H → ra.P F x → ∀ Q : VK, (∀ v F' H', Gr F H F' H' → rc.P F' v → Q v H') → f x H Q
theorem de_un {op : UnaryOp} {f : V → Hp → VK → Prop} (ho : UnR X (unaryOp op) f) (h2 : U1 f ra rc) (ha : DE X Γ a ra) : DE X Γ (.UnaryOp op a pos) rc := fun F0 H0 F H σ en Q q =>
  .of (pe_un ho pe_ev) (ha F0 H0 F H σ en _ fun v F1 H1 g1 h1 => h2 F1 H1 v g1.s h1 Q fun z F3 H3 g3 h3 => q z F3 H3 (g1.trans g3) h3)
theorem de_neg (ha : DE X Γ a (rInt i)) : DE X Γ (.UnaryOp .USub a pos) (rInt (-i)) := de_un un_neg (fun F H x s h1 Q q => ⟨i, h1, q _ F H (.refl s) rfl⟩) ha
theorem dt_lt (ha : DE X Γ a (rInt i)) (hb : DE X Γ b (rInt j)) : DT X Γ (.Compare a [.Lt] [b] pos) (decide (i < j)) := dt_cmp op_lt b2_I0 ha hb (nomark _)
theorem dt_le (ha : DE X Γ a (rInt i)) (hb : DE X Γ b (rInt j)) : DT X Γ (.Compare a [.LtE] [b] pos) (decide (i ≤ j)) := dt_cmp op_le b2_I0 ha hb (nomark _)
theorem dt_gt (ha : DE X Γ a (rInt i)) (hb : DE X Γ b (rInt j)) : DT X Γ (.Compare a [.Gt] [b] pos) (decide (j < i)) := dt_cmp op_gt b2_I0 ha hb (nomark _)
theorem dt_ge (ha : DE X Γ a (rInt i)) (hb : DE X Γ b (rInt j)) : DT X Γ (.Compare a [.GtE] [b] pos) (decide (j ≤ i)) := dt_cmp op_ge b2_I0 ha hb (nomark _)
theorem vint_dec : decide (V.int i = V.int j) = decide (i = j) := by
  by_cases h : i = j
  · rw [decide_eq_true h, h, decide_eq_true rfl]
  · rw [decide_eq_false h, decide_eq_false fun z => h (V.int.inj z)]
theorem b2_eqI : B2 rEq (rInt i) (rInt j) (rBl (decide (i = j))) := by
  have h := b2_eq (x := .int i) (y := .int j) rfl
  rw [vint_dec] at h
  exact h
theorem b2_neI : B2 rNe (rInt i) (rInt j) (rBl (!decide (i = j))) := by
  have h := b2_ne (x := .int i) (y := .int j) rfl
  rw [vint_dec] at h
  exact h
theorem dt_eqI (ha : DE X Γ a (rInt i)) (hb : DE X Γ b (rInt j)) : DT X Γ (.Compare a [.Eq] [b] pos) (decide (i = j)) := dt_cmp op_eq b2_eqI ha hb (nomark _)
theorem dt_neI (ha : DE X Γ a (rInt i)) (hb : DE X Γ b (rInt j)) : DT X Γ (.Compare a [.NotEq] [b] pos) (!decide (i = j)) := dt_cmp op_ne b2_neI ha hb (nomark _)
theorem de_geI (ha : DE X Γ a (rInt i)) (hb : DE X Γ b (rInt j)) : DE X Γ (.Compare a [.GtE] [b] pos) (rBl (decide (j ≤ i))) := de_cmp op_ge b2_I0 ha hb (nomark _)
theorem de_eqI (ha : DE X Γ a (rInt i)) (hb : DE X Γ b (rInt j)) : DE X Γ (.Compare a [.Eq] [b] pos) (rBl (decide (i = j))) := de_cmp op_eq b2_eqI ha hb (nomark _)
end
/-! truth values -/
section
variable {u v : Bool}
theorem dt_val (h : DE X Γ e (rBl u)) (he : ∀ whole, isTrue e X.env whole = (do let v ← whole; standAt e.pos; holding [v] (truthy v)) := by intro _; rfl) : DT X Γ e u := fun F0 H0 F H σ en Q q =>
  .of (pt_val pe_ev he) (h F0 H0 F H σ en _ fun v F' H' g hv => ⟨u, hv, q F' H' g⟩)
theorem dt_not (h : DT X Γ a u) : DT X Γ (.UnaryOp .Not a pos) (!u) := fun F0 H0 F H σ en Q q => .of (pt_not pt_ev) (h F0 H0 F H σ en _ fun F' H' g => q F' H' g)
theorem de_not (h : DE X Γ a (rBl u)) : DE X Γ (.UnaryOp .Not a pos) (rBl (!u)) := fun F0 H0 F H σ en Q q => .of (pe_not pe_ev) (h F0 H0 F H σ en _ fun v F' H' g hv => ⟨u, hv, q _ F' H' g rfl⟩)
theorem DW.t (h : DW X Γ e u) : DT X Γ e u := fun F0 H0 F H σ en Q q => .of (pw_ev.pt) (h F0 H0 F H σ en Q q)
theorem dw_and1 (h : DT X Γ a u) : DW X Γ (.BoolOp .And [a] pos) u := fun F0 H0 F H σ en Q q => .of (pw_and1 pt_ev) (h F0 H0 F H σ en Q q)
theorem dw_or1 (h : DT X Γ a u) : DW X Γ (.BoolOp .Or [a] pos) u := fun F0 H0 F H σ en Q q => .of (pw_or1 pt_ev) (h F0 H0 F H σ en Q q)
theorem dw_and (h : DT X Γ a u) (h2 : u = true → DW X Γ (.BoolOp .And (b :: rest) pos) v) : DW X Γ (.BoolOp .And (a :: b :: rest) pos) (u && v) := fun F0 H0 F H σ en Q q =>
  .of (pw_and pt_ev pw_ev) (h F0 H0 F H σ en _ fun F' H' g => by
    cases u with
    | true => rw [if_pos rfl]; exact h2 rfl F0 H0 F' H' σ (en.grow g) Q fun F2 H2 g2 => q F2 H2 (g.trans g2)
    | false => rw [if_neg Bool.false_ne_true]; exact q F' H' g)
theorem dw_or (h : DT X Γ a u) (h2 : u = false → DW X Γ (.BoolOp .Or (b :: rest) pos) v) : DW X Γ (.BoolOp .Or (a :: b :: rest) pos) (u || v) := fun F0 H0 F H σ en Q q =>
  .of (pw_or pt_ev pw_ev) (h F0 H0 F H σ en _ fun F' H' g => by
    cases u with
    | true => rw [if_pos rfl]; exact q F' H' g
    | false => rw [if_neg Bool.false_ne_true]; exact h2 rfl F0 H0 F' H' σ (en.grow g) Q fun F2 H2 g2 => q F2 H2 (g.trans g2))
theorem de_one {op} (h : DE X Γ a r) : DE X Γ (.BoolOp op [a] pos) r := fun F0 H0 F H σ en Q q => .of (pe_one pe_ev) (h F0 H0 F H σ en Q q)
theorem de_and (h : DE X Γ a (rBl u)) (h2 : u = true → DE X Γ (.BoolOp .And (b :: rest) pos) (rBl v)) : DE X Γ (.BoolOp .And (a :: b :: rest) pos) (rBl (u && v)) := fun F0 H0 F H σ en Q q =>
  .of (pe_and pe_ev pe_ev) (h F0 H0 F H σ en _ fun x F' H' g hx => ⟨u, hx, by
    cases u with
    | true => rw [if_pos rfl]; exact h2 rfl F0 H0 F' H' σ (en.grow g) Q fun y F2 H2 g2 hy => q y F2 H2 (g.trans g2) hy
    | false => rw [if_neg Bool.false_ne_true]; exact q _ F' H' g rfl⟩)
theorem de_or (h : DE X Γ a (rBl u)) (h2 : u = false → DE X Γ (.BoolOp .Or (b :: rest) pos) (rBl v)) : DE X Γ (.BoolOp .Or (a :: b :: rest) pos) (rBl (u || v)) := fun F0 H0 F H σ en Q q =>
  .of (pe_or pe_ev pe_ev) (h F0 H0 F H σ en _ fun x F' H' g hx => ⟨u, hx, by
    cases u with
    | true => rw [if_pos rfl]; exact q _ F' H' g rfl
    | false => rw [if_neg Bool.false_ne_true]; exact h2 rfl F0 H0 F' H' σ (en.grow g) Q fun y F2 H2 g2 hy => q y F2 H2 (g.trans g2) hy⟩)
theorem de_if (h : DT X Γ c u) (h1 : u = true → DE X Γ a r) (h2 : u = false → DE X Γ b r) : DE X Γ (.IfExp c a b pos) r := fun F0 H0 F H σ en Q q =>
  .of (pe_ifExp pt_ev pe_ev pe_ev) (h F0 H0 F H σ en _ fun F' H' g => by
    cases u with
    | true => rw [if_pos rfl]; exact h1 rfl F0 H0 F' H' σ (en.grow g) Q fun y F2 H2 g2 hy => q y F2 H2 (g.trans g2) hy
    | false => rw [if_neg Bool.false_ne_true]; exact h2 rfl F0 H0 F' H' σ (en.grow g) Q fun y F2 H2 g2 hy => q y F2 H2 (g.trans g2) hy)
end
/-! argument lists, displays -/
theorem da_nil : DA X Γ [] [] := fun F0 H0 F H σ en Q q => .of pa_nil (q [] F H (.refl en.gr.s) .nil)
theorem da_cons (h : DE X Γ e r) (h2 : DA X Γ es rs) (hs : starEach (e :: es) X.env = (false, eval e X.env) :: starEach es X.env := by rfl) : DA X Γ (e :: es) (r :: rs) := fun F0 H0 F H σ en Q q =>
  .of (pa_cons pe_ev pa_ev hs) (h F0 H0 F H σ en _ fun v F1 H1 g1 h1 => h2 F0 H0 F1 H1 σ (en.grow g1) _ fun vs F2 H2 g2 k2 => q (v :: vs) F2 H2 (g1.trans g2) (.cons (r.mono g2.f h1) k2))
theorem de_tup {x1} (h : DA X Γ es rs) (hl : rs.length ≤ sizeLine) : DE X Γ (.Tuple es x1 pos) (rTup X.K rs) := fun F0 H0 F H σ en Q q =>
  .of (pe_tup pa_ev) (h F0 H0 F H σ en _ fun vs F1 H1 g1 h1 => ⟨h1.len ▸ hl, fun p hp => q (.ref p) _ _ (g1.trans (.new g1.s hp)) ⟨p, vs, rfl, SqT.of upd_same, h1.mono (same_new (g1.s.free hp))⟩⟩)
theorem dl_lst (h : DA X Γ es rs) (hl : rs.length ≤ sizeLine) : DL X Γ (.List es pos) rs := fun F0 H0 F H σ en Q q =>
  .of (pe_lst pa_ev) (h F0 H0 F H σ en _ fun vs F1 H1 g1 h1 => ⟨h1.len ▸ hl, fun p hp => q p vs F1 _ (g1.trans (.newOwn g1.s hp)) (g1.h.free hp) (g1.s.free hp) upd_same h1⟩)
end
end DL

set_option Elab.async false
set_option linter.all false
set_option maxRecDepth 100000
set_option maxHeartbeats 4000000
namespace DL
open PySem PySem.Spec PyProof.Rows L2

/-! ### a def that may be called by its name -/
structure Cal (P : Program) (w : World) (K : PySem.W.Frag) (mg : Str → Option Value) (base : Heap) (k : Nat) (x : Str) (sp : Sp) : Prop where
  ex : ∃ (f : Addr) (fd : FuncData) (ps : List Str), FnOk P w K mg base (L2.CX P w) k f fd ps sp ∧ mg x = some (.ref f) ∧ PySem.W.keepIn K (.ref f) = true ∧ Binds K fd ps []
theorem FnOk.wide {P : Program} {w : World} {K : PySem.W.Frag} {mg : Str → Option Value} {base : Heap} {k : Nat} {f : Addr} {fd : FuncData} {ps : List Str} {sp : Sp} (F : FnOk P w K mg base CX0 k f fd ps sp) : FnOk P w K mg base (L2.CX P w) k f fd ps sp :=
  ⟨F.len, fun A outer s H args us vs Q E hr he hb hv hs => codeAny_mono (F.run A outer s H args us vs Q E hr he hb hv hs) fun r s' h => by
    cases r with
    | error e => exact False.elim h
    | ok fl => cases fl <;> exact h⟩
/-- the end of a call: a value, a new list of one's own, or an error without a field of the class named -/
inductive Ret where
  | val (r : Rep)
  | lst (l : List Rep)
  | tfr (K : PySem.W.Frag) (l : List Rep) (rs : List Rep)
def Ret.P (F0 H0 F H : Hp) : Ret → V → Prop
  | .val r, v => r.P F v
  | .lst l, v => ∃ p vs, v = .ref p ∧ H0 p = none ∧ F p = none ∧ H p = some (.lst vs) ∧ RL F l vs
  | .tfr K l rs, v => ∃ t p us vs, v = .ref t ∧ SqT K F t (.ref p :: vs) ∧ H0 p = none ∧ F p = none ∧ H p = some (.lst us) ∧ RL F l us ∧ RL F rs vs
/-- from the arguments' worth to the answer's -/
def Pr (F H : Hp) (res : Ret) (Q : VK) : Prop := ∀ v F' H', Gr F H F' H' → res.P F H F' H' v → Q v H'
def Pm {ι : Type} (pre : ι → Prop) (args : ι → List Rep) (res : ι → Ret) : Sp := fun vs H Q _ => ∃ (x : ι) (F : Hp), pre x ∧ Same F H ∧ RL F (args x) vs ∧ Pr F H (res x) Q
section
variable {X : Cx} {N : List Str} {sc : Scope} {k j : Nat} {Γ : List Sl} {a b c e : Expr} {es rest : List Expr} {r ra rb rc r' : Rep} {rs l : List Rep} {pos p : Pos} {x : Str}
variable {ι : Type} {pre : ι → Prop} {args : ι → List Rep} {res : ι → Ret}
def CA (X : Cx) (Γ : List Sl) (e : Expr) (ret : Ret) : Prop := ∀ F0 H0 F H σ, En F0 H0 F H σ Γ → ∀ Q : VK, (∀ v F' H' F1 H1, Gr F H F1 H1 → Gr F1 H1 F' H' → ret.P F1 H1 F' H' v → Q v H') → EV X e σ H Q
theorem ca_call (B : BX X N sc k) (C : Cal X.prog X.w X.K X.mg X.base j x (Pm pre args res)) (hk : j ≤ k) (g : ι) (hp : pre g) (ha : DA X Γ (e :: es) (args g)) (hg : sc.names.lookup x = some .globalImplicit)
    (hdb : (x == ("__debug__" : Str)) = false := by decide) (he : starEach (e :: es) X.env = (false, eval e X.env) :: starEach es X.env := by rfl) (hpl : (backTo pos (starEach es X.env)).any (·.1) = false := by rfl) :
    CA X Γ (.Call (.Name x p) (e :: es) [] pos) (res g) := fun F0 H0 F H σ en Q q => by
  obtain ⟨f, fd, ps, G, hm, kp, hb⟩ := C.ex
  have hgl : Gl X x := by
    show X.env.scope.names.lookup x = _
    rw [B.hsc]
    exact hg
  refine .of (pe_call (E := E0) G (B.room.mono hk) hgl hm kp hb .nil passL pa_ev hdb he hpl) ?_
  refine ha F0 H0 F H σ en _ fun vs F1 H1 g1 h1 => ?_
  show Pm pre args res (vs ++ []) H1 Q E0
  rw [List.append_nil]
  exact ⟨g, F1, hp, g1.s, h1, fun v F' H' g2 hv => q v F' H' F1 H1 g1 g2 hv⟩
theorem CA.val (h : CA X Γ e (.val r)) : DE X Γ e r := fun F0 H0 F H σ en Q q => h F0 H0 F H σ en Q fun v F' H' F1 H1 g1 g2 hv => q v F' H' (g1.trans g2) hv
theorem CA.lst (h : CA X Γ e (.lst l)) : DL X Γ e l := fun F0 H0 F H σ en Q q => h F0 H0 F H σ en Q fun v F' H' F1 H1 g1 g2 hv => by
  obtain ⟨p, vs, rfl, h1, h2, h3, h4⟩ := hv
  exact q p vs F' H' (g1.trans g2) (g1.h.free h1) h2 h3 h4

/-! ### built-ins by name -/
def CB (f : List V → Hp → VK → Prop) (rs : List Rep) (r : Rep) : Prop := ∀ F H vs, Same F H → RL F rs vs → ∀ Q : VK, (∀ v F' H', Gr F H F' H' → r.P F' v → Q v H') → f vs H Q
theorem de_blt {id : String} {f : List V → Hp → VK → Prop} (B : BX X N sc k) (hc : CallR X (.builtin id) f) (h2 : CB f rs r) (hm : X.mg x = none) (hv : bootBuiltins x = some (.builtin id)) (ha : DA X Γ (e :: es) rs) (hg : sc.names.lookup x = some .globalImplicit)
    (hn : x ≠ "__name__" := by decide) (hdb : (x == ("__debug__" : Str)) = false := by decide) (he : starEach (e :: es) X.env = (false, eval e X.env) :: starEach es X.env := by rfl) (hpl : (backTo pos (starEach es X.env)).any (·.1) = false := by rfl) :
    DE X Γ (.Call (.Name x p) (e :: es) [] pos) r := fun F0 H0 F H σ en Q q => by
  have hgl : Gl X x := by
    show X.env.scope.names.lookup x = _
    rw [B.hsc]
    exact hg
  exact .of (pe_callB hc hgl hm hv pa_ev hn hdb he hpl) (ha F0 H0 F H σ en _ fun vs F1 H1 g1 h1 => h2 F1 H1 vs g1.s h1 Q fun v F' H' g2 hv => q v F' H' (g1.trans g2) hv)
theorem de_bty {id : String} {f : List V → Hp → VK → Prop} (B : BX X N sc k) (hc : CallR X (.type id) f) (h2 : CB f rs r) (hm : X.mg x = none) (hv : bootBuiltins x = some (.type id)) (ha : DA X Γ (e :: es) rs) (hg : sc.names.lookup x = some .globalImplicit)
    (hn : x ≠ "__name__" := by decide) (hdb : (x == ("__debug__" : Str)) = false := by decide) (he : starEach (e :: es) X.env = (false, eval e X.env) :: starEach es X.env := by rfl) (hpl : (backTo pos (starEach es X.env)).any (·.1) = false := by rfl) :
    DE X Γ (.Call (.Name x p) (e :: es) [] pos) r := fun F0 H0 F H σ en Q q => by
  have hgl : Gl X x := by
    show X.env.scope.names.lookup x = _
    rw [B.hsc]
    exact hg
  exact .of (pe_callTy hc hgl hm hv pa_ev hn hdb he hpl) (ha F0 H0 F H σ en _ fun vs F1 H1 g1 h1 => h2 F1 H1 vs g1.s h1 Q fun v F' H' g2 hv => q v F' H' (g1.trans g2) hv)
/-- a built-in function under a module's own name (from math import ..) -/
theorem de_bfun {id : String} {f : List V → Hp → VK → Prop} (B : BX X N sc k) (hc : CallR X (.builtin id) f) (h2 : CB f rs r) (hm : X.mg x = some (.builtin id)) (ha : DA X Γ (e :: es) rs) (hg : sc.names.lookup x = some .globalImplicit)
    (hdb : (x == ("__debug__" : Str)) = false := by decide) (he : starEach (e :: es) X.env = (false, eval e X.env) :: starEach es X.env := by rfl) (hpl : (backTo pos (starEach es X.env)).any (·.1) = false := by rfl) :
    DE X Γ (.Call (.Name x p) (e :: es) [] pos) r := fun F0 H0 F H σ en Q q => by
  have hgl : Gl X x := by
    show X.env.scope.names.lookup x = _
    rw [B.hsc]
    exact hg
  exact .of (pe_callBfun hc hgl hm pa_ev hdb he hpl) (ha F0 H0 F H σ en _ fun vs F1 H1 g1 h1 => h2 F1 H1 vs g1.s h1 Q fun v F' H' g2 hv => q v F' H' (g1.trans g2) hv)
theorem rl1 {F : Hp} {r : Rep} {vs : List V} (h : RL F [r] vs) : ∃ v, vs = [v] ∧ r.P F v := by
  cases h with
  | cons a t => cases t; exact ⟨_, rfl, a⟩
theorem rl2 {F : Hp} {r s : Rep} {vs : List V} (h : RL F [r, s] vs) : ∃ v w, vs = [v, w] ∧ r.P F v ∧ s.P F w := by
  cases h with
  | cons a t =>
    obtain ⟨w, rfl, b⟩ := rl1 t
    exact ⟨_, _, rfl, a, b⟩

/-- a name that the body may store -/
def LocX (X : Cx) (sc : Scope) (x : Str) : Prop := sc.names.lookup x = some .local ∨ (sc.names.lookup x = some .cell ∧ X.fn x = true)
/-! ### statements -/
def GO (X : Cx) (F0 H0 : Hp) (st : List Stmt) (D : Ends) (Γ : List Sl) : Prop := ∀ F H σ, En F0 H0 F H σ Γ → XS X st D σ H
variable {F0 H0 : Hp} {st body orelse : List Stmt} {D : Ends} {i : Nat} {tpos : Pos}
theorem go_nil (h : ∀ F H σ, En F0 H0 F H σ Γ → D.nx σ H) : GO X F0 H0 [] D Γ := fun F H σ en => .of pss_nil (h F H σ en)
theorem go_then (h : GO X F0 H0 st D Γ) : GO X F0 H0 [] { D with nx := XS X st D } Γ := go_nil fun F H σ en => h F H σ en
theorem go_set (B : BX X N sc k) (he : DE X Γ e r) (hN : N[i]? = some x) (hx : LocX X sc x) (h : GO X F0 H0 st D (Γ.set i (.im r))) (hs : swapsWith e (some (.Name x tpos)) pos.line X.env = pure false := by rfl) :
    GO X F0 H0 (.Assign [.Name x tpos] e pos :: st) D Γ := fun F H σ en => by
  have hf : X.fn x = true ∨ X.env.scope.names.lookup x = some .local := by
    rcases hx with hx | hx
    · exact .inr (by rw [B.hsc]; exact hx)
    · exact .inl hx.2
  have hx : Loc sc x := hx.elim .inl fun z => .inr z.1
  refine .of (pss_cons (ps_set (i := i) (by rw [B.hN]; exact B.nd) (by rw [B.hN]; exact hN) (by rw [B.hsc]; exact hx) pe_ev hs hf) pss_ev) ?_
  exact he F0 H0 F H σ en _ fun v F' H' g hv => h F' H' _ ((en.grow g).setIm hv)
theorem go_setL (B : BX X N sc k) (he : DL X Γ e l) (hN : N[i]? = some x) (hx : LocX X sc x) (h : GO X F0 H0 st D (Γ.set i (.ow l))) (hs : swapsWith e (some (.Name x tpos)) pos.line X.env = pure false := by rfl) :
    GO X F0 H0 (.Assign [.Name x tpos] e pos :: st) D Γ := fun F H σ en => by
  have hf : X.fn x = true ∨ X.env.scope.names.lookup x = some .local := by
    rcases hx with hx | hx
    · exact .inr (by rw [B.hsc]; exact hx)
    · exact .inl hx.2
  have hx : Loc sc x := hx.elim .inl fun z => .inr z.1
  refine .of (pss_cons (ps_set (i := i) (by rw [B.hN]; exact B.nd) (by rw [B.hN]; exact hN) (by rw [B.hsc]; exact hx) pe_ev hs hf) pss_ev) ?_
  refine he F0 H0 F H σ en _ fun p vs F' H' g h1 h2 h3 h4 => h F' H' _ ((en.grow g).setOw h2 h3 h4 (en.gr.h.free h1) fun j l' k1 k2 => ?_)
  obtain ⟨p', vs', a1, a2, a3, a4, a5⟩ := en.ow k1
  rw [a1] at k2
  have e2 : p' = p := V.ref.inj (Option.some.inj (Option.some.inj k2))
  rw [e2, h1] at a3
  cases a3
theorem go_expr (he : DE X Γ e r) (h : GO X F0 H0 st D Γ) (hs : swapsWith e none pos.line X.env = pure false := by rfl) : GO X F0 H0 (.Expr e pos :: st) D Γ := fun F H σ en =>
  .of (pss_cons (ps_expr pe_ev hs) pss_ev) (he F0 H0 F H σ en _ fun v F' H' g _ => h F' H' σ (en.grow g))
theorem go_if {t : Bool} (hc : DT X Γ c t) (h1 : t = true → GO X F0 H0 body { D with nx := XS X st D } Γ) (h2 : t = false → GO X F0 H0 orelse { D with nx := XS X st D } Γ) : GO X F0 H0 (.If c body orelse pos :: st) D Γ := fun F H σ en =>
  .of (pss_cons (ps_if pt_ev pss_ev pss_ev) pss_ev) (hc F0 H0 F H σ en _ fun F' H' g => by
    cases t with
    | true => rw [if_pos rfl]; exact h1 rfl F' H' σ (en.grow g)
    | false => rw [if_neg Bool.false_ne_true]; exact h2 rfl F' H' σ (en.grow g))
/-- what a return gives -/
def RT (F0 H0 : Hp) (ret : Ret) (D : Ends) : Prop := ∀ v F' H', Gr F0 H0 F' H' → ret.P F0 H0 F' H' v → D.rt v H'
theorem go_ret (R : RT F0 H0 (.val r') D) (he : DE X Γ e r) (hs : Sub r r') : GO X F0 H0 (.Return (some e) pos :: st) D Γ := fun F H σ en =>
  .of (pss_cons (ps_ret pe_ev) (pss_ev (st := st))) (he F0 H0 F H σ en _ fun v F' H' g hv => R v F' H' (en.gr.trans g) (hs F' v hv))
theorem go_retL {l' : List Rep} (R : RT F0 H0 (.lst l') D) (he : DL X Γ e l) (hs : l = l') : GO X F0 H0 (.Return (some e) pos :: st) D Γ := fun F H σ en =>
  .of (pss_cons (ps_ret pe_ev) (pss_ev (st := st))) (he F0 H0 F H σ en _ fun p vs F' H' g h1 h2 h3 h4 => R _ F' H' (en.gr.trans g) ⟨p, vs, rfl, en.gr.h.free h1, h2, h3, hs ▸ h4⟩)
/-- return of a list of one's own by its name -/
theorem go_retV {l' : List Rep} (B : BX X N sc k) (R : RT F0 H0 (.lst l') D) (hΓ : Γ[i]? = some (.ow l)) (hs : l = l') (hN : N[i]? = some x) (hv : Vis sc x) (hd : (x == ("__debug__" : Str)) = false := by decide) (hcd : (x == ("__classdict__" : Str)) = false := by decide) :
    GO X F0 H0 (.Return (some (.Name x p)) pos :: st) D Γ := fun F H σ en => by
  obtain ⟨q, vs, h1, h2, h3, h4, h5⟩ := en.ow hΓ
  exact .of (pss_cons (ps_ret (pe_var (i := i) (B.hN ▸ hN) (B.hsc ▸ hv) hd hcd)) (pss_ev (st := st))) ⟨_, h1, R _ F H en.gr ⟨q, vs, rfl, h5, h2, h3, hs ▸ h4⟩⟩
theorem go_break (h : ∀ F H σ, En F0 H0 F H σ Γ → D.bk σ H) : GO X F0 H0 (.Break pos :: st) D Γ := fun F H σ en => .of (pss_cons ps_break (pss_ev (st := st))) (h F H σ en)
/-- a list of one's own stands still from here on -/
theorem go_froz (i : Nat) (hΓ : Γ[i]? = some (.ow l)) (h : GO X F0 H0 st D (Γ.set i (.im (rLst X.K l)))) : GO X F0 H0 st D Γ := fun F H σ en => by
  obtain ⟨F', s1, s2, en'⟩ := en.freeze (K := X.K) hΓ
  exact h F' H σ en'
/-- x.append(e), x a list of one's own -/
theorem go_append {apos ps2 : Pos} (B : BX X N sc k) (hΓ : Γ[i]? = some (.ow l)) (he : DE X Γ e r) (hl : l.length < sizeLine) (hN : N[i]? = some x) (hv : Vis sc x) (h : GO X F0 H0 st D (Γ.set i (.ow (l ++ [r]))))
    (hd : (x == ("__debug__" : Str)) = false := by decide) (hcd : (x == ("__classdict__" : Str)) = false := by decide)
    (hbase : attributeBase (.Name x p) "append" X.env (eval (.Name x p) X.env) = eval (.Name x p) X.env := by rfl)
    (hfew : ((backTo pos (starEach (e :: []) X.env)).all (fun x => !x.1) && (backToKw pos (keywordEach [] X.env)).all (fun x => x.1.isSome)
      && decide ((e :: []).length + ([] : List Keyword).length + (if ([] : List Keyword).isEmpty then 0 else 1) < 30)) = true := by rfl)
    (hline : (apos.endLine == pos.line) = true := by rfl) (hs : starEach (e :: []) X.env = (false, eval e X.env) :: starEach [] X.env := by rfl) (hplain : (backTo pos (starEach [] X.env)).any (·.1) = false := by rfl)
    (hsw : swapsWith (.Call (.Attribute (.Name x p) "append" apos) [e] [] pos) none ps2.line X.env = pure false := by rfl) :
    GO X F0 H0 (.Expr (.Call (.Attribute (.Name x p) "append" apos) [e] [] pos) ps2 :: st) D Γ := fun F H σ en => by
  obtain ⟨q, vs, h1, h2, h3, h4, h5⟩ := en.ow hΓ
  refine .of (pss_cons (ps_expr (pe_bm PySem.F.plainAttrs_list PySem.F.slot_list_append PySem.F.type_list_append mt_append (pe_var (i := i) (B.hN ▸ hN) (B.hsc ▸ hv) hd hcd) (pa_cons pe_ev pa_nil hs) hbase hfew hline hs hplain) hsw) pss_ev) ?_
  refine ⟨.ref q, h1, .inl ⟨rfl, vs, SqL.of h3⟩, ?_⟩
  refine he F0 H0 F H σ en _ fun v F' H' g hv => ?_
  have en' := en.grow g
  refine ⟨q, vs, v, rfl, rfl, g.h _ _ h3, by rw [← h4.len]; exact hl, ?_⟩
  exact h F' _ σ (en'.put hΓ h1 ((h4.mono g.f).snoc hv))
end

/-! ### a def keeps its promise -/
/-- the def st, under the name x -/
structure TD (K : PySem.W.Frag) (mg : Str → Option Value) (x : Str) (st : Stmt) : Prop where
  ex : ∃ f fd, Fun K x x st f fd ∧ mg x = some (.ref f)
theorem en_start {F H : Hp} {N : List Str} {rs : List Rep} {vs : List V} (s : Same F H) (h : RL F rs vs) (hl : rs.length ≤ N.length) : En F H F H (L2.start N vs) (rs.map Sl.im ++ List.replicate (N.length - rs.length) .any) where
  gr := .refl s
  len := by
    unfold L2.start
    have := h.len
    simp
    omega
  ok i t x h1 h2 := by
    have hlen := h.len
    by_cases hi : i < rs.length
    · rw [List.getElem?_append_left (by simpa using hi), List.getElem?_map] at h1
      unfold L2.start at h2
      rw [List.getElem?_append_left (by simp; omega), List.getElem?_map] at h2
      cases e : rs[i]? with
      | none => rw [e] at h1; cases h1
      | some r =>
        rw [e] at h1
        cases h1
        obtain ⟨v, k1, k2⟩ := h.get e
        rw [k1] at h2
        cases h2
        exact ⟨v, rfl, k2⟩
    · rw [List.getElem?_append_right (by simpa using hi), List.getElem?_replicate] at h1
      split at h1
      · cases h1
        trivial
      · cases h1
  own i p l h1 h2 := by
    by_cases hi : i < rs.length
    · rw [List.getElem?_append_left (by simpa using hi), List.getElem?_map] at h1
      cases e : rs[i]? with
      | none => rw [e] at h1; cases h1
      | some r => rw [e] at h1; cases h1
    · rw [List.getElem?_append_right (by simpa using hi), List.getElem?_replicate] at h1
      split at h1 <;> cases h1
  sep i j p l l' h1 := by
    by_cases hi : i < rs.length
    · rw [List.getElem?_append_left (by simpa using hi), List.getElem?_map] at h1
      cases e : rs[i]? with
      | none => rw [e] at h1; cases h1
      | some r => rw [e] at h1; cases h1
    · rw [List.getElem?_append_right (by simpa using hi), List.getElem?_replicate] at h1
      split at h1 <;> cases h1
section
variable {P : Program} {w : World} {K : PySem.W.Frag} {mg : Str → Option Value} {base : Heap} {k : Nat} {x : Str} {st : Stmt} {N ps : List Str} {ι : Type} {pre : ι → Prop} {args : ι → List Rep} {res : ι → Ret}
/-- a def that raises nothing -/
theorem cal_ok (T : TD K mg x st) (S : FnScope N ps (defScope st)) (hn : ∀ g, (args g).length = ps.length)
    (hb : ∀ (kV doc pm : Value) (an : Option Addr) (cdv ct : Value) (us : List Value), us.length = ps.length → bindArgs (PySem.W.fnOf x x (defArgs st) (defBody st) (defScope st) .none kV doc pm an cdv ct) ⟨us, []⟩ = pure (ps.zip us))
    (body : ∀ (X : Cx), X.prog = P → X.w = w → X.K = K → X.mg = mg → X.base = base → BX X N (defScope st) k → (∀ x : Str, X.fn x = true) → ∀ (g : ι) (F0 H0 : Hp) (D : Ends), pre g → RT F0 H0 (res g) D → (∀ σ H', D.nx σ H' = D.rt .non H') →
      GO X F0 H0 (defBody st) D ((args g).map Sl.im ++ List.replicate (N.length - ps.length) .any)) : Cal P w K mg base (k + 1) x (Pm pre args res) := by
  obtain ⟨f, fd, F, hm⟩ := T.ex
  refine ⟨f, fd, ps, ?_, hm, F.kp, F.binds hb⟩
  refine FnOk.wide (F.ok S (fun vs H Q E h => ?_) (fun cdv A outer s H vs Q E hr h => ?_))
  · obtain ⟨g, F1, _, _, h1, _⟩ := h
    rw [← h1.len, hn]
  · obtain ⟨g, F1, hp, hs, h1, q⟩ := h
    refine ⟨_, pss_ev, ?_⟩
    have hpl : ps.length ≤ N.length := by have := congrArg List.length S.pre; rw [List.length_take] at this; omega
    have en := en_start (N := N) hs h1 (by rw [hn]; exact hpl)
    rw [hn] at en
    exact body _ rfl rfl rfl rfl rfl ⟨rfl, rfl, S.nd, hr, rfl, PassesOwn.never⟩ (fun _ => rfl) g F1 H { nx := fun _ H' => Q .non H', rt := Q } hp q (fun _ _ => rfl) F1 H _ en
end
end DL

set_option Elab.async false
set_option linter.all false
set_option maxRecDepth 100000
set_option maxHeartbeats 4000000
namespace DL
open PySem PySem.Spec PyProof.Rows L2

/-! ### targets -/
def GV (X : Cx) (tg : Expr) (v : V) (σ : L2.St) (H : Hp) (Q : L2.St → Hp → Prop) : Prop := ∀ (pins : List (Addr × Obj)) (s : Shared) (u : Value), Inv X pins σ H s → RelV v u → wpAny (model X.prog X.w) X.A (assign tg X.env u) (fun _ s' => ∃ σ' H', Inv X pins σ' H' s' ∧ Q σ' H') X.xe s
theorem pg_ev {X : Cx} {tg : Expr} : PG X tg (GV X tg) := ⟨fun pins s σ H v u Q I r h => h pins s u I r⟩
theorem GV.of {X : Cx} {tg : Expr} {t : TG} {v : V} {σ : L2.St} {H : Hp} {Q : L2.St → Hp → Prop} (h : PG X tg t) (q : t v σ H Q) : GV X tg v σ H Q := fun pins s u I r => h.run pins s σ H v u Q I r q
def GVs (X : Cx) (ts : List Expr) (vs : List V) (σ : L2.St) (H : Hp) (Q : L2.St → Hp → Prop) : Prop := ∀ (pins : List (Addr × Obj)) (s : Shared) (us : List Value), Inv X pins σ H s → Vals vs us → wpAny (model X.prog X.w) X.A (assignInOrder ((assignEach ts X.env).map (·.2)) us) (fun _ s' => ∃ σ' H', Inv X pins σ' H' s' ∧ Q σ' H') X.xe s
/-- two states of the slots that part at ws alone -/
def Off (ws : List Nat) (σ σ' : L2.St) : Prop := ∀ us : List Nat, (∀ i ∈ ws, i ∈ us) → wipe σ' us = wipe σ us
theorem wipe_get : ∀ (us : List Nat) (σ : L2.St) (j : Nat), (wipe σ us)[j]? = if j ∈ us ∧ j < σ.length then some none else σ[j]?
  | [], σ, j => by simp [wipe]
  | u :: us, σ, j => by
    unfold wipe
    by_cases h : u = j
    · subst h
      by_cases hl : u < σ.length
      · rw [List.getElem?_set_self (by rw [wipe_length]; exact hl), if_pos ⟨List.mem_cons_self, hl⟩]
      · rw [List.getElem?_eq_none (by rw [List.length_set, wipe_length]; omega), if_neg (fun z => hl z.2), List.getElem?_eq_none (by omega)]
    · rw [List.getElem?_set_ne h, wipe_get us σ j]
      by_cases hm : j ∈ us ∧ j < σ.length
      · rw [if_pos hm, if_pos ⟨List.mem_cons_of_mem _ hm.1, hm.2⟩]
      · rw [if_neg hm, if_neg]
        rintro ⟨z, z2⟩
        rcases List.mem_cons.mp z with z | z
        · exact h z.symm
        · exact hm ⟨z, z2⟩
theorem off_set {σ : L2.St} {i : Nat} {x : Option V} : Off [i] σ (σ.set i x) := fun us h => by
  apply List.ext_getElem?
  intro j
  rw [wipe_get, wipe_get, List.length_set]
  by_cases hj : j ∈ us ∧ j < σ.length
  · rw [if_pos hj, if_pos hj]
  · rw [if_neg hj, if_neg hj]
    by_cases hi : i = j
    · subst hi
      have : ¬ i < σ.length := fun z => hj ⟨h i (by simp), z⟩
      rw [List.getElem?_eq_none (by simpa using this), List.getElem?_eq_none (by omega)]
    · rw [List.getElem?_set_ne hi]
theorem Off.trans {a b : List Nat} {σ σ1 σ2 : L2.St} (h : Off a σ σ1) (k : Off b σ1 σ2) : Off (a ++ b) σ σ2 := fun us z =>
  (k us fun i hi => z i (List.mem_append_right _ hi)).trans (h us fun i hi => z i (List.mem_append_left _ hi))
def DG (X : Cx) (Γ : List Sl) (tg : Expr) (r : Rep) (Γ' : List Sl) (ws : List Nat) : Prop := ∀ F0 H0 F H σ v, En F0 H0 F H σ Γ → r.P F v → ∀ Q : L2.St → Hp → Prop, (∀ F' H' σ', Gr F H F' H' → En F0 H0 F' H' σ' Γ' → Off ws σ σ' → Q σ' H') → GV X tg v σ H Q
def DGs (X : Cx) (Γ : List Sl) (ts : List Expr) (rs : List Rep) (Γ' : List Sl) (ws : List Nat) : Prop := ∀ F0 H0 F H σ vs, En F0 H0 F H σ Γ → RL F rs vs → ∀ Q : L2.St → Hp → Prop, (∀ F' H' σ', Gr F H F' H' → En F0 H0 F' H' σ' Γ' → Off ws σ σ' → Q σ' H') → GVs X ts vs σ H Q
section
variable {X : Cx} {N : List Str} {sc : Scope} {k j : Nat} {Γ Γ' Γ1 : List Sl} {a b c e : Expr} {es rest : List Expr} {r ra rb rc r' : Rep} {rs l : List Rep} {pos p : Pos} {x : Str} {i : Nat} {ws ws' : List Nat}
theorem dg_name (B : BX X N sc k) (hN : N[i]? = some x) (hx : LocX X sc x) : DG X Γ (.Name x pos) r (Γ.set i (.im r)) [i] := fun F0 H0 F H σ v en hv Q q => by
  have hf : X.fn x = true ∨ X.env.scope.names.lookup x = some .local := by
    rcases hx with hx | hx
    · exact .inr (by rw [B.hsc]; exact hx)
    · exact .inl hx.2
  have hx : Loc sc x := hx.elim .inl fun z => .inr z.1
  exact .of (pg_name (i := i) (by rw [B.hN]; exact B.nd) (by rw [B.hN]; exact hN) (by rw [B.hsc]; exact hx) hf) (q F H _ (.refl en.gr.s) (en.setIm hv) off_set)
theorem dgs_nil : DGs X Γ [] [] Γ [] := fun F0 H0 F H σ vs en hv Q q pins s us I r => by
  cases hv
  cases r
  exact assignInOrder_nil ⟨σ, H, I, q F H σ (.refl en.gr.s) en fun _ _ => rfl⟩
theorem dgs_cons (h1 : DG X Γ e r Γ1 ws) (h2 : DGs X Γ1 es rs Γ' ws') (hs : (assignEach (e :: es) X.env).map (·.2) = assign e X.env :: (assignEach es X.env).map (·.2) := by rfl) : DGs X Γ (e :: es) (r :: rs) Γ' (ws ++ ws') := fun F0 H0 F H σ vs en hv Q q pins s us I rr => by
  cases hv with
  | cons v1 vt =>
    cases rr with
    | cons r1 rt =>
      rw [hs]
      refine assignInOrder_cons (thn (h1 F0 H0 F H σ _ en v1 (fun σ1 H1 => ∃ F1, Gr F H F1 H1 ∧ En F0 H0 F1 H1 σ1 Γ1 ∧ Off ws σ σ1) (fun F' H' σ' g en' o => ⟨F', g, en', o⟩) pins s _ I r1) fun _ s1 ⟨σ1, H1, I1, F1, g1, en1, o1⟩ => ?_)
      exact h2 F0 H0 F1 H1 σ1 _ en1 (RL.mono g1.f vt) Q (fun F' H' σ' g en' o => q F' H' σ' (g1.trans g) en' (o1.trans o)) pins s1 _ I1 rt
theorem dg_tup {n : Nat} (B : BX X N sc k) (h : DGs X Γ es rs Γ' ws) (hn : (assignEach es X.env).length = n := by rfl) (hl : rs.length = n := by rfl) (hst : (assignEach es X.env).findIdx? (·.1) = none := by rfl) : DG X Γ (.Tuple es j pos) (rTup X.K rs) Γ' ws := fun F0 H0 F H σ v en hv Q q => by
  obtain ⟨p, vs, rfl, h1, h2⟩ := hv
  refine .of (pg_tup (n := n) (t := GVs X es) B.calm ⟨fun pins s σ H vs us Q I r h => h pins s us I r⟩ hn hst) ?_
  exact ⟨p, vs, rfl, sqt_mono en.gr.s h1, by rw [← h2.len]; exact hl, h F0 H0 F H σ vs en h2 Q q⟩
end
/-! ### what a for or a comprehension walks -/
def IV (X : Cx) (tg it : Expr) (σ : L2.St) (H : Hp) (R : It → Hp → Prop) : Prop := ∀ (pins : List (Addr × Obj)) (s : Shared), Inv X pins σ H s → wpAny (model X.prog X.w) X.A (eval it X.env) (fun v s1 => wpAny (model X.prog X.w) X.A (pyIter v) (PIE X pins σ tg R) X.xe s1) X.xe s
theorem pi_ev {X : Cx} {tg it : Expr} : PI X tg it (IV X tg it) := ⟨fun pins s σ H R I h => h pins s I⟩
theorem IV.of {X : Cx} {tg it : Expr} {wi : TI} {σ : L2.St} {H : Hp} {R : It → Hp → Prop} (h : PI X tg it wi) (q : wi σ H R) : IV X tg it σ H R := fun pins s I => h.run pins s σ H R I q
/-- n turns, the i-th brings what is worth rr i -/
structure Wk (J : It) (F1 H1 : Hp) (n : Nat) (rr : Nat → Rep) : Prop where
  stop : ∀ i H, Same F1 H → n ≤ i → J.stop i H
  go : ∀ i H, Same F1 H → i < n → J.go i H
  yld : ∀ i F H x H', Same F1 F → Same F H → i < n → J.yld i H x H' → ∃ F', Gr F H F' H' ∧ (rr i).P F' x
def SR (X : Cx) (Γ : List Sl) (tg it : Expr) (n : Nat) (rr : Nat → Rep) : Prop := ∀ F0 H0 F H σ, En F0 H0 F H σ Γ → ∀ R : It → Hp → Prop, (∀ J F1 H1, Gr F H F1 H1 → Wk J F1 H1 n rr → R J H1) → IV X tg it σ H R
section
variable {X : Cx} {N : List Str} {sc : Scope} {k j : Nat} {Γ Γ' Γ1 : List Sl} {tg it it2 a b c e : Expr} {es rest : List Expr} {r ra rb rc r' : Rep} {rs l l2 : List Rep} {pos p : Pos} {x : Str} {i : Nat} {ws ws' : List Nat}
theorem sr_list (h : DE X Γ it (rLst X.K l)) : SR X Γ tg it l.length (fun i => l.getD i rNon) := fun F0 H0 F H σ en R q =>
  .of (pi_list pe_ev) (h F0 H0 F H σ en _ fun v F1 H1 g hv => by
    obtain ⟨p, vs, rfl, hs, hl⟩ := hv
    refine ⟨p, rfl, ⟨vs, g.s.seq hs⟩, q _ F1 H1 g ⟨fun i H2 s hi => ⟨vs, s.seq hs, by rw [← hl.len]; exact hi⟩, fun i H2 s hi => ?_, fun i F2 H2 x H' s s2 hi hy => ?_⟩⟩
    · have hi' : i < vs.length := hl.len ▸ hi
      exact ⟨vs, vs[i], s.seq hs, List.getElem?_eq_getElem hi'⟩
    · obtain ⟨rfl, hx⟩ := hy
      have hx' := hx vs (s2.seq (s.seq hs))
      obtain ⟨r, e, hr⟩ := hl.got hx'
      refine ⟨F2, .refl s2, ?_⟩
      show (l.getD i rNon).P F2 x
      rw [List.getD_eq_getElem?_getD, e]
      exact r.mono s hr)
theorem sr_range1 {n : Int} (B : BX X N sc k) (hm : X.mg "range" = none) (h : DE X Γ a (rInt n)) (hg : sc.names.lookup ("range" : Str) = some NameKind.globalImplicit) (hb : n < 2 ^ 62) (hb2 : -(2 ^ 62) ≤ n) (hs : starEach [a] X.env = [(false, eval a X.env)] := by rfl) :
    SR X Γ tg (.Call (.Name "range" p) [a] [] pos) n.toNat (fun i => rInt (i : Nat)) := fun F0 H0 F H σ en R q => by
  have hgl : Gl X "range" := by
    show X.env.scope.names.lookup _ = _
    rw [B.hsc]
    exact hg
  refine .of (pi_range1 hgl hm (pa_cons pe_ev pa_nil hs) hs) (h F0 H0 F H σ en _ fun v F1 H1 g hv => ?_)
  cases hv
  refine ⟨n, rfl, hb2, hb, q _ F1 H1 g ⟨fun i H2 s hi => hi, fun i H2 s hi => hi, fun i F2 H2 x H' s s2 hi hy => ?_⟩⟩
  obtain ⟨rfl, rfl⟩ := hy
  exact ⟨F2, .refl s2, by show V.int _ = V.int _; rw [Int.zero_add]⟩
theorem sr_zip {jj : Nat} {tpos : Pos} (B : BX X N sc k) (hm : X.mg "zip" = none) (h : DE X Γ it (rLst X.K l)) (h2 : DE X Γ it2 (rLst X.K l2)) (hg : sc.names.lookup ("zip" : Str) = some NameKind.globalImplicit)
    (hs : starEach [it, it2] X.env = (false, eval it X.env) :: starEach [it2] X.env := by rfl) (hs2 : starEach [it2] X.env = (false, eval it2 X.env) :: starEach [] X.env := by rfl) (hpl : (backTo pos (starEach [it2] X.env)).any (·.1) = false := by rfl) :
    SR X Γ (.Tuple es jj tpos) (.Call (.Name "zip" p) [it, it2] [] pos) (min l.length l2.length) (fun i => rTup X.K [l.getD i rNon, l2.getD i rNon]) := fun F0 H0 F H σ en R q => by
  have hgl : Gl X "zip" := by
    show X.env.scope.names.lookup _ = _
    rw [B.hsc]
    exact hg
  refine .of (pi_zip hgl hm (pa_cons pe_ev (pa_cons pe_ev pa_nil hs2) hs) hs hpl) (h F0 H0 F H σ en _ fun v F1 H1 g hv => h2 F0 H0 F1 H1 σ (en.grow g) _ fun v2 F3 H3 g3 hv2 => ?_)
  obtain ⟨p, vs, rfl, hsq, hl⟩ := hv
  obtain ⟨p2, vs2, rfl, hsq2, hl2⟩ := hv2
  have hsq := g3.f.seq hsq
  have hl := hl.mono g3.f
  refine ⟨p, p2, vs, vs2, rfl, g3.s.seq hsq, g3.s.seq hsq2, q _ F3 H3 (g.trans g3) ⟨fun i H2 s hi => ⟨vs, vs2, s.seq hsq, s.seq hsq2, ?_⟩, fun i H2 s hi => ?_, fun i F2 H2 x H' s s2 hi hy => ?_⟩⟩
  · rw [← hl.len, ← hl2.len]
    omega
  · have h3 := hl.len
    have h4 := hl2.len
    have i1 : i < vs.length := by omega
    have i2 : i < vs2.length := by omega
    exact ⟨vs, vs2, vs[i], vs2[i], s.seq hsq, s.seq hsq2, List.getElem?_eq_getElem i1, List.getElem?_eq_getElem i2⟩
  · obtain ⟨T, y, z, rfl, nT, rfl, f1, f2⟩ := hy
    obtain ⟨r1, e1, k1⟩ := hl.got (f1 vs (s2.seq (s.seq hsq)))
    obtain ⟨r2, e2, k2⟩ := hl2.got (f2 vs2 (s2.seq (s.seq hsq2)))
    refine ⟨_, .new s2 nT, T, [y, z], rfl, SqT.of upd_same, ?_⟩
    have sn : Same F2 (upd F2 T (.tup [y, z])) := same_new (s2.free nT)
    rw [List.getD_eq_getElem?_getD, List.getD_eq_getElem?_getD, e1, e2]
    exact .cons (r1.mono (s.trans sn) k1) (.cons (r2.mono (s.trans sn) k2) .nil)
theorem sr_enum {jj : Nat} {tpos : Pos} (B : BX X N sc k) (hm : X.mg "enumerate" = none) (h : DE X Γ it (rLst X.K l)) (hg : sc.names.lookup ("enumerate" : Str) = some NameKind.globalImplicit) (hs : starEach [it] X.env = [(false, eval it X.env)] := by rfl) :
    SR X Γ (.Tuple es jj tpos) (.Call (.Name "enumerate" p) [it] [] pos) l.length (fun i => rTup X.K [rInt (i : Nat), l.getD i rNon]) := fun F0 H0 F H σ en R q => by
  have hgl : Gl X "enumerate" := by
    show X.env.scope.names.lookup _ = _
    rw [B.hsc]
    exact hg
  refine .of (pi_enum hgl hm (pa_cons pe_ev pa_nil hs) hs) (h F0 H0 F H σ en _ fun v F1 H1 g hv => ?_)
  obtain ⟨p, vs, rfl, hsq, hl⟩ := hv
  refine ⟨p, vs, rfl, g.s.seq hsq, q _ F1 H1 g ⟨fun i H2 s hi => ⟨vs, s.seq hsq, ?_⟩, fun i H2 s hi => ?_, fun i F2 H2 x H' s s2 hi hy => ?_⟩⟩
  · rw [← hl.len]
    exact hi
  · have i1 : i < vs.length := hl.len ▸ hi
    exact ⟨vs, vs[i], s.seq hsq, List.getElem?_eq_getElem i1⟩
  · obtain ⟨T, y, rfl, nT, rfl, f1⟩ := hy
    obtain ⟨r1, e1, k1⟩ := hl.got (f1 vs (s2.seq (s.seq hsq)))
    refine ⟨_, .new s2 nT, T, _, rfl, SqT.of upd_same, ?_⟩
    have sn : Same F2 (upd F2 T (.tup [.int (i : Nat), y])) := same_new (s2.free nT)
    rw [List.getD_eq_getElem?_getD, e1]
    exact .cons rfl (.cons (r1.mono (s.trans sn) k1) .nil)

/-! ### for -/
structure Up (F0 F1 H0 : Hp) : Prop where
  up : ∀ F H, Gr F1 H0 F H → Gr F0 H0 F H
variable {F0 H0 F1 F H : Hp} {σ : L2.St} {st body : List Stmt} {D : Ends} {n : Nat} {rr : Nat → Rep}
theorem Up.en (u : Up F0 F1 H0) (en : En F1 H0 F H σ Γ) : En F0 H0 F H σ Γ := ⟨u.up _ _ en.gr, en.len, en.ok, en.own, en.sep⟩
theorem Up.rt {ret : Ret} (u : Up F0 F1 H0) (h : RT F0 H0 ret D) : RT F1 H0 ret D := fun v F' H' g hv => h v F' H' (u.up _ _ g) (by
  cases ret with
  | val r => exact hv
  | lst l => exact hv
  | tfr K l rs => exact hv)
/-- what is wanted behind a turn -/
def LN (F1 H0 : Hp) (Iv : Nat → List Sl → Prop) (j : Nat) : L2.St → Hp → Prop := fun σ H => ∃ F Γ, En F1 H0 F H σ Γ ∧ Iv j Γ
theorem go_brk (u : Up F0 F1 H0) {D0 : Ends} (h : GO X F0 H0 body D0 Γ) (e : D.bk = XS X body D0 := by rfl) : GO X F1 H0 (.Break pos :: st) D Γ := go_break fun F H σ en => by rw [e]; exact h F H σ (u.en en)
theorem go_for {ws : List Nat} (B : BX X N sc k) (Iv : Nat → List Sl → Prop) (hi : SR X Γ tg it n rr) {Γ0 : List Sl} (hle : SlLe Γ Γ0) (h0 : Iv 0 Γ0) (G1 : Nat → List Sl → List Sl)
    (hg : ∀ i Γ', i < n → Iv i Γ' → DG X Γ' tg (rr i) (G1 i Γ') ws)
    (hb : ∀ F1, Up F0 F1 H0 → ∀ i Γ', i < n → Iv i Γ' → GO X F1 H0 body { D with nx := LN F1 H0 Iv (i + 1), ct := LN F1 H0 Iv (i + 1), bk := XS X st D } (G1 i Γ'))
    (he : ∀ Γ', Iv n Γ' → GO X F0 H0 st D Γ') (hs : ∀ x, foldedSetIterable it X.env x = pure x := by intro _; rfl) : GO X F0 H0 (.For tg it body [] pos :: st) D Γ := fun F H σ en => by
  refine .of (pss_cons (ps_for B.own B.calm pi_ev pg_ev pss_ev hs) pss_ev) ?_
  refine hi F0 H0 F H σ en _ fun J F1 H1 g wk => ?_
  have en1 := en.grow g
  have u : Up F0 F1 H0 := ⟨fun F2 H2 g2 => ⟨en1.gr.f.trans g2.f, g2.h, g2.s, fun a ha z => g2.n a ha (en1.gr.n a ha z)⟩⟩
  have start : En F1 H0 F1 H1 σ Γ := ⟨⟨Same.refl _, en1.gr.h, g.s, fun _ _ z => z⟩, en1.len, en1.ok, en1.own, en1.sep⟩
  refine ⟨fun i m σ H => m = n - i ∧ i ≤ n ∧ LN F1 H0 Iv i σ H, ⟨n, by simp, Nat.zero_le _, F1, Γ0, start.le hle, h0⟩, fun i m σ2 H2 hw => ?_⟩
  obtain ⟨rfl, hle, F2, Γ2, en2, iv⟩ := hw
  have s2 : Same F1 H2 := en2.gr.f.trans en2.gr.s
  by_cases hlt : i < n
  · refine .inr ⟨wk.go i H2 s2 hlt, LN F1 H0 Iv (i + 1), fun σ' H' h => ⟨n - (i + 1), by omega, rfl, hlt, h⟩, fun x H' hy => ?_⟩
    obtain ⟨F3, g3, hx⟩ := wk.yld i F2 H2 x H' en2.gr.f en2.gr.s hlt hy
    exact hg i Γ2 hlt iv F1 H0 F3 H' σ2 x (en2.grow g3) hx _ fun F4 H4 σ4 g4 en4 _ => hb F1 u i Γ2 hlt iv F4 H4 σ4 en4
  · have e : i = n := by omega
    subst e
    exact .inl ⟨wk.stop i H2 s2 (Nat.le_refl _), he Γ2 iv F2 H2 σ2 (u.en en2)⟩
/-- a, b = e -/
theorem go_asg {ws : List Nat} (he : DE X Γ e r) (hg : DG X Γ tg r Γ' ws) (h : GO X F0 H0 st D Γ') (hs : swapsWithSole [tg] e pos.line X.env = pure false := by rfl) (hw : swappedStores [tg] e X.env = pure none := by rfl)
    (h1 : (assignEach [tg] X.env).map (·.2) = [assign tg X.env] := by rfl) : GO X F0 H0 (.Assign [tg] e pos :: st) D Γ := fun F H σ en => by
  refine .of (pss_cons (ps_asg pe_ev pg_ev hs hw h1) pss_ev) ?_
  exact he F0 H0 F H σ en _ fun v F1 H1 g hv => hg F0 H0 F1 H1 σ v (en.grow g) hv _ fun F2 H2 σ2 g2 en2 _ => h F2 H2 σ2 en2
/-- a, b = x, y -/
theorem go_par {i j : Nat} {y : Str} {px py pt : Pos} {kt k2 : Nat} {pt2 : Pos} (B : BX X N sc k) (ha : DE X Γ a ra) (hb : DE X Γ b rb) (hi : N[i]? = some x) (hj : N[j]? = some y) (hij : i ≠ j) (hx : sc.names.lookup x = some .local) (hy : sc.names.lookup y = some .local)
    (h : GO X F0 H0 st D ((Γ.set i (.im ra)).set j (.im rb))) (hw : ∀ env : Env, env.scope = sc → swappedStores [.Tuple [.Name x px, .Name y py] kt pt] (.Tuple [a, b] k2 pt2) env = pure (some [x, y]))
    (hs : swapsWithSole [.Tuple [.Name x px, .Name y py] kt pt] (.Tuple [a, b] k2 pt2) pos.line X.env = pure false := by rfl)
    (hs1 : starEach [a, b] X.env = (false, eval a X.env) :: starEach [b] X.env := by rfl) (hs2 : starEach [b] X.env = (false, eval b X.env) :: starEach [] X.env := by rfl) :
    GO X F0 H0 (.Assign [.Tuple [.Name x px, .Name y py] kt pt] (.Tuple [a, b] k2 pt2) pos :: st) D Γ := fun F H σ en => by
  refine .of (pss_cons (ps_par (i := i) (j := j) B.calm (by rw [B.hN]; exact B.nd) (by rw [B.hN]; exact hi) (by rw [B.hN]; exact hj) hij (by rw [B.hsc]; exact hx) (by rw [B.hsc]; exact hy) (pa_cons pe_ev (pa_cons pe_ev pa_nil hs2) hs1) (hw X.env B.hsc) hs) pss_ev) ?_
  exact ha F0 H0 F H σ en _ fun v F1 H1 g1 h1 => hb F0 H0 F1 H1 σ (en.grow g1) _ fun u F2 H2 g2 h2 => ⟨v, u, rfl, h F2 H2 _ (((en.grow g1).grow g2).setIm (ra.mono g2.f h1) |>.setIm h2)⟩
end
end DL

set_option Elab.async false
set_option linter.all false
set_option maxRecDepth 100000
set_option maxHeartbeats 4000000
namespace DL
open PySem PySem.Spec PyProof.Rows L2
theorem RL.atI {F : Hp} {l : List Rep} {vs : List V} {i : Int} {r : Rep} (h : RL F l vs) (e : L2.atI l i = some r) : ∃ v, L2.atI vs i = some v ∧ r.P F v := by
  unfold L2.atI at e ⊢
  rw [h.len] at e
  cases q : ixN vs.length i with
  | none => rw [q] at e; cases e
  | some j =>
    rw [q] at e
    exact h.get e
def cutR {α : Type} (xs : List α) (lo hi : Option Int) : List α := (xs.drop (HT.sIx xs.length 0 lo)).take (HT.sIx xs.length xs.length hi - HT.sIx xs.length 0 lo)
theorem RL.cut {F : Hp} {l : List Rep} {vs : List V} {lo hi : Option Int} (h : RL F l vs) : RL F (cutR l lo hi) (cutV vs lo hi) := by
  unfold cutR cutV
  rw [h.len]
  exact (h.drop _).take _
theorem cutR_map {α β : Type} (f : α → β) (xs : List α) (lo hi : Option Int) : cutR (xs.map f) lo hi = (cutR xs lo hi).map f := by
  unfold cutR
  rw [List.length_map, List.map_take, List.map_drop]
theorem cutR_to {α : Type} (xs : List α) (n : Nat) : cutR xs none (some (n : Int)) = xs.take n := by
  unfold cutR
  rw [HT.sIx_none, HT.sIx_nat, List.drop_zero, Nat.sub_zero]
  by_cases h : n ≤ xs.length
  · rw [Nat.min_eq_left h]
  · rw [Nat.min_eq_right (by omega), List.take_of_length_le (Nat.le_refl _), List.take_of_length_le (by omega)]
theorem cutR_from {α : Type} (xs : List α) (n : Nat) : cutR xs (some (n : Int)) none = xs.drop n := by
  unfold cutR
  rw [HT.sIx_none, HT.sIx_nat]
  by_cases h : n ≤ xs.length
  · rw [Nat.min_eq_left h, List.take_of_length_le (by rw [List.length_drop]; omega)]
  · rw [Nat.min_eq_right (by omega), Nat.sub_self, List.take_zero, List.drop_eq_nil_of_le (by omega)]
section
variable {X : Cx} {N : List Str} {sc : Scope} {k j : Nat} {Γ Γ' Γ1 : List Sl} {tg it a b c e : Expr} {es rest : List Expr} {r ra rb rc r' : Rep} {rs l l2 : List Rep} {pos p p2 : Pos} {x : Str} {i : Nat} {ws ws' : List Nat} {F0 H0 F1 F H : Hp} {σ : L2.St} {st body : List Stmt} {D : Ends}
/-! places -/
theorem de_ixr {r2 : R2} (hr : IxR X r2) (h2 : B2 r2 ra rb rc) (ha : DE X Γ a ra) (hb : DE X Γ b rb) (hs : PlainIx b := by exact fun _ _ => rfl) : DE X Γ (.Subscript a b pos) rc := fun F0 H0 F H σ en Q q =>
  .of (pe_ix hr pe_ev pe_ev hs) (two ha hb h2 en q)
theorem de_ixL {n : Int} (h : atI l n = some r) (ha : DE X Γ a (rLst X.K l)) (hb : DE X Γ b (rInt n)) (hs : PlainIx b := by exact fun _ _ => rfl) : DE X Γ (.Subscript a b pos) r :=
  de_ixr ix_list (fun F H x y s h1 h2 Q q => by
    obtain ⟨p, vs, rfl, k1, k2⟩ := h1
    cases h2
    obtain ⟨v, k3, k4⟩ := k2.atI h
    exact ⟨p, vs, n, v, rfl, rfl, s.seq k1, k3, q v F H (.refl s) k4⟩) ha hb hs
theorem de_ixT {n : Int} (h : atI l n = some r) (ha : DE X Γ a (rTup X.K l)) (hb : DE X Γ b (rInt n)) (hs : PlainIx b := by exact fun _ _ => rfl) : DE X Γ (.Subscript a b pos) r :=
  de_ixr ix_tup (fun F H x y s h1 h2 Q q => by
    obtain ⟨p, vs, rfl, k1, k2⟩ := h1
    cases h2
    obtain ⟨v, k3, k4⟩ := k2.atI h
    exact ⟨p, vs, n, v, rfl, rfl, sqt_mono s k1, k3, q v F H (.refl s) k4⟩) ha hb hs
/-- an item of a list of one's own -/
theorem de_ixO {n : Int} (B : BX X N sc k) (h : atI l n = some r) (hΓ : Γ[i]? = some (.ow l)) (hN : N[i]? = some x) (hv : Vis sc x) (hb : DE X Γ b (rInt n)) (hs : PlainIx b := by exact fun _ _ => rfl) (hd : (x == ("__debug__" : Str)) = false := by decide) (hcd : (x == ("__classdict__" : Str)) = false := by decide) :
    DE X Γ (.Subscript (.Name x p) b pos) r := fun F0 H0 F H σ en Q q => by
  obtain ⟨p, vs, h1, h2, h3, h4, h5⟩ := en.ow hΓ
  refine .of (pe_ix ix_list (pe_var (i := i) (B.hN ▸ hN) (B.hsc ▸ hv) hd hcd) pe_ev hs) ⟨_, h1, hb F0 H0 F H σ en _ fun v F' H' g hv => ?_⟩
  cases hv
  obtain ⟨v, k3, k4⟩ := h4.atI h
  exact ⟨p, vs, n, v, rfl, rfl, SqL.of (g.h _ _ h3), k3, q v F' H' g (r.mono g.f k4)⟩
/-- x[i] = e, x a list of one's own -/
theorem go_put {n : Int} {jj : Nat} {tpos : Pos} (B : BX X N sc k) (he : DE X Γ e r) (hb : DE X Γ b (rInt n)) (hj : ixN l.length n = some jj) (hΓ : Γ[i]? = some (.ow l)) (hN : N[i]? = some x) (hv : Vis sc x) (h : GO X F0 H0 st D (Γ.set i (.ow (l.set jj r))))
    (hd : (x == ("__debug__" : Str)) = false := by decide) (hcd : (x == ("__classdict__" : Str)) = false := by decide)
    (ha : ∀ v, assign (.Subscript (.Name x p) b tpos) X.env v = (do
      let ov ← holding [v] (eval (.Name x p) X.env)
      let iv ← holding [v, ov] (eval b X.env)
      standAt tpos
      holding [v, ov, iv] (setItem ov iv v)
      release [v, ov, iv] []) := by intro _; rfl)
    (hs : swapsWithSole [.Subscript (.Name x p) b tpos] e pos.line X.env = pure false := by rfl) (hw : swappedStores [.Subscript (.Name x p) b tpos] e X.env = pure none := by rfl)
    (h1 : (assignEach [.Subscript (.Name x p) b tpos] X.env).map (·.2) = [assign (.Subscript (.Name x p) b tpos) X.env] := by rfl) :
    GO X F0 H0 (.Assign [.Subscript (.Name x p) b tpos] e pos :: st) D Γ := fun F H σ en => by
  refine .of (pss_cons (ps_asg pe_ev (pg_sub (pe_var (i := i) (B.hN ▸ hN) (B.hsc ▸ hv) hd hcd) pe_ev set_list ha) hs hw h1) pss_ev) ?_
  refine he F0 H0 F H σ en _ fun v F1 H1 g1 hv1 => ?_
  have en1 := en.grow g1
  obtain ⟨q, vs, k1, k2, k3, k4, k5⟩ := en1.ow hΓ
  refine ⟨_, k1, hb F0 H0 F1 H1 σ en1 _ fun v2 F2 H2 g2 hv2 => ?_⟩
  cases hv2
  have en2 := en1.grow g2
  refine ⟨q, vs, n, jj, rfl, rfl, g2.h _ _ k3, by rw [← k4.len]; exact hj, ?_⟩
  exact h F2 _ σ (en2.put hΓ k1 ((k4.mono g2.f).set (r.mono g2.f hv1) jj))
/-! lengths -/
theorem cb_lenL : CB (fun xs H Q => ∃ p ys, xs = [V.ref p] ∧ (SqL X.K H p ys ∨ SqT X.K H p ys) ∧ Q (.int ys.length) H) [rLst X.K l] (rInt l.length) := fun F H vs s h Q q => by
  obtain ⟨v, rfl, p, ys, rfl, k1, k2⟩ := rl1 h
  exact ⟨p, ys, rfl, .inl (s.seq k1), q _ F H (.refl s) (by rw [k2.len]; rfl)⟩
theorem cb_lenT : CB (fun xs H Q => ∃ p ys, xs = [V.ref p] ∧ (SqL X.K H p ys ∨ SqT X.K H p ys) ∧ Q (.int ys.length) H) [rTup X.K l] (rInt l.length) := fun F H vs s h Q q => by
  obtain ⟨v, rfl, p, ys, rfl, k1, k2⟩ := rl1 h
  exact ⟨p, ys, rfl, .inr (sqt_mono s k1), q _ F H (.refl s) (by rw [k2.len]; rfl)⟩
theorem de_lenL (B : BX X N sc k) (hm : X.mg "len" = none) (h : DE X Γ e (rLst X.K l)) (hg : sc.names.lookup ("len" : Str) = some NameKind.globalImplicit) (he : starEach (e :: []) X.env = (false, eval e X.env) :: starEach [] X.env := by rfl) : DE X Γ (.Call (.Name "len" p) [e] [] pos) (rInt l.length) :=
  de_blt B call_len_seq cb_lenL hm PySem.boot_len (da_cons h da_nil he) hg (he := he)
theorem de_lenT (B : BX X N sc k) (hm : X.mg "len" = none) (h : DE X Γ e (rTup X.K l)) (hg : sc.names.lookup ("len" : Str) = some NameKind.globalImplicit) (he : starEach (e :: []) X.env = (false, eval e X.env) :: starEach [] X.env := by rfl) : DE X Γ (.Call (.Name "len" p) [e] [] pos) (rInt l.length) :=
  de_blt B call_len_seq cb_lenT hm PySem.boot_len (da_cons h da_nil he) hg (he := he)
/-- len of a list of one's own -/
theorem de_lenO (B : BX X N sc k) (hm : X.mg "len" = none) (hΓ : Γ[i]? = some (.ow l)) (hN : N[i]? = some x) (hv : Vis sc x) (hg : sc.names.lookup ("len" : Str) = some NameKind.globalImplicit) (hd : (x == ("__debug__" : Str)) = false := by decide) (hcd : (x == ("__classdict__" : Str)) = false := by decide)
    (he : starEach (Expr.Name x p2 :: []) X.env = (false, eval (.Name x p2) X.env) :: starEach [] X.env := by rfl) : DE X Γ (.Call (.Name "len" p) [.Name x p2] [] pos) (rInt l.length) := fun F0 H0 F H σ en Q q => by
  obtain ⟨pp, vs, h1, h2, h3, h4, h5⟩ := en.ow hΓ
  have hgl : Gl X "len" := by
    show X.env.scope.names.lookup _ = _
    rw [B.hsc]
    exact hg
  exact .of (pe_callB call_len_seq hgl hm PySem.boot_len (pa_cons (pe_var (i := i) (B.hN ▸ hN) (B.hsc ▸ hv) hd hcd) pa_nil he) (he := he)) ⟨_, h1, pp, vs, rfl, .inl (SqL.of h3), q _ F H (.refl en.gr.s) (by rw [h4.len]; rfl)⟩
/-! list(xs), xs[a:b]: new lists -/
theorem dl_list (B : BX X N sc k) (hm : X.mg "list" = none) (h : DE X Γ e (rLst X.K l)) (hg : sc.names.lookup ("list" : Str) = some NameKind.globalImplicit) (he : starEach (e :: []) X.env = (false, eval e X.env) :: starEach [] X.env := by rfl) : DL X Γ (.Call (.Name "list" p) [e] [] pos) l := fun F0 H0 F H σ en Q q => by
  have hgl : Gl X "list" := by
    show X.env.scope.names.lookup _ = _
    rw [B.hsc]
    exact hg
  refine .of (pe_callTy call_list_of hgl hm (by decide +kernel) (pa_cons pe_ev pa_nil he) (he := he)) (h F0 H0 F H σ en _ fun v F1 H1 g hv => ?_)
  obtain ⟨p, vs, rfl, k1, k2⟩ := hv
  exact ⟨p, vs, rfl, .inl (g.s.seq k1), fun q' hq => q q' vs F1 _ (g.trans (.newOwn g.s hq)) (g.h.free hq) (g.s.free hq) upd_same k2⟩
def DO (X : Cx) (Γ : List Sl) (e : Option Expr) (o : Option Int) : Prop := match e, o with
  | none, none => True
  | some e, some n => DE X Γ e (rInt n)
  | _, _ => False
theorem dl_slice {lo hi : Option Expr} {ol oh : Option Int} (h : DE X Γ e (rLst X.K l)) (h1 : DO X Γ lo ol) (h2 : DO X Γ hi oh) : DL X Γ (.Subscript e (.Slice lo hi none p2) pos) (cutR l ol oh) := fun F0 H0 F H σ en Q q => by
  have part : ∀ {o : Option Expr} {w : Option Int}, DO X Γ o w → ∃ t, PO X o t ∧ ∀ F H, En F0 H0 F H σ Γ → ∀ R : Option Int → Hp → Prop, (∀ F' H', Gr F H F' H' → R w H') → t σ H R := fun {o w} hd => by
    match o, w, hd with
    | none, none, _ => exact ⟨_, po_none, fun F H en R q => q F H (.refl en.gr.s)⟩
    | some e, some n, hd => exact ⟨_, po_some pe_ev, fun F H en R q => hd F0 H0 F H σ en _ fun v F' H' g hv => ⟨n, hv, q F' H' g⟩⟩
    | none, some _, hd => exact hd.elim
    | some _, none, hd => exact hd.elim
  obtain ⟨t1, q1, w1⟩ := part h1
  obtain ⟨t2, q2, w2⟩ := part h2
  refine .of (pe_slice sl_list pe_ev q1 q2) (h F0 H0 F H σ en _ fun v F1 H1 g hv => w1 F1 H1 (en.grow g) _ fun F2 H2 g2 => w2 F2 H2 ((en.grow g).grow g2) _ fun F3 H3 g3 => ?_)
  obtain ⟨p, vs, rfl, k1, k2⟩ := hv
  have gg := (g.trans g2).trans g3
  exact ⟨p, vs, rfl, g3.s.seq ((g2.f.trans g3.f).seq k1), fun q' hq => q q' _ F3 _ (gg.trans (.newOwn gg.s hq)) (gg.h.free hq) (gg.s.free hq) upd_same (k2.cut.mono (g2.f.trans g3.f))⟩
theorem dl_cat (ha : DL X Γ a l) (hb : DL X Γ b l2) (hl : l.length + l2.length ≤ sizeLine) : DL X Γ (.BinOp a .Add b pos) (l ++ l2) := fun F0 H0 F H σ en Q q =>
  .of (pe_op op_cat pe_ev pe_ev) (ha F0 H0 F H σ en _ fun p1 vs1 F1 H1 g1 a1 a2 a3 a4 => hb F0 H0 F1 H1 σ (en.grow g1) _ fun p2 vs2 F2 H2 g2 b1 b2 b3 b4 =>
    ⟨p1, p2, vs1, vs2, rfl, rfl, g2.h _ _ a3, b3, by rw [← a4.len, ← b4.len]; exact hl, fun q' hq => q q' _ F2 _ ((g1.trans g2).trans (.newOwn g2.s hq)) ((g1.trans g2).h.free hq) (g2.s.free hq) upd_same ((a4.mono g2.f).app b4)⟩)
/-! kinds -/
def RTy (K : PySem.W.Frag) (r : Rep) (t : Value) : Prop := ∀ F H v, Same F H → r.P F v → TyX K H v t
theorem rty_int {K : PySem.W.Frag} {n : Int} : RTy K (rInt n) (.type "int") := fun F H v s h => by cases h; exact .base (.int n)
theorem rty_tup {K : PySem.W.Frag} : RTy K (rTup K l) (.type "tuple") := fun F H v s h => by
  obtain ⟨p, vs, rfl, h1, h2⟩ := h
  rcases sqt_mono s h1 with (h | ⟨o, h⟩) | h
  · exact .base (.tup h)
  · exact .fTuple h
  · obtain ⟨_, _, _, hk, hc, _⟩ := h
    exact .kTuple hk hc
theorem rty_lst {K : PySem.W.Frag} : RTy K (rLst K l) (.type "list") := fun F H v s h => by
  obtain ⟨p, vs, rfl, h1, h2⟩ := h
  rcases s.seq h1 with (h | ⟨o, h⟩) | h
  · exact .base (.lst h)
  · exact .base (.frz h)
  · obtain ⟨_, _, _, hk, hc, _⟩ := h
    exact .kList hk hc
theorem cb_isi {t : Value} {T : String} {u : Bool} (h : RTy X.K r t) (hk : PySem.W.kitOne X.K t (.type T) = some u) : CB (rIsi X.K) [r, rC (.ty T)] (rBl u) := fun F H vs s hv Q q => by
  obtain ⟨v, w, rfl, h1, h2⟩ := rl2 hv
  cases h2
  exact ⟨v, .ty T, t, .type T, u, rfl, .ty T, h F H v s h1, hk, q _ F H (.refl s) rfl⟩
theorem de_ty {T : String} (B : BX X N sc k) (hm : X.mg x = none) (hv : bootBuiltins x = some (.type T)) (hg : sc.names.lookup x = some .globalImplicit) (hn : x ≠ "__name__" := by decide) (hdb : (x == ("__debug__" : Str)) = false := by decide) : DE X Γ (.Name x pos) (rC (.ty T)) := fun F0 H0 F H σ en Q q => by
  have hgl : Gl X x := by
    show X.env.scope.names.lookup x = _
    rw [B.hsc]
    exact hg
  exact .of (pe_bltn (v := .ty T) hgl hm hv rfl hn hdb) (q _ F H (.refl en.gr.s) rfl)
theorem de_isi {t : Value} {T : String} {u : Bool} (B : BX X N sc k) (hm : X.mg "isinstance" = none) (h : RTy X.K r t) (hk : PySem.W.kitOne X.K t (.type T) = some u) (ha : DE X Γ a r) (hb : DE X Γ b (rC (.ty T))) (hg : sc.names.lookup ("isinstance" : Str) = some NameKind.globalImplicit)
    (he : starEach (a :: [b]) X.env = (false, eval a X.env) :: starEach [b] X.env := by rfl) (he2 : starEach (b :: []) X.env = (false, eval b X.env) :: starEach [] X.env := by rfl) (hpl : (backTo pos (starEach [b] X.env)).any (·.1) = false := by rfl) : DE X Γ (.Call (.Name "isinstance" p) [a, b] [] pos) (rBl u) :=
  de_blt B call_isi (cb_isi h hk) hm (by decide +kernel) (da_cons ha (da_cons hb da_nil he2) he) hg (he := he) (hpl := hpl)
/-! equal data -/
mutual
theorem dp_mono {K : PySem.W.Frag} {F H : Hp} (s : Same F H) : ∀ (d : PyData) (v : V), Dp K F v d → Dp K H v d
  | _, _, .non => .non
  | _, _, .bl b => .bl b
  | _, _, .int i => .int i
  | _, _, .str x => .str x
  | _, _, .lst h a => .lst (s.seq h) (dpa_mono s _ _ a)
  | _, _, .tup h a => .tup (sqt_mono s h) (dpa_mono s _ _ a)
theorem dpa_mono {K : PySem.W.Frag} {F H : Hp} (s : Same F H) : ∀ (ds : List PyData) (vs : List V), DpAll K F vs ds → DpAll K H vs ds
  | _, _, .nil => .nil
  | _, _, .cons h t => .cons (dp_mono s _ _ h) (dpa_mono s _ _ t)
end
def DpL (K : PySem.W.Frag) (r : Rep) (d : PyData) : Prop := ∀ F v, r.P F v → Dp K F v d
theorem dpl_int {K : PySem.W.Frag} {n : Int} : DpL K (rInt n) (.int n) := fun F v h => by cases h; exact .int n
theorem dpl_non {K : PySem.W.Frag} : DpL K rNon .none := fun F v h => by cases h; exact .non
theorem dpa_of {K : PySem.W.Frag} {F : Hp} {α : Type} {R : α → Rep} {d : α → PyData} : ∀ {xs : List α} {vs : List V}, (∀ x ∈ xs, DpL K (R x) (d x)) → RL F (xs.map R) vs → DpAll K F vs (xs.map d)
  | [], _, _, h => by cases h; exact .nil
  | x :: xs, _, hd, h => by
    cases h with
    | cons a t => exact .cons (hd x List.mem_cons_self F _ a) (dpa_of (fun y hy => hd y (List.mem_cons_of_mem _ hy)) t)
theorem dpl_lst {K : PySem.W.Frag} {α : Type} {R : α → Rep} {d : α → PyData} {xs : List α} (h : ∀ x ∈ xs, DpL K (R x) (d x)) : DpL K (rLst K (xs.map R)) (.list (xs.map d)) := fun F v hv => by
  obtain ⟨p, vs, rfl, h1, h2⟩ := hv
  exact .lst h1 (dpa_of h h2)
theorem dpl_tup2 {K : PySem.W.Frag} {d1 d2 : PyData} (h1 : DpL K ra d1) (h2 : DpL K rb d2) : DpL K (rTup K [ra, rb]) (.tuple [d1, d2]) := fun F v hv => by
  obtain ⟨p, vs, rfl, k1, k2⟩ := hv
  obtain ⟨v, w, rfl, a, b⟩ := rl2 k2
  exact .tup k1 (.cons (h1 F v a) (.cons (h2 F w b) .nil))
theorem b2_eqD {d1 d2 : PyData} (h1 : DpL X.K ra d1) (h2 : DpL X.K rb d2) (s1 : SeqAt.shaped d1 = true) (s2 : SeqAt.shaped d2 = true) : B2 (rEqD X.K) ra rb (rBl (PyData.eqv d1 d2)) := fun F H x y s k1 k2 Q q =>
  ⟨d1, d2, dp_mono s _ _ (h1 F x k1), dp_mono s _ _ (h2 F y k2), s1, s2, q _ F H (.refl s) rfl⟩
theorem b2_neD {d1 d2 : PyData} (h1 : DpL X.K ra d1) (h2 : DpL X.K rb d2) (s1 : SeqAt.shaped d1 = true) (s2 : SeqAt.shaped d2 = true) : B2 (rNeD X.K) ra rb (rBl (!PyData.eqv d1 d2)) := fun F H x y s k1 k2 Q q =>
  ⟨d1, d2, dp_mono s _ _ (h1 F x k1), dp_mono s _ _ (h2 F y k2), s1, s2, q _ F H (.refl s) rfl⟩
theorem BX.hu (B : BX X N sc k) : X.A.units + 64 < cLine := B.room.units
/-! gcd, lcm, abs, int -/
theorem de_gcd {m n : Int} (B : BX X N sc k) (hm : X.mg x = some (.builtin "math.gcd")) (ha : DE X Γ a (rInt m)) (hb : DE X Γ b (rInt n)) (hg : sc.names.lookup x = some .globalImplicit) (hdb : (x == ("__debug__" : Str)) = false := by decide)
    (he : starEach (a :: [b]) X.env = (false, eval a X.env) :: starEach [b] X.env := by rfl) (he2 : starEach (b :: []) X.env = (false, eval b X.env) :: starEach [] X.env := by rfl) (hpl : (backTo pos (starEach [b] X.env)).any (·.1) = false := by rfl) : DE X Γ (.Call (.Name x p) [a, b] [] pos) (rInt (Int.gcd m n : Nat)) :=
  de_bfun B cr_gcd (fun F H vs s hv Q q => by
    obtain ⟨v, w, rfl, h1, h2⟩ := rl2 hv
    cases h1
    cases h2
    exact ⟨m, n, rfl, q _ F H (.refl s) rfl⟩) hm (da_cons ha (da_cons hb da_nil he2) he) hg hdb (he := he) (hpl := hpl)
def rLcm : List V → Hp → VK → Prop := fun vs H Q => ∃ a b : Int, vs = [.int a, .int b] ∧ a.natAbs.log2 < 10000 ∧ b.natAbs.log2 < 10000 ∧ Q (.int ((Nat.lcm a.natAbs b.natAbs : Nat) : Int)) H
theorem lcm_log {a b : Nat} (ha : a.log2 < 10000) (hb : b.log2 < 10000) : (Nat.lcm a b).log2 < 20002 := by
  by_cases h0 : Nat.lcm a b = 0
  · rw [h0, Nat.log2_zero]; decide
  · have hab : Nat.lcm a b ≤ a * b := Nat.div_le_self _ _
    have ha1 : a < 2 ^ 10001 := by
      by_cases z : a = 0
      · subst z; exact Nat.pow_pos (by decide)
      · exact (Nat.log2_lt z).mp (by omega)
    have hb1 : b < 2 ^ 10001 := by
      by_cases z : b = 0
      · subst z; exact Nat.pow_pos (by decide)
      · exact (Nat.log2_lt z).mp (by omega)
    have : Nat.lcm a b < 2 ^ 20002 := by
      have h1 : a * b < 2 ^ 10001 * 2 ^ 10001 := Nat.mul_lt_mul'' ha1 hb1
      rw [← Nat.pow_add] at h1
      exact Nat.lt_of_le_of_lt hab h1
    exact (Nat.log2_lt h0).mpr this
theorem cr_lcm : CallR X (.builtin "math.lcm") rLcm := by
  intro pins s σ H vs us Q I r h
  obtain ⟨a, b, rfl, ha, hb, q⟩ := h
  obtain ⟨t, u, rfl⟩ := Vals.int2 r
  have e1 : Nat.lcm 1 a.natAbs = a.natAbs := Nat.lcm_one_left _
  have m : ∀ x y : Nat, (max x y).log2 ≤ max x.log2 y.log2 := fun x y => by
    rcases Nat.le_total x y with z | z
    · rw [Nat.max_eq_right z]; exact Nat.le_max_right _ _
    · rw [Nat.max_eq_left z]; exact Nat.le_max_left _ _
  have m1 := m 1 a.natAbs
  have m2 := m a.natAbs b.natAbs
  have l1 : Nat.log2 1 = 0 := by decide
  have hl := lcm_log ha hb
  have hbl : bitsLine = 134217728 := by decide
  refine call_function_meets PySem.W.MGF.kind_lcm PySem.W.MGF.plain_lcm PySem.W.MGF.entry_lcm (PySem.W.MGF.args_lcm _ _) (PySem.W.mg_run_lcm a t b u (by omega) (by omega) ?_).meets ?_
  · rw [e1, Int.natAbs_natCast, hbl]
    omega
  · rw [e1]
    exact ⟨.int _, H, I.tok _, ⟨_, rfl⟩, q⟩
theorem de_lcm {m n : Int} (B : BX X N sc k) (hm : X.mg x = some (.builtin "math.lcm")) (h1 : m.natAbs.log2 < 10000) (h2 : n.natAbs.log2 < 10000) (ha : DE X Γ a (rInt m)) (hb : DE X Γ b (rInt n)) (hg : sc.names.lookup x = some .globalImplicit) (hdb : (x == ("__debug__" : Str)) = false := by decide)
    (he : starEach (a :: [b]) X.env = (false, eval a X.env) :: starEach [b] X.env := by rfl) (he2 : starEach (b :: []) X.env = (false, eval b X.env) :: starEach [] X.env := by rfl) (hpl : (backTo pos (starEach [b] X.env)).any (·.1) = false := by rfl) : DE X Γ (.Call (.Name x p) [a, b] [] pos) (rInt (Int.lcm m n : Nat)) :=
  de_bfun B cr_lcm (fun F H vs s hv Q q => by
    obtain ⟨v, w, rfl, k1, k2⟩ := rl2 hv
    cases k1
    cases k2
    exact ⟨m, n, rfl, h1, h2, q _ F H (.refl s) rfl⟩) hm (da_cons ha (da_cons hb da_nil he2) he) hg hdb (he := he) (hpl := hpl)
theorem de_abs {m : Int} (B : BX X N sc k) (hm : X.mg "abs" = none) (ha : DE X Γ a (rInt m)) (hg : sc.names.lookup ("abs" : Str) = some NameKind.globalImplicit)
    (he : starEach (a :: []) X.env = (false, eval a X.env) :: starEach [] X.env := by rfl) : DE X Γ (.Call (.Name "abs" p) [a] [] pos) (rInt (m.natAbs : Nat)) :=
  de_blt B call_abs (fun F H vs s hv Q q => by
    obtain ⟨v, rfl, k1⟩ := rl1 hv
    cases k1
    exact ⟨m, rfl, q _ F H (.refl s) (by show V.int _ = V.int _; congr 1; split <;> omega)⟩) hm (by decide +kernel) (da_cons ha da_nil he) hg (he := he)
theorem de_toInt {m : Int} (B : BX X N sc k) (hm : X.mg "int" = none) (ha : DE X Γ a (rInt m)) (hg : sc.names.lookup ("int" : Str) = some NameKind.globalImplicit)
    (he : starEach (a :: []) X.env = (false, eval a X.env) :: starEach [] X.env := by rfl) : DE X Γ (.Call (.Name "int" p) [a] [] pos) (rInt m) :=
  de_bty B call_int1 (fun F H vs s hv Q q => by
    obtain ⟨v, rfl, k1⟩ := rl1 hv
    cases k1
    exact .inl ⟨m, rfl, q _ F H (.refl s) rfl⟩) hm (by decide +kernel) (da_cons ha da_nil he) hg (he := he)
/-! is None -/
def NotNon (r : Rep) : Prop := ∀ F v, r.P F v → v ≠ .non
theorem de_isN (ha : DE X Γ a rNon) : DE X Γ (.Compare a [.Is] [.Constant .none j p] pos) (rBl true) := de_cmp op_isN (fun F H x y s h1 h2 Q q => by cases h1; cases h2; exact ⟨rfl, q _ F H (.refl s) rfl⟩) ha de_non (nomark _)
theorem de_isN0 (hn : NotNon r) (ha : DE X Γ a r) : DE X Γ (.Compare a [.Is] [.Constant .none j p] pos) (rBl false) := de_cmp op_isN (fun F H x y s h1 h2 Q q => by
  cases h2
  exact ⟨rfl, q _ F H (.refl s) (by show V.bl _ = V.bl _; rw [decide_eq_false (hn F x h1)])⟩) ha de_non (nomark _)
theorem notNon_int {n : Int} : NotNon (rInt n) := fun F v h => by cases h; exact fun z => nomatch z
end
end DL

set_option Elab.async false
set_option linter.all false
set_option maxRecDepth 100000
set_option maxHeartbeats 4000000
namespace DL
open PySem PySem.Spec PyProof.Rows L2
/-- the slots after some stores -/
def sets (Γ : List Sl) : List (Nat × Sl) → List Sl
  | [] => Γ
  | (i, s) :: r => sets (Γ.set i s) r
section
variable {X : Cx} {N : List Str} {sc : Scope} {k j : Nat} {Γ Γ' Γ1 : List Sl} {tg it a b c e : Expr} {es rest : List Expr} {r ra rb rc r' : Rep} {rs l l2 : List Rep} {pos p p2 : Pos} {x : Str} {i : Nat} {ws ws' : List Nat} {F0 H0 F1 F H : Hp} {σ : L2.St} {st body : List Stmt} {D : Ends} {n : Nat} {rr : Nat → Rep}
/-- a loop whose slots are known at each turn: chg tells those that change -/
def IvS (Γ : List Sl) (chg : Nat → List (Nat × Sl)) (J : Nat → Prop) : Nat → List Sl → Prop := fun i Γ' => Γ' = sets Γ (chg i) ∧ J i
theorem go_forS {ws : List Nat} (B : BX X N sc k) (chg : Nat → List (Nat × Sl)) (J : Nat → Prop) (hi : SR X Γ tg it n rr) (G1 : Nat → List Sl) (hg : ∀ i, i < n → DG X (sets Γ (chg i)) tg (rr i) (G1 i) ws) (h0 : SlLe Γ (sets Γ (chg 0))) (j0 : J 0)
    (hb : ∀ F1, Up F0 F1 H0 → ∀ i, i < n → J i → GO X F1 H0 body { D with nx := LN F1 H0 (IvS Γ chg J) (i + 1), ct := LN F1 H0 (IvS Γ chg J) (i + 1), bk := XS X st D } (G1 i))
    (he : J n → GO X F0 H0 st D (sets Γ (chg n))) (hs : ∀ x, foldedSetIterable it X.env x = pure x := by intro _; rfl) : GO X F0 H0 (.For tg it body [] pos :: st) D Γ :=
  go_for B (IvS Γ chg J) hi h0 ⟨rfl, j0⟩ (fun i _ => G1 i) (fun i Γ' hlt hv => by rw [hv.1]; exact hg i hlt) (fun F1 u i Γ' hlt hv => hb F1 u i hlt hv.2) (fun Γ' hv => by rw [hv.1]; exact he hv.2) hs
theorem go_turnS {chg : Nat → List (Nat × Sl)} {J : Nat → Prop} {Γ0 : List Sl} (hj : J j) (h : SlLe Γ (sets Γ0 (chg j))) (e : D.nx = LN F1 H0 (IvS Γ0 chg J) j := by rfl) : GO X F1 H0 [] D Γ := go_nil fun F H σ en => by rw [e]; exact ⟨F, _, en.le h, rfl, hj⟩
/-! ### numbers -/
section
variable {q : Rat} {K : PySem.W.Frag}
theorem num_whole (h : q.den = 1) : rNum K q = rInt q.num := if_pos h
theorem num_pair (h : q.den ≠ 1) : rNum K q = rTup K [rInt q.num, rInt (q.den : Int)] := if_neg h
theorem num_int (n : Int) : rNum K (n : Rat) = rInt n := num_whole (Rat.den_intCast n)
theorem de_i2n {n : Int} (h : DE X Γ e (rInt n)) : DE X Γ e (rNum X.K (n : Rat)) := h.to (num_int n).symm
theorem de_n2i (hq : q.den = 1) (h : DE X Γ e (rNum X.K q)) : DE X Γ e (rInt q.num) := h.to (num_whole hq)
theorem de_n2t (hq : q.den ≠ 1) (h : DE X Γ e (rNum X.K q)) : DE X Γ e (rTup X.K [rInt q.num, rInt (q.den : Int)]) := h.to (num_pair hq)
theorem de_num0 (hq : q.den ≠ 1) (h : DE X Γ a (rNum X.K q)) {jj : Nat} : DE X Γ (.Subscript a (.Constant (.int 0) jj p) pos) (rInt q.num) := de_ixT rfl (de_n2t hq h) de_int
theorem de_num1 (hq : q.den ≠ 1) (h : DE X Γ a (rNum X.K q)) {jj : Nat} : DE X Γ (.Subscript a (.Constant (.int 1) jj p) pos) (rInt (q.den : Int)) := de_ixT rfl (de_n2t hq h) de_int
def numT (q : Rat) : Value := if q.den = 1 then .type "int" else .type "tuple"
theorem rty_num : RTy K (rNum K q) (numT q) := by
  unfold numT
  by_cases h : q.den = 1
  · rw [num_whole h, if_pos h]; exact rty_int
  · rw [num_pair h, if_neg h]; exact rty_tup
theorem kit_numT {K : PySem.W.Frag} : PySem.W.kitOne K (numT q) (.type "tuple") = some (decide (q.den ≠ 1)) := by
  unfold numT
  by_cases h : q.den = 1
  · rw [if_pos h, h]; exact kit_ty (by decide +kernel)
  · rw [if_neg h, decide_eq_true h]; exact kit_ty (by decide +kernel)
theorem kit_numI {K : PySem.W.Frag} : PySem.W.kitOne K (numT q) (.type "int") = some (decide (q.den = 1)) := by
  unfold numT
  by_cases h : q.den = 1
  · rw [if_pos h, h]; exact kit_ty (by decide +kernel)
  · rw [if_neg h, decide_eq_false h]; exact kit_ty (by decide +kernel)
theorem kit_numB {K : PySem.W.Frag} : PySem.W.kitOne K (numT q) (.type "bool") = some false := by
  unfold numT
  by_cases h : q.den = 1
  · rw [if_pos h]; exact kit_ty (by decide +kernel)
  · rw [if_neg h]; exact kit_ty (by decide +kernel)
/-- a pair of whole numbers is a number -/
theorem sub_pair {t b : Int} (h : (b : Int) ≠ 1) (h1 : q.num = t) (h2 : (q.den : Int) = b) : Sub (rTup K [rInt t, rInt b]) (rNum K q) := .of (by rw [num_pair (by omega), h1, h2])
theorem sub_whole {t : Int} (h : q.den = 1) (h1 : q.num = t) : Sub (rInt t) (rNum K q) := .of (by rw [num_whole h, h1])
def numD (q : Rat) : PyData := if q.den = 1 then .int q.num else .tuple [.int q.num, .int (q.den : Int)]
theorem dpl_num : DpL K (rNum K q) (numD q) := by
  unfold numD
  by_cases h : q.den = 1
  · rw [num_whole h, if_pos h]; exact dpl_int
  · rw [num_pair h, if_neg h]; exact dpl_tup2 dpl_int dpl_int
theorem numD_eq {q r : Rat} : PyData.eqv (numD q) (numD r) = decide (q = r) := by
  unfold numD
  by_cases h : q.den = 1 <;> by_cases k : r.den = 1
  · rw [if_pos h, if_pos k]
    show (q.num == r.num) = _
    by_cases e : q = r
    · subst e; simp
    · rw [decide_eq_false e]
      have : q.num ≠ r.num := fun z => e (Rat.ext z (by rw [h, k]))
      simpa using this
  · rw [if_pos h, if_neg k]
    have : q ≠ r := fun z => k (z ▸ h)
    rw [decide_eq_false this]; rfl
  · rw [if_neg h, if_pos k]
    have : q ≠ r := fun z => h (z ▸ k)
    rw [decide_eq_false this]; rfl
  · rw [if_neg h, if_neg k]
    show (q.num == r.num && ((q.den : Int) == (r.den : Int) && true)) = _
    by_cases e : q = r
    · subst e; simp
    · rw [decide_eq_false e]
      by_cases n : q.num = r.num
      · have : q.den ≠ r.den := fun z => e (Rat.ext n z)
        have : (q.den : Int) ≠ r.den := by omega
        simp [this]
      · simp [n]
theorem shaped_num : SeqAt.shaped (numD q) = true := by
  unfold numD
  by_cases h : q.den = 1
  · rw [if_pos h]; rfl
  · rw [if_neg h]; rfl
theorem dt_eqN {r : Rat} (B : BX X N sc k) (ha : DE X Γ a (rNum X.K q)) (hb : DE X Γ b (rNum X.K r)) : DT X Γ (.Compare a [.Eq] [b] pos) (decide (q = r)) := (dt_cmp (op_eqD B.hu) (b2_eqD dpl_num dpl_num shaped_num shaped_num) ha hb (nomark _)).to numD_eq
theorem dt_neN {r : Rat} (B : BX X N sc k) (ha : DE X Γ a (rNum X.K q)) (hb : DE X Γ b (rNum X.K r)) : DT X Γ (.Compare a [.NotEq] [b] pos) (!decide (q = r)) := (dt_cmp (op_neD B.hu) (b2_neD dpl_num dpl_num shaped_num shaped_num) ha hb (nomark _)).to (by rw [numD_eq])
end
/-! ### sizes of ints -/
def Lg (i : Int) : Nat := i.natAbs.log2
theorem lg_lt {i : Int} {n : Nat} : Lg i < n → i.natAbs < 2 ^ n := fun h => by
  by_cases h0 : i.natAbs = 0
  · rw [h0]; exact Nat.pow_pos (by decide)
  · exact (Nat.log2_lt h0).mp h
theorem lg_of {i : Int} {n : Nat} (hn : 0 < n) (h : i.natAbs < 2 ^ n) : Lg i < n := by
  unfold Lg
  by_cases h0 : i.natAbs = 0
  · rw [h0, Nat.log2_zero]; exact hn
  · exact (Nat.log2_lt h0).mpr h
theorem lg_mul (i j : Int) : Lg (i * j) ≤ Lg i + Lg j + 1 := by
  have h1 := lg_lt (i := i) (Nat.lt_succ_self _)
  have h2 := lg_lt (i := j) (Nat.lt_succ_self _)
  have h3 : (i * j).natAbs < 2 ^ ((Lg i + 1) + (Lg j + 1)) := by
    rw [Int.natAbs_mul, Nat.pow_add]
    exact Nat.mul_lt_mul'' h1 h2
  have := lg_of (by omega) h3
  omega
theorem lg_add (i j : Int) : Lg (i + j) ≤ max (Lg i) (Lg j) + 1 := by
  have h1 := lg_lt (i := i) (Nat.lt_succ_self _)
  have h2 := lg_lt (i := j) (Nat.lt_succ_self _)
  have m1 : 2 ^ (Lg i + 1) ≤ 2 ^ (max (Lg i) (Lg j) + 1) := Nat.pow_le_pow_right (by decide) (by omega)
  have m2 : 2 ^ (Lg j + 1) ≤ 2 ^ (max (Lg i) (Lg j) + 1) := Nat.pow_le_pow_right (by decide) (by omega)
  have e : 2 ^ (max (Lg i) (Lg j) + 2) = 2 * 2 ^ (max (Lg i) (Lg j) + 1) := by rw [Nat.pow_succ]; omega
  have h3 : (i + j).natAbs < 2 ^ (max (Lg i) (Lg j) + 2) := by omega
  have := lg_of (by omega) h3
  omega
theorem lg_neg (i : Int) : Lg (-i) = Lg i := by unfold Lg; rw [Int.natAbs_neg]
theorem lg_sub (i j : Int) : Lg (i - j) ≤ max (Lg i) (Lg j) + 1 := by
  have := lg_add i (-j)
  rw [lg_neg] at this
  rw [Int.sub_eq_add_neg]
  exact this
theorem lg_le {i j : Int} (h : i.natAbs ≤ j.natAbs) : Lg i ≤ Lg j := by
  have h2 := lg_lt (i := j) (Nat.lt_succ_self _)
  have := lg_of (i := i) (n := Lg j + 1) (by omega) (by omega)
  omega
theorem de_mulG {m n : Int} (hc : Lg m + Lg n < 1000000) (ha : DE X Γ a (rInt m)) (hb : DE X Γ b (rInt n)) : DE X Γ (.BinOp a .Mult b pos) (rInt (m * n)) := de_mul hc ha hb
theorem de_divG {m n : Int} (h0 : n ≠ 0) (hc : Lg n < 9000) (ha : DE X Γ a (rInt m)) (hb : DE X Γ b (rInt n)) : DE X Γ (.BinOp a .FloorDiv b pos) (rInt (m.fdiv n)) := de_fdiv ⟨h0, hc⟩ ha hb
/-- a number of at most n bits above and below -/
def Sz (n : Nat) (q : Rat) : Prop := Lg q.num ≤ n ∧ Lg (q.den : Int) ≤ n
end
end DL

set_option Elab.async false
set_option linter.all false
set_option maxRecDepth 100000
set_option maxHeartbeats 4000000
namespace DL
open PySem PySem.Spec PyProof.Rows L2
/-! ### errors -/
inductive Out where
  | ok (r : Ret)
  | err (C : Addr)
  | errF (C : Addr) (fs : List (Str × V))
def PrX (F H : Hp) : Out → VK → XK → Prop
  | .ok ret, Q, _ => Pr F H ret Q
  | .err C, _, E => ∀ H', Same H H' → E (.ref C) none H'
  | .errF C fs, _, E => ∀ H' d, Same H H' → H d = none → H' d = some (.xd fs) → E (.ref C) (some d) H'
def PmX {ι : Type} (pre : ι → Prop) (args : ι → List Rep) (out : ι → Out) : Sp := fun vs H Q E => ∃ (x : ι) (F : Hp), pre x ∧ Same F H ∧ RL F (args x) vs ∧ PrX F H (out x) Q E
/-- an error class of the program's own, without fields -/
structure XCls (K : PySem.W.Frag) (mg : Str → Option Value) (x : Str) (C : Addr) : Prop where
  g : mg x = some (.ref C)
  ex : PySem.W.excIn K C [.type "ValueError", .type "Exception", .type "BaseException", .type "object"] "ValueError.__new__" = true
  kp : PySem.W.keepIn K (.ref C) = true
  bs : PySem.W.subIn K (.ref C) (.type "BaseException") = some true
  ty : PySem.W.typeIn K (.ref C) = some (.type "type")
  hd : PySem.W.hasDictIn K C = true
section
variable {X : Cx} {N : List Str} {sc : Scope} {k j : Nat} {Γ : List Sl} {a b c e : Expr} {es rest : List Expr} {r ra rb rc r' : Rep} {rs l : List Rep} {pos p : Pos} {x : Str} {i : Nat}
variable {ι : Type} {pre : ι → Prop} {args : ι → List Rep} {out : ι → Out} {ret : Ret} {F0 H0 : Hp} {st body : List Stmt} {D : Ends} {C : Addr} {W : WX}
theorem ca_callX (B : BX X N sc k) (G : Cal X.prog X.w X.K X.mg X.base j x (PmX pre args out)) (hk : j ≤ k) (g : ι) (hp : pre g) (ho : out g = .ok ret) (ha : DA X Γ (e :: es) (args g)) (hg : sc.names.lookup x = some .globalImplicit)
    (hdb : (x == ("__debug__" : Str)) = false := by decide) (he : starEach (e :: es) X.env = (false, eval e X.env) :: starEach es X.env := by rfl) (hpl : (backTo pos (starEach es X.env)).any (·.1) = false := by rfl) :
    CA X Γ (.Call (.Name x p) (e :: es) [] pos) ret := fun F0 H0 F H σ en Q q => by
  obtain ⟨f, fd, ps, G, hm, kp, hb⟩ := G.ex
  have hgl : Gl X x := by
    show X.env.scope.names.lookup x = _
    rw [B.hsc]
    exact hg
  refine .of (pe_call (E := E0) G (B.room.mono hk) hgl hm kp hb .nil passL pa_ev hdb he hpl) ?_
  refine ha F0 H0 F H σ en _ fun vs F1 H1 g1 h1 => ?_
  show PmX pre args out (vs ++ []) H1 Q E0
  rw [List.append_nil]
  refine ⟨g, F1, hp, g1.s, h1, ?_⟩
  rw [ho]
  exact fun v F' H' g2 hv => q v F' H' F1 H1 g1 g2 hv
theorem ca_callO (okr : ι → Ret) (B : BX X N sc k) (G : Cal X.prog X.w X.K X.mg X.base j x (PmX pre args out)) (hk : j ≤ k) (g : ι) (hp : pre g) (ho : out g = .ok (okr g)) (ha : DA X Γ (e :: es) (args g)) (hg : sc.names.lookup x = some .globalImplicit)
    (hdb : (x == ("__debug__" : Str)) = false := by decide) (he : starEach (e :: es) X.env = (false, eval e X.env) :: starEach es X.env := by rfl) (hpl : (backTo pos (starEach es X.env)).any (·.1) = false := by rfl) :
    CA X Γ (.Call (.Name x p) (e :: es) [] pos) (okr g) := ca_callX B G hk g hp ho ha hg hdb he hpl
/-- a call that raises: what is wanted of the error is wanted anyway -/
def EX (X : Cx) (Γ : List Sl) (e : Expr) (C : Addr) (W : WX) : Prop := ∀ F0 H0 F H σ, En F0 H0 F H σ Γ → (∀ H', Same H H' → W (.ref C) none σ H') → ∀ Q : VK, EV X e σ H Q
theorem ex_call (B : BX X N sc k) (tk : Takes X W) (G : Cal X.prog X.w X.K X.mg X.base j x (PmX pre args out)) (hk : j ≤ k) (g : ι) (hp : pre g) (ho : out g = .err C) (ha : DA X Γ (e :: es) (args g)) (hg : sc.names.lookup x = some .globalImplicit)
    (hdb : (x == ("__debug__" : Str)) = false := by decide) (he : starEach (e :: es) X.env = (false, eval e X.env) :: starEach es X.env := by rfl) (hpl : (backTo pos (starEach es X.env)).any (·.1) = false := by rfl) :
    EX X Γ (.Call (.Name x p) (e :: es) [] pos) C W := fun F0 H0 F H σ en w Q => by
  obtain ⟨f, fd, ps, G, hm, kp, hb⟩ := G.ex
  have hgl : Gl X x := by
    show X.env.scope.names.lookup x = _
    rw [B.hsc]
    exact hg
  refine .of (pe_callS (E := WE W) G (B.room.mono hk) hgl hm kp hb (fun σ => passAt tk σ) pa_ev hdb he hpl) ?_
  refine ha F0 H0 F H σ en _ fun vs F1 H1 g1 h1 => ?_
  refine ⟨g, F1, hp, g1.s, h1, ?_⟩
  rw [ho]
  exact fun H' s => w H' (g1.h.trans s)
/-- raise X('..') -/
theorem go_raise {m : Str} {jj : Nat} {p2 pos2 : Pos} (B : BX X N sc k) (tk : Takes X W) (Z : XCls X.K X.mg x C) (hg : sc.names.lookup x = some .globalImplicit) (h : ∀ F H σ, En F0 H0 F H σ Γ → W (.ref C) none σ H) (hdb : (x == ("__debug__" : Str)) = false := by decide) :
    GO X F0 H0 (.Raise (some (.Call (.Name x p) [.Constant (.str m) jj p2] [] pos)) none pos2 :: st) D Γ := fun F H σ en => by
  have hgl : Gl X x := by
    show X.env.scope.names.lookup x = _
    rw [B.hsc]
    exact hg
  exact .of (pss_cons (ps_raise B.calm tk (pmk_own PySem.F.excBase_ValueError Z.ex Z.g Z.kp (raises_own Z.bs Z.ty) hgl hdb)) (pss_ev (st := st))) (h F H σ en)
theorem go_exprE (he : EX X Γ e C W) (h : ∀ F H σ, En F0 H0 F H σ Γ → ∀ H', Same H H' → W (.ref C) none σ H') (hs : swapsWith e none pos.line X.env = pure false := by rfl) : GO X F0 H0 (.Expr e pos :: st) D Γ := fun F H σ en =>
  .of (pss_cons (ps_expr pe_ev hs) (pss_ev (st := st))) (he F0 H0 F H σ en (h F H σ en) _)
end
section
variable {P : Program} {w : World} {K : PySem.W.Frag} {mg : Str → Option Value} {base : Heap} {k : Nat} {x : Str} {st : Stmt} {N ps : List Str} {ι : Type} {pre : ι → Prop} {args : ι → List Rep} {out : ι → Out}
/-- a def that may raise -/
theorem cal_okX (T : TD K mg x st) (S : FnScope N ps (defScope st)) (hn : ∀ g, (args g).length = ps.length)
    (hb : ∀ (kV doc pm : Value) (an : Option Addr) (cdv ct : Value) (us : List Value), us.length = ps.length → bindArgs (PySem.W.fnOf x x (defArgs st) (defBody st) (defScope st) .none kV doc pm an cdv ct) ⟨us, []⟩ = pure (ps.zip us))
    (body : ∀ (X : Cx), X.prog = P → X.w = w → X.K = K → X.mg = mg → X.base = base → BX X N (defScope st) k → (∀ x : Str, X.fn x = true) → ∀ (g : ι) (F0 H0 : Hp) (D : Ends) (E : XK), Takes X (fun cls d _ H => E cls d H) → pre g → PrX F0 H0 (out g) D.rt E → (∀ σ H', D.nx σ H' = D.rt .non H') →
      GO X F0 H0 (defBody st) D ((args g).map Sl.im ++ List.replicate (N.length - ps.length) .any)) : Cal P w K mg base (k + 1) x (PmX pre args out) := by
  obtain ⟨f, fd, F, hm⟩ := T.ex
  refine ⟨f, fd, ps, ?_, hm, F.kp, F.binds hb⟩
  refine F.okX S (fun vs H Q E h => ?_) (fun cdv A outer s H vs Q E hr h => ?_)
  · obtain ⟨g, F1, _, _, h1, _⟩ := h
    rw [← h1.len, hn]
  · obtain ⟨g, F1, hp, hs, h1, q⟩ := h
    refine ⟨_, pss_ev, ?_⟩
    have hpl : ps.length ≤ N.length := by have := congrArg List.length S.pre; rw [List.length_take] at this; omega
    have en := en_start (N := N) hs h1 (by rw [hn]; exact hpl)
    rw [hn] at en
    exact body _ rfl rfl rfl rfl rfl ⟨rfl, rfl, S.nd, hr, rfl, passes_of rfl⟩ (fun _ => rfl) g F1 H { nx := fun _ H' => Q .non H', rt := Q } E (takes_of rfl rfl rfl rfl) hp q (fun _ _ => rfl) F1 H _ en
theorem PrX.rt {F H : Hp} {D : Ends} {E : XK} {o : Out} {ret : Ret} (h : PrX F H o D.rt E) (e : o = .ok ret) : RT F H ret D := by
  subst e
  exact h
theorem PrX.er {F0 H0 : Hp} {Q : VK} {E : XK} {o : Out} {C : Addr} (h : PrX F0 H0 o Q E) (e : o = .err C) : ∀ H', Same H0 H' → E (.ref C) none H' := by
  subst e
  exact h
theorem PrX.erF {F0 H0 : Hp} {Q : VK} {E : XK} {o : Out} {C : Addr} {fs : List (Str × V)} (h : PrX F0 H0 o Q E) (e : o = .errF C fs) : ∀ H' d, Same H0 H' → H0 d = none → H' d = some (.xd fs) → E (.ref C) (some d) H' := by
  subst e
  exact h
end
end DL

set_option linter.all false
set_option maxHeartbeats 4000000
namespace DL
theorem den_ne (q : Rat) : ((q.den : Int) : Rat) ≠ 0 := by
  have := q.den_nz
  simp [this]
theorem q_eq (q : Rat) : q = (q.num : Rat) / ((q.den : Int) : Rat) := by
  have h2 := Rat.mkRat_self q
  rw [Rat.mkRat_eq_div] at h2
  exact h2.symm
theorem aux_plus (a b c d : Rat) (hb : b ≠ 0) (hd : d ≠ 0) : (a * d + c * b) / (b * d) = a / b + c / d := by grind
theorem aux_times (a b c d : Rat) (hb : b ≠ 0) (hd : d ≠ 0) : (a * c) / (b * d) = a / b * (c / d) := by grind
theorem r_plus (q r : Rat) : (((q.num * (r.den : Int) + r.num * (q.den : Int) : Int)) : Rat) / ((((q.den : Int) * (r.den : Int) : Int)) : Rat) = q + r := by
  conv => rhs; rw [q_eq q, q_eq r]
  rw [← aux_plus _ _ _ _ (den_ne q) (den_ne r), Rat.intCast_add, Rat.intCast_mul, Rat.intCast_mul, Rat.intCast_mul]
theorem r_times (q r : Rat) : (((q.num * r.num : Int)) : Rat) / ((((q.den : Int) * (r.den : Int) : Int)) : Rat) = q * r := by
  conv => rhs; rw [q_eq q, q_eq r]
  rw [← aux_times _ _ _ _ (den_ne q) (den_ne r), Rat.intCast_mul, Rat.intCast_mul]
/-- lowest terms -/
def lowC (t b : Int) : Int := if b < 0 then -(Int.gcd t b : Int) else (Int.gcd t b : Int)
theorem gcd_pos {t b : Int} (hb : b ≠ 0) : 0 < (Int.gcd t b : Int) := by
  have : 0 < Int.gcd t b := Nat.pos_of_ne_zero fun z => hb (Int.gcd_eq_zero_iff.mp z).2
  omega
theorem lowC_ne {t b : Int} (hb : b ≠ 0) : lowC t b ≠ 0 := by
  have := gcd_pos (t := t) hb
  unfold lowC
  split <;> omega
theorem lowC_dvd (t b : Int) : lowC t b ∣ t ∧ lowC t b ∣ b := by
  have h1 := Int.gcd_dvd_left t b
  have h2 := Int.gcd_dvd_right t b
  unfold lowC
  split
  · exact ⟨Int.neg_dvd.mpr h1, Int.neg_dvd.mpr h2⟩
  · exact ⟨h1, h2⟩
theorem rat_num {t b : Int} (hb : b ≠ 0) : ((t : Rat) / (b : Rat)).num = t.fdiv (lowC t b) := by
  rw [← Rat.divInt_eq_div, Rat.num_divInt, Int.fdiv_eq_ediv_of_dvd (lowC_dvd t b).1, Int.gcd_comm]
  unfold lowC
  split
  · rename_i h
    rw [Int.sign_eq_neg_one_of_neg h, Int.ediv_neg, Int.neg_mul, Int.one_mul, Int.neg_ediv_of_dvd (Int.gcd_dvd_left t b)]
  · rename_i h
    rw [Int.sign_eq_one_of_pos (by omega), Int.one_mul]
theorem rat_den {t b : Int} (hb : b ≠ 0) : (((t : Rat) / (b : Rat)).den : Int) = b.fdiv (lowC t b) := by
  rw [← Rat.divInt_eq_div, Rat.den_divInt, if_neg hb, Int.fdiv_eq_ediv_of_dvd (lowC_dvd t b).2, Int.gcd_comm]
  unfold lowC
  have hd := Int.gcd_dvd_right t b
  split
  · rename_i h
    rw [Int.ediv_neg, ← Int.neg_ediv_of_dvd hd, Int.natCast_ediv]
    congr 1
    omega
  · rename_i h
    rw [Int.natCast_ediv]
    congr 1
    omega
theorem rat_den1 {t b : Int} (hb : b ≠ 0) (h : lowC t b = b) : ((t : Rat) / (b : Rat)).den = 1 := by
  have := rat_den (t := t) hb
  rw [h, Int.fdiv_self hb] at this
  omega
theorem rat_denN {t b : Int} (hb : b ≠ 0) (h : lowC t b ≠ b) : b.fdiv (lowC t b) ≠ 1 := by
  intro z
  rw [Int.fdiv_eq_ediv_of_dvd (lowC_dvd t b).2] at z
  have := Int.eq_mul_of_ediv_eq_right (lowC_dvd t b).2 z
  omega
end DL

set_option linter.all false
set_option maxHeartbeats 4000000
namespace DL
open PySem L2
theorem lg_lowC {t b : Int} (hb : b ≠ 0) : Lg (lowC t b) ≤ Lg b := lg_le (by
  have h : (Int.gcd t b) ≤ b.natAbs := Nat.le_of_dvd (by omega) (by have := Int.natAbs_dvd_natAbs.mpr (Int.gcd_dvd_right t b); simpa using this)
  unfold lowC
  split <;> omega)
theorem den_neI (q : Rat) : (q.den : Int) ≠ 0 := by
  have := q.den_nz
  omega
theorem dd_ne (q r : Rat) : (q.den : Int) * (r.den : Int) ≠ 0 := Int.mul_ne_zero (den_neI q) (den_neI r)
end DL

set_option Elab.async false
set_option linter.all false
set_option maxRecDepth 100000
set_option maxHeartbeats 4000000
namespace DL
open PySem PySem.Spec PyProof.Rows L2
section
variable {X : Cx} {N : List Str} {sc : Scope} {k j : Nat} {Γ Γ' Γ1 : List Sl} {tg it a b c e : Expr} {es rest : List Expr} {r ra rb rc r' : Rep} {rs l l2 : List Rep} {pos p p2 : Pos} {x : Str} {i : Nat} {ws ws' : List Nat} {F0 H0 F1 F H : Hp} {σ : L2.St} {st body : List Stmt} {D : Ends} {n : Nat} {rr : Nat → Rep}
variable {α : Type} {R : α → Rep} {xs : List α}
theorem SR.to {rr' : Nat → Rep} (h : SR X Γ tg it n rr) (e : ∀ i, i < n → rr i = rr' i) : SR X Γ tg it n rr' := fun F0 H0 F H σ en Q q => h F0 H0 F H σ en Q fun J F1 H1 g wk => q J F1 H1 g ⟨wk.stop, wk.go, fun i F H x H' s s2 hi hy => by
  obtain ⟨F', g', hx⟩ := wk.yld i F H x H' s s2 hi hy
  exact ⟨F', g', e i hi ▸ hx⟩⟩
theorem getD_map (d : α) {i : Nat} (hi : i < xs.length) : (xs.map R).getD i rNon = R (xs.getD i d) := by
  rw [List.getD_eq_getElem?_getD, List.getD_eq_getElem?_getD, List.getElem?_map, List.getElem?_eq_getElem hi]
  rfl
theorem sr_listM (d : α) (h : DE X Γ it (rLst X.K (xs.map R))) : SR X Γ tg it xs.length (fun i => R (xs.getD i d)) := by
  have h2 := sr_list (tg := tg) h
  rw [List.length_map] at h2
  exact h2.to fun i hi => getD_map d hi
theorem atI_map (d : α) {n : Int} (h0 : 0 ≤ n) (h1 : n < xs.length) : atI (xs.map R) n = some (R (xs.getD n.toNat d)) := by
  obtain ⟨m, rfl⟩ : ∃ m : Nat, n = m := ⟨n.toNat, by omega⟩
  refine atI_nat ?_
  have hm : m < xs.length := by omega
  rw [List.getElem?_map, List.getElem?_eq_getElem hm, Int.toNat_natCast, List.getD_eq_getElem?_getD, List.getElem?_eq_getElem hm]
  rfl
theorem de_ixM {n : Int} (d : α) (h0 : 0 ≤ n) (h1 : n < xs.length) (ha : DE X Γ a (rLst X.K (xs.map R))) (hb : DE X Γ b (rInt n)) (hs : PlainIx b := by exact fun _ _ => rfl) : DE X Γ (.Subscript a b pos) (R (xs.getD n.toNat d)) :=
  de_ixL (atI_map d h0 h1) ha hb hs
theorem de_ixOM {n : Int} (d : α) (B : BX X N sc k) (hΓ : Γ[i]? = some (.ow (xs.map R))) (hN : N[i]? = some x) (hv : Vis sc x) (h0 : 0 ≤ n) (h1 : n < xs.length) (hb : DE X Γ b (rInt n)) (hs : PlainIx b := by exact fun _ _ => rfl) (hd : (x == ("__debug__" : Str)) = false := by decide) (hcd : (x == ("__classdict__" : Str)) = false := by decide) :
    DE X Γ (.Subscript (.Name x p) b pos) (R (xs.getD n.toNat d)) := de_ixO B (atI_map d h0 h1) hΓ hN hv hb hs hd hcd
theorem de_lenM (B : BX X N sc k) (hm : X.mg "len" = none) (h : DE X Γ e (rLst X.K (xs.map R))) (hg : sc.names.lookup ("len" : Str) = some NameKind.globalImplicit) (he : starEach (e :: []) X.env = (false, eval e X.env) :: starEach [] X.env := by rfl) : DE X Γ (.Call (.Name "len" p) [e] [] pos) (rInt xs.length) := by
  have := de_lenL B hm h hg he (p := p) (pos := pos)
  rwa [List.length_map] at this
/-! a number or None -/
/-! is True, is False -/
theorem dt_isN (ha : DE X Γ a rNon) {jj : Nat} : DT X Γ (.Compare a [.Is] [.Constant .none jj p] pos) true := dt_cmp op_isN (fun F H x y s h1 h2 Q q => by cases h1; cases h2; exact ⟨rfl, q _ F H (.refl s) rfl⟩) ha de_non (nomark _)
theorem dt_isN0 (hn : NotNon r) (ha : DE X Γ a r) {jj : Nat} : DT X Γ (.Compare a [.Is] [.Constant .none jj p] pos) false := dt_cmp op_isN (fun F H x y s h1 h2 Q q => by
  cases h2
  exact ⟨rfl, q _ F H (.refl s) (by show V.bl _ = V.bl _; rw [decide_eq_false (hn F x h1)])⟩) ha de_non (nomark _)
/-! x in a list of numbers -/
end
end DL

set_option Elab.async false
set_option linter.all false
set_option maxRecDepth 100000
set_option maxHeartbeats 4000000
namespace DL
open PySem PySem.Spec PyProof.Rows L2
/-! ### comprehensions -/
def IsBlk (X : Cx) (scope : Scope) (X' : Cx) : Prop := ∃ (s : Shared) (H : Hp) (C : Addr) (cl : List (Str × Addr)) (fp : List Addr), X' = X.blk s H scope (compEnvC scope cl C X.env) fp
def TVs (X : Cx) (ifs : List Expr) (σ : L2.St) (H : Hp) (Q : Bool → Hp → Prop) : Prop := ∀ (pins : List (Addr × Obj)) (s : Shared), Inv X pins σ H s →
    wpAny (model X.prog X.w) X.A (forIn ifs true fun c r => if r = true then do let ok ← isTrue c X.env (eval c X.env); pure (ForInStep.yield ok) else pure (ForInStep.yield r)) (TP X pins σ Q) X.xe s
theorem TVs.of {X : Cx} {ifs : List Expr} {te : TT} {σ : L2.St} {H : Hp} {Q : Bool → Hp → Prop} (h : PTs X ifs te) (q : te σ H Q) : TVs X ifs σ H Q := fun pins s I => h.run pins s σ H Q I q
def DTs (X : Cx) (Γ : List Sl) (ifs : List Expr) (b : Bool) : Prop := ∀ F0 H0 F H σ, En F0 H0 F H σ Γ → ∀ Q : Bool → Hp → Prop, (∀ F' H', Gr F H F' H' → Q b H') → TVs X ifs σ H Q
theorem dts_nil {X : Cx} {Γ : List Sl} : DTs X Γ [] true := fun F0 H0 F H σ en Q q => .of pts_nil (q F H (.refl en.gr.s))
theorem dts_one {X : Cx} {Γ : List Sl} {c : Expr} {b : Bool} (h : DT X Γ c b) : DTs X Γ [c] b := fun F0 H0 F H σ en Q q => .of (pts_one pt_ev) (h F0 H0 F H σ en Q q)
def wipeG (Γ : List Sl) : List Nat → List Sl
  | [] => Γ
  | v :: vs => (wipeG Γ vs).set v .any
theorem En.wipe {F0 H0 F H : Hp} {σ : L2.St} {Γ : List Sl} (e : En F0 H0 F H σ Γ) : ∀ vs : List Nat, En F0 H0 F H (L2.wipe σ vs) (wipeG Γ vs)
  | [] => e
  | v :: vs => (En.wipe e vs).setAny none
section
variable {X : Cx} {N : List Str} {sc : Scope} {k j : Nat} {Γ Γ' Γ1 : List Sl} {tg it a b c e : Expr} {ifs es rest : List Expr} {r ra rb rc r' : Rep} {rs l l2 : List Rep} {pos p p2 : Pos} {x : Str} {i : Nat} {ws ws' : List Nat} {F0 H0 F1 F H : Hp} {σ : L2.St} {st body : List Stmt} {D : Ends} {n : Nat} {rr : Nat → Rep}
variable {scope : Scope} {own : List (Str × Nat)}
theorem BX.blk (B : BX X N sc k) {X' : Cx} (h : IsBlk X scope X') : BX X' N (relS scope sc) k := by
  obtain ⟨s, H, C, cl, fp, rfl⟩ := h
  exact ⟨B.hN, by show relS scope X.env.scope = _; rw [B.hsc], B.nd, B.room, B.calm, PassesOwn.never⟩
theorem wipe_wipe (σ : L2.St) (us : List Nat) : L2.wipe (L2.wipe σ us) us = L2.wipe σ us := by
  apply List.ext_getElem?
  intro j
  rw [wipe_get us (L2.wipe σ us) j, wipe_length]
  by_cases hj : j ∈ us ∧ j < σ.length
  · rw [if_pos hj, wipe_get us σ j, if_pos hj]
  · rw [if_neg hj]
theorem filter_snoc (tb : Nat → Bool) (f : Nat → Rep) (i : Nat) : ((List.range (i + 1)).filter tb).map f = ((List.range i).filter tb).map f ++ (if tb i = true then [f i] else []) := by
  rw [List.range_succ, List.filter_append, List.map_append]
  congr 1
  by_cases h : tb i = true
  · rw [if_pos h]; simp [h]
  · rw [if_neg h]; simp [h]
theorem dl_lc (B : BX X N sc k) (own : List (Str × Nat)) (hi : SR X Γ tg it n rr) (ok : BlkOk N sc scope own) (G1 : Nat → List Sl) (tb : Nat → Bool) (f : Nat → Rep) (hn : n < sizeLine) (hw : ∀ i ∈ ws, i ∈ own.map (·.2))
    (hg : ∀ (s : Shared) (H : Hp) (C : Addr) (cl : List (Str × Addr)) (fp : List Addr), BX (X.blk s H scope (compEnvC scope cl C X.env) fp) N (relS scope sc) k → ∀ i, i < n → DG (X.blk s H scope (compEnvC scope cl C X.env) fp) (wipeG Γ (own.map (·.2))) tg (rr i) (G1 i) ws)
    (ht : ∀ (s : Shared) (H : Hp) (C : Addr) (cl : List (Str × Addr)) (fp : List Addr), BX (X.blk s H scope (compEnvC scope cl C X.env) fp) N (relS scope sc) k → ∀ i, i < n → DTs (X.blk s H scope (compEnvC scope cl C X.env) fp) (G1 i) ifs (tb i))
    (he : ∀ (s : Shared) (H : Hp) (C : Addr) (cl : List (Str × Addr)) (fp : List Addr), BX (X.blk s H scope (compEnvC scope cl C X.env) fp) N (relS scope sc) k → ∀ i, i < n → tb i = true → DE (X.blk s H scope (compEnvC scope cl C X.env) fp) (G1 i) e (f i)) (hs : ∀ x, foldedSetIterable it X.env x = pure x := by intro _; rfl) :
    DL X Γ (.ListComp e [⟨tg, it, ifs, 0⟩] scope pos) (((List.range n).filter tb).map f) := fun F0 H0 F H σ en Q q => by
  replace hg : ∀ X', IsBlk X scope X' → BX X' N (relS scope sc) k → ∀ i, i < n → DG X' (wipeG Γ (own.map (·.2))) tg (rr i) (G1 i) ws := fun X' h B => by obtain ⟨s, H, C, cl, fp, rfl⟩ := h; exact hg s H C cl fp B
  replace ht : ∀ X', IsBlk X scope X' → BX X' N (relS scope sc) k → ∀ i, i < n → DTs X' (G1 i) ifs (tb i) := fun X' h B => by obtain ⟨s, H, C, cl, fp, rfl⟩ := h; exact ht s H C cl fp B
  replace he : ∀ X', IsBlk X scope X' → BX X' N (relS scope sc) k → ∀ i, i < n → tb i = true → DE X' (G1 i) e (f i) := fun X' h B => by obtain ⟨s, H, C, cl, fp, rfl⟩ := h; exact he s H C cl fp B
  let g : TG := fun v σ H Q => ∀ X', IsBlk X scope X' → GV X' tg v σ H Q
  let tt : TT := fun σ H Q => ∀ X', IsBlk X scope X' → TVs X' ifs σ H Q
  let te : TE := fun σ H Q => ∀ X', IsBlk X scope X' → EV X' e σ H Q
  have pg : ∀ (s : Shared) (H : Hp) (C : Addr) (cl : List (Str × Addr)) (fp : List Addr), PG (X.blk s H scope (compEnvC scope cl C X.env) fp) tg g := fun s H C cl fp => ⟨fun pins s' σ H v u Q I r h => h _ ⟨s, _, C, cl, fp, rfl⟩ pins s' u I r⟩
  have pt : ∀ (s : Shared) (H : Hp) (C : Addr) (cl : List (Str × Addr)) (fp : List Addr), PTs (X.blk s H scope (compEnvC scope cl C X.env) fp) ifs tt := fun s H C cl fp => ⟨fun pins s' σ H Q I h => h _ ⟨s, _, C, cl, fp, rfl⟩ pins s' I⟩
  have pe : ∀ (s : Shared) (H : Hp) (C : Addr) (cl : List (Str × Addr)) (fp : List Addr), PE (X.blk s H scope (compEnvC scope cl C X.env) fp) e te := fun s H C cl fp => ⟨fun pins s' σ H Q I h => h _ ⟨s, _, C, cl, fp, rfl⟩ pins s' I⟩
  refine .of (pe_lc B.calm (by rw [B.hN]; exact B.nd) pi_ev (by rw [B.hN, B.hsc]; exact ok) pg pt pe hs) ?_
  refine hi F0 H0 F H σ en _ fun J F1 H1 g1 wk => fun D hD => ?_
  have en1 := en.grow g1
  refine ⟨fun i m H => m = n - i ∧ i ≤ n ∧ ∃ F vs, Gr F1 H1 F H ∧ F D = none ∧ H D = some (.lst vs) ∧ RL F (((List.range i).filter tb).map f) vs, ⟨n, by simp, Nat.zero_le _, F1, [], .newOwn g1.s hD, g1.s.free hD, upd_same, .nil⟩, fun i m H2 hw2 => ?_⟩
  obtain ⟨rfl, hle, F2, vs, g2, d2, e2, l2⟩ := hw2
  have s2 : Same F1 H2 := g2.f.trans g2.s
  by_cases hlt : i < n
  · refine .inr ⟨wk.go i H2 s2 hlt, fun H => i + 1 ≤ n ∧ ∃ F vs, Gr F1 H1 F H ∧ F D = none ∧ H D = some (.lst vs) ∧ RL F (((List.range (i + 1)).filter tb).map f) vs, fun H' h => ⟨n - (i + 1), by omega, rfl, h.1, h.2⟩, fun x H3 hy => ?_⟩
    obtain ⟨F3, g3, hx⟩ := wk.yld i F2 H2 x H3 g2.f g2.s hlt hy
    have en3 := ((en1.grow (g2.trans g3)).wipe (own.map (·.2)))
    -- the target is stored
    have key : ∀ X', IsBlk X scope X' → ∀ Q : L2.St → Hp → Prop, (∀ F' H' σ', Gr F3 H3 F' H' → En F0 H0 F' H' σ' (G1 i) → Off ws (L2.wipe σ (own.map (·.2))) σ' → Q σ' H') → GV X' tg x (L2.wipe σ (own.map (·.2))) H3 Q := fun X' hX' Q hQ => hg X' hX' (B.blk hX') i hlt F0 H0 F3 H3 _ x en3 hx Q hQ
    intro X' hX'
    refine key X' hX' _ fun F4 H4 σ4 g4 en4 off => ⟨?_, fun X2 hX2 => ?_⟩
    · have := off (own.map (·.2)) hw
      rw [this]
      exact wipe_wipe _ _
    refine ht X2 hX2 (B.blk hX2) i hlt F0 H0 F4 H4 σ4 en4 _ fun F5 H5 g5 => ?_
    have gg5 := ((g2.trans g3).trans g4).trans g5
    have d5 : F5 D = none := (((g3.trans g4).trans g5).n D (by rw [e2]; exact fun z => nomatch z) d2)
    have h5 : H5 D = some (.lst vs) := ((g3.trans g4).trans g5).h _ _ e2
    have l5 := l2.mono ((g3.trans g4).trans g5).f
    cases hb : tb i with
    | false =>
      rw [if_neg Bool.false_ne_true]
      refine ⟨hlt, F5, vs, gg5, d5, h5, ?_⟩
      rw [filter_snoc, hb, if_neg Bool.false_ne_true, List.append_nil]
      exact l5
    | true =>
      rw [if_pos rfl]
      intro X3 hX3
      refine he X3 hX3 (B.blk hX3) i hlt hb F0 H0 F5 H5 σ4 (en4.grow g5) _ fun y F6 H6 g6 hy6 => ?_
      have h6 := g6.h _ _ h5
      have d6 := g6.n D (by rw [h5]; exact fun z => nomatch z) d5
      have hlen : vs.length < sizeLine := by
        rw [← l5.len, List.length_map]
        have := List.length_filter_le tb (List.range i)
        rw [List.length_range] at this
        omega
      refine ⟨vs, h6, hlen, hlt, F6, vs ++ [y], ?_, d6, upd_same, ?_⟩
      · have gg6 := gg5.trans g6
        exact ⟨gg6.f, fun b o z => by rw [upd_ne (ne_of_none z hD)]; exact gg6.h b o z, same_out gg6.s d6, gg6.n⟩
      · rw [filter_snoc, hb, if_pos rfl]
        exact (l5.mono g6.f).snoc hy6
  · have e : i = n := by omega
    subst e
    refine .inl ⟨wk.stop i H2 s2 (Nat.le_refl _), ?_⟩
    exact q D vs F2 H2 (g1.trans g2) (g1.h.free hD) d2 e2 l2
/-- over a list, without a test -/
theorem lc_all {α : Type} {R : α → Rep} {xs : List α} {d : α} {f : α → Rep} : ((List.range xs.length).filter fun _ => true).map (fun i => f (xs.getD i d)) = xs.map f := by
  rw [List.filter_eq_self.mpr (fun _ _ => rfl)]
  apply List.ext_getElem
  · simp
  · intro i h1 h2
    simp at h1 h2
    simp [List.getD_eq_getElem?_getD, List.getElem?_eq_getElem h2]
end
end DL

set_option linter.all false
set_option maxHeartbeats 4000000
namespace DL
open PySem L2
/-! sizes of numbers -/
theorem lg_dvd {a b : Int} (hb : b ≠ 0) (h : a ∣ b) : Lg a ≤ Lg b := lg_le (Nat.le_of_dvd (by omega) (Int.natAbs_dvd_natAbs.mpr h))
theorem fdiv_lg {a b : Int} (hb : b ≠ 0) (h : b ∣ a) : Lg (a.fdiv b) ≤ Lg a := by
  rw [Int.fdiv_eq_ediv_of_dvd h]
  by_cases h0 : a = 0
  · subst h0; simp
  · exact lg_dvd h0 (Int.ediv_dvd_of_dvd h)
theorem sz_ratio {t b : Int} {n : Nat} (hb : b ≠ 0) (h1 : Lg t ≤ n) (h2 : Lg b ≤ n) : Sz n ((t : Rat) / (b : Rat)) := by
  have hd := lowC_dvd t b
  refine ⟨?_, ?_⟩
  · rw [rat_num hb]
    exact Nat.le_trans (fdiv_lg (lowC_ne hb) hd.1) h1
  · rw [rat_den hb]
    exact Nat.le_trans (fdiv_lg (lowC_ne hb) hd.2) h2
theorem Sz.mono {m n : Nat} {q : Rat} (h : Sz m q) (k : m ≤ n) : Sz n q := ⟨Nat.le_trans h.1 k, Nat.le_trans h.2 k⟩
theorem sz_mul {m n : Nat} {q r : Rat} (h : Sz m q) (k : Sz n r) : Sz (m + n + 1) (q * r) := by
  rw [← r_times]
  refine sz_ratio (dd_ne q r) ?_ ?_ <;> grind [lg_mul, Sz]
theorem sz_int {n : Nat} {i : Int} (h : Lg i ≤ n) : Sz n (i : Rat) := by
  refine ⟨?_, ?_⟩
  · rw [Rat.num_intCast]; exact h
  · rw [Rat.den_intCast]
    have : Lg ((1 : Nat) : Int) = 0 := by decide
    omega
/-! the least common multiple of the bottoms -/
def lcmD (qs : List Rat) : Nat := qs.foldl (fun c q => Nat.lcm c q.den) 1
theorem take_snoc {α : Type} {xs : List α} {d : α} {i : Nat} (hi : i < xs.length) : xs.take (i + 1) = xs.take i ++ [xs.getD i d] := by
  rw [List.take_add_one, List.getElem?_eq_getElem hi, List.getD_eq_getElem?_getD, List.getElem?_eq_getElem hi]
  rfl
theorem lcmD_step {qs : List Rat} {i : Nat} (hi : i < qs.length) : lcmD (qs.take (i + 1)) = Nat.lcm (lcmD (qs.take i)) (qs.getD i 0).den := by
  unfold lcmD
  rw [take_snoc (d := 0) hi, List.foldl_append]
  rfl
theorem getD_mem {α : Type} {xs : List α} {d : α} {i : Nat} (hi : i < xs.length) : xs.getD i d ∈ xs := by
  rw [List.getD_eq_getElem?_getD, List.getElem?_eq_getElem hi]
  exact List.getElem_mem hi
theorem lg_lcm (a b : Nat) : Lg ((Nat.lcm a b : Nat) : Int) ≤ Lg (a : Int) + Lg (b : Int) + 1 := by
  have h : Nat.lcm a b ≤ a * b := Nat.div_le_self _ _
  have h2 := lg_mul (a : Int) (b : Int)
  have h3 : Lg ((Nat.lcm a b : Nat) : Int) ≤ Lg ((a : Int) * (b : Int)) := lg_le (by show Nat.lcm a b ≤ ((a : Int) * (b : Int)).natAbs; rw [Int.natAbs_mul]; exact h)
  omega
theorem lg_lcmD {n : Nat} : ∀ (qs : List Rat), (∀ q ∈ qs, Sz n q) → Lg (lcmD qs : Int) ≤ qs.length * (n + 1) := by
  have key : ∀ (qs : List Rat) (c : Nat), (∀ q ∈ qs, Sz n q) → Lg ((qs.foldl (fun c q => Nat.lcm c q.den) c : Nat) : Int) ≤ Lg (c : Int) + qs.length * (n + 1) := by
    intro qs
    induction qs with
    | nil => intro c _; simp
    | cons q qs ih =>
      intro c h
      rw [List.foldl_cons]
      have h1 := ih (Nat.lcm c q.den) fun x hx => h x (List.mem_cons_of_mem _ hx)
      have h2 := lg_lcm c q.den
      have h3 := (h q List.mem_cons_self).2
      rw [List.length_cons, Nat.add_mul]
      omega
  intro qs h
  have := key qs 1 h
  have h1 : Lg ((1 : Nat) : Int) = 0 := by decide
  unfold lcmD
  omega
/-! the least and the greatest -/
theorem lcmD_small {qs : List Rat} {n i : Nat} (h : ∀ q ∈ qs, Sz n q) (h2 : qs.length * (n + 1) < 9000) (hi : i ≤ qs.length) : (((lcmD (qs.take i) : Nat) : Int)).natAbs.log2 < 10000 := by
  have h3 := lg_lcmD (n := n) (qs.take i) fun q hq => h q (List.mem_of_mem_take hq)
  have h4 : (qs.take i).length * (n + 1) ≤ qs.length * (n + 1) := Nat.mul_le_mul_right _ (by rw [List.length_take]; omega)
  have h5 : (((lcmD (qs.take i) : Nat) : Int)).natAbs.log2 = Lg ((lcmD (qs.take i) : Nat) : Int) := rfl
  omega
theorem den_small {qs : List Rat} {n i : Nat} (h : ∀ q ∈ qs, Sz n q) (h2 : n < 9000) (hi : i < qs.length) : (((qs.getD i 0).den : Int)).natAbs.log2 < 10000 := by
  have h3 := (h _ (getD_mem (d := 0) hi)).2
  have h5 : (((qs.getD i 0).den : Int)).natAbs.log2 = Lg ((qs.getD i 0).den : Int) := rfl
  omega
/-! the law's Euclid -/
def eu (i : Nat) (p : Int × Int) : Int × Int := match i with
  | 0 => p
  | i + 1 => let q := eu i p; (q.2, q.1.fmod q.2)
structure EuJ (a b : Int) (i : Nat) : Prop where
  g : Int.gcd (eu i (a, b)).1 (eu i (a, b)).2 = Int.gcd a b
  p1 : 0 ≤ (eu i (a, b)).1
  p2 : 0 ≤ (eu i (a, b)).2
  lt : 1 ≤ i → (eu i (a, b)).2 < (eu i (a, b)).1
  bd : 1 ≤ i → (eu i (a, b)).1 * (eu i (a, b)).2 * 2 ^ (i - 1) ≤ a * b
theorem euJ0 {a b : Int} (ha : 0 ≤ a) (hb : 0 ≤ b) : EuJ a b 0 := ⟨rfl, ha, hb, fun z => by omega, fun z => by omega⟩
theorem euJ_step {a b : Int} {i : Nat} (h : EuJ a b i) (hy : (eu i (a, b)).2 ≠ 0) : EuJ a b (i + 1) := by
  obtain ⟨g, p1, p2, lt, bd⟩ := h
  have e1 : (eu (i + 1) (a, b)).1 = (eu i (a, b)).2 := rfl
  have e2 : (eu (i + 1) (a, b)).2 = (eu i (a, b)).1.fmod (eu i (a, b)).2 := rfl
  generalize hx : (eu i (a, b)).1 = x at *
  generalize hyy : (eu i (a, b)).2 = y at *
  have hm : x.fmod y = x % y := Int.fmod_eq_emod_of_nonneg _ p2
  have m0 : 0 ≤ x % y := Int.emod_nonneg _ hy
  have m1 : x % y < y := Int.emod_lt_of_pos _ (by omega)
  refine ⟨?_, ?_, ?_, ?_, ?_⟩
  · rw [e1, e2, hm, ← g, Int.emod_def, Int.gcd_sub_mul_left_right, Int.gcd_comm]
  · rw [e1]; exact p2
  · rw [e2, hm]; exact m0
  · intro _; rw [e1, e2, hm]; exact m1
  · intro _
    rw [e1, e2, hm]
    by_cases h0 : i = 0
    · subst h0
      have hxa : x = a := hx.symm
      have hyb : y = b := hyy.symm
      subst hxa hyb
      have : x % y ≤ x := by
        have := Int.mul_ediv_add_emod x y
        have : 0 ≤ y * (x / y) := Int.mul_nonneg p2 (Int.ediv_nonneg p1 p2)
        omega
      simp only [Nat.zero_add, Nat.sub_self, Int.pow_zero, Int.mul_one]
      rw [Int.mul_comm x y]
      exact Int.mul_le_mul_of_nonneg_left this p2
    · have hlt := lt (by omega)
      have hbd := bd (by omega)
      have h2 : 2 * (x % y) ≤ x := by
        have e := Int.mul_ediv_add_emod x y
        have hq : 1 ≤ x / y := (Int.le_ediv_iff_mul_le (by omega)).mpr (by omega)
        have : y * 1 ≤ y * (x / y) := Int.mul_le_mul_of_nonneg_left hq p2
        omega
      obtain ⟨j, rfl⟩ : ∃ j, i = j + 1 := ⟨i - 1, by omega⟩
      simp only [Nat.add_sub_cancel] at hbd ⊢
      rw [Int.pow_succ]
      have hp : (0 : Int) ≤ 2 ^ j := Int.pow_nonneg (by decide)
      have : y * (x % y) * 2 ≤ x * y := by
        rw [Int.mul_assoc, Int.mul_comm x y]
        exact Int.mul_le_mul_of_nonneg_left (by omega) p2
      calc y * (x % y) * (2 ^ j * 2) = y * (x % y) * 2 * 2 ^ j := by grind
        _ ≤ x * y * 2 ^ j := Int.mul_le_mul_of_nonneg_right this hp
        _ ≤ a * b := hbd
theorem eu_end {a b : Int} (h : EuJ a b 2000) (ha : 0 ≤ a) (hb : 0 ≤ b) (la : a < 2 ^ 990) (lb : b < 2 ^ 990) : (eu 2000 (a, b)).2 = 0 := by
  have hlt := h.lt (by decide)
  have hbd := h.bd (by decide)
  have p2 := h.p2
  rcases Int.lt_or_le 0 (eu 2000 (a, b)).2 with hy | hy
  · exfalso
    have h1 : (1 : Int) * 1 ≤ (eu 2000 (a, b)).1 * (eu 2000 (a, b)).2 := Int.mul_le_mul (by omega) (by omega) (by decide) (by omega)
    have hp : (0 : Int) ≤ 2 ^ (2000 - 1) := Int.pow_nonneg (by decide)
    have h2 := Int.mul_le_mul_of_nonneg_right h1 hp
    have h3 : a * b ≤ 2 ^ 990 * 2 ^ 990 := Int.mul_le_mul (by omega) (by omega) hb (Int.pow_nonneg (by decide))
    have h4 : (2 : Int) ^ 990 * 2 ^ 990 < 1 * 1 * 2 ^ (2000 - 1) := by decide +kernel
    omega
  · omega
theorem eu_gcd {a b : Int} {i : Nat} (h : EuJ a b i) (hz : (eu i (a, b)).2 = 0) : (eu i (a, b)).1 = (Int.gcd a b : Nat) := by
  have g := h.g
  have p1 := h.p1
  rw [hz, Int.gcd_zero_right] at g
  omega
theorem gcd_abs {s t : Int} : Int.gcd (s.natAbs : Int) (t.natAbs : Int) = Int.gcd s t := by simp [Int.gcd]
theorem lg_abs {s : Int} (h : Lg s < 990) : (s.natAbs : Int) < 2 ^ 990 := by
  have h1 := lg_lt h
  have : ((s.natAbs : Nat) : Int) < ((2 ^ 990 : Nat) : Int) := by omega
  simpa using this
theorem rat_den1b {t b : Int} (hb : b ≠ 0) (h : b.fdiv (lowC t b) = 1) : ((t : Rat) / (b : Rat)).den = 1 := by
  have := rat_den (t := t) hb
  omega
theorem low_terms {q : Rat} (hd : q.den ≠ 1) : (decide ((2 : Int) ≤ (q.den : Int)) && decide (((Int.gcd q.num (q.den : Int) : Nat) : Int) = 1)) = true := by
  have h1 := q.den_nz
  have h2 : Int.gcd q.num (q.den : Int) = 1 := q.reduced
  rw [h2]
  simp
  omega
/-! the law's numbers -/
def divs (c : Int) : Nat → Int
  | 0 => c
  | i + 1 => (divs c i).fdiv 10007
def bigN (c : Int) (j : Nat) : Int := (divs c j).fmod 10007
def smallN (c : Int) (j : Nat) : Int := (((c * 48271 + 69621 * (j : Int) + 11).fmod 2147483647).fdiv 16 * 7919 + (j : Int)).fmod 10007
def lawNums (ns : List Int) (k many : Nat) : List Int := if (10 : Int) ^ 18 ≤ ((ns.getD k 0).natAbs : Int) then (List.range many).map (bigN (ns.getD k 0).natAbs) else (List.range many).map (smallN (ns.getD k 0).natAbs)
theorem lawNums_len (ns : List Int) (k many : Nat) : (lawNums ns k many).length = many := by
  unfold lawNums
  split <;> simp
theorem mul_s {i j : Int} (h1 : i.natAbs < 18446744073709551616) (h2 : j.natAbs < 18446744073709551616) : Lg i + Lg j < 1000000 := by
  have a := lg_of (n := 64) (by decide) (show i.natAbs < 2 ^ 64 from h1)
  have b := lg_of (n := 64) (by decide) (show j.natAbs < 2 ^ 64 from h2)
  omega
theorem sm16 (x : Int) : ((x.fmod 2147483647).fdiv 16).natAbs < 18446744073709551616 := by
  have h1 := Int.fmod_nonneg_of_pos x (show (0 : Int) < 2147483647 by decide)
  have h2 := Int.fmod_lt_of_pos x (show (0 : Int) < 2147483647 by decide)
  rw [Int.fdiv_eq_ediv_of_nonneg _ (by decide)]
  omega
/-! the law's values -/
/-! the law's lists -/
end DL

set_option Elab.async false
set_option linter.all false
set_option maxRecDepth 100000
set_option maxHeartbeats 4000000
namespace DL
open PySem PySem.Spec PyProof.Rows L2
section
variable {X : Cx} {N : List Str} {sc : Scope} {k j : Nat} {Γ Γ' Γ1 : List Sl} {tg it a b c e o : Expr} {ifs es rest : List Expr} {r ra rb rc r' : Rep} {rs l l2 : List Rep} {pos p p2 apos : Pos} {x : Str} {i : Nat} {F0 H0 F1 F H : Hp} {σ : L2.St} {st body : List Stmt} {D : Ends}
/-! ### texts -/
variable {s t : Str}
/-- a constant of the module -/
theorem de_glob {v : V} (B : BX X N sc k) (hm : ∃ u, X.mg x = some u ∧ RelV v u) (hg : sc.names.lookup x = some .globalImplicit) (hd : (x == ("__debug__" : Str)) = false := by decide) : DE X Γ (.Name x pos) (rC v) := fun F0 H0 F H σ en Q q => by
  have hgl : Gl X x := by
    show X.env.scope.names.lookup x = _
    rw [B.hsc]
    exact hg
  obtain ⟨u, h1, h2⟩ := hm
  exact .of (pe_glob hgl h1 h2 hd) (q v F H (.refl en.gr.s) rfl)
theorem de_catS (hl : s.length + t.length ≤ sizeLine) (ha : DE X Γ a (rStr s)) (hb : DE X Γ b (rStr t)) : DE X Γ (.BinOp a .Add b pos) (rStr (s ++ t)) := de_op op_add_str (fun F H x y sm h1 h2 Q q => by
  cases h1
  cases h2
  exact ⟨s, t, rfl, rfl, hl, q _ F H (.refl sm) rfl⟩) ha hb
theorem de_strI {n : Int} (B : BX X N sc k) (hm : X.mg "str" = none) (hn : Lg n < 1920) (ha : DE X Γ a (rInt n)) (hg : sc.names.lookup ("str" : Str) = some NameKind.globalImplicit)
    (he : starEach (a :: []) X.env = (false, eval a X.env) :: starEach [] X.env := by rfl) : DE X Γ (.Call (.Name "str" p) [a] [] pos) (rStr (toString n)) :=
  de_bty B call_str_int (fun F H vs sm hv Q q => by
    obtain ⟨v, rfl, k1⟩ := rl1 hv
    cases k1
    exact ⟨n, rfl, hn, q _ F H (.refl sm) rfl⟩) hm (by decide +kernel) (da_cons ha da_nil he) hg (he := he)
theorem de_lenS (B : BX X N sc k) (hm : X.mg "len" = none) (hl : s.length ≤ sizeLine) (ha : DE X Γ a (rStr s)) (hg : sc.names.lookup ("len" : Str) = some NameKind.globalImplicit)
    (he : starEach (a :: []) X.env = (false, eval a X.env) :: starEach [] X.env := by rfl) : DE X Γ (.Call (.Name "len" p) [a] [] pos) (rInt s.length) :=
  de_blt B call_len_str (fun F H vs sm hv Q q => by
    obtain ⟨v, rfl, k1⟩ := rl1 hv
    cases k1
    exact ⟨s, rfl, hl, q _ F H (.refl sm) rfl⟩) hm PySem.boot_len (da_cons ha da_nil he) hg (he := he)
theorem vstr_dec : decide (V.str s = V.str t) = decide (s = t) := by
  by_cases h : s = t
  · rw [decide_eq_true h, h, decide_eq_true rfl]
  · rw [decide_eq_false h, decide_eq_false fun z => h (V.str.inj z)]
theorem b2_neS : B2 rNe (rStr s) (rStr t) (rBl (!decide (s = t))) := by
  have h := b2_ne (x := .str s) (y := .str t) rfl
  rw [vstr_dec] at h
  exact h
theorem dt_neS (ha : DE X Γ a (rStr s)) (hb : DE X Γ b (rStr t)) : DT X Γ (.Compare a [.NotEq] [b] pos) (!decide (s = t)) := dt_cmp op_ne b2_neS ha hb (nomark _)
end
end DL

set_option linter.all false
set_option maxRecDepth 100000
set_option maxHeartbeats 4000000
namespace DL
open PySem L2 TL
/-! ### numbers as texts -/
/-! ### the reading of a number -/
def isBdn (x : Str) : Bool := (!Txt.isdigit x) || decide ((400 : Int) < (x.length : Int))
def isNumr (x : Str) : Bool := (!isBdn x) && (decide (x = ("0" : Str)) || !Txt.startswith x ("0" : Str))
def pNeg (x : Str) : Bool := Txt.startswith x ("-" : Str)
def pUns (x : Str) : Str := if pNeg x = true then cutS x (some 1) none else x
def pTop (x : Str) : Str := (Txt.partition (pUns x) ("/" : Str)).1
def pSls (x : Str) : Str := (Txt.partition (pUns x) ("/" : Str)).2.1
def pBot (x : Str) : Str := if ((pSls x).length : Int) = 0 then ("1" : Str) else (Txt.partition (pUns x) ("/" : Str)).2.2
def pBad (x : Str) : Bool := (!isNumr (pTop x)) || ((!isNumr (pBot x)) || decide (pBot x = ("0" : Str)))
def pInt (x : Str) : Int := (intText? x).getD 0
def pAbs (x : Str) : Rat := ((pInt (pTop x) : Int) : Rat) / ((pInt (pBot x) : Int) : Rat)
def pNum (x : Str) : Rat := if pNeg x = true then ((0 : Int) : Rat) - pAbs x else pAbs x
/-- what is asked of a text that is read -/
structure RdOk (x : Str) : Prop where
  len : x.length ≤ 100000
  num : pBad x = false → intText? (pTop x) = some (pInt (pTop x)) ∧ intText? (pBot x) = some (pInt (pBot x)) ∧ pInt (pBot x) ≠ 0 ∧ Lg (pInt (pTop x)) ≤ 1400 ∧ Lg (pInt (pBot x)) ≤ 1400
/-! ### a number's own text is read back -/
end DL

set_option Elab.async false
set_option linter.all false
set_option maxRecDepth 100000
set_option maxHeartbeats 4000000
namespace DL
open PySem PySem.Spec PyProof.Rows L2 TL
section
variable {X : Cx} {N : List Str} {sc : Scope} {k j : Nat} {Γ Γ' Γ1 : List Sl} {a b c e o : Expr} {r ra rb rc r' : Rep} {pos p p2 apos : Pos} {x : Str} {i : Nat} {s t : Str}
end
section
variable {x : Str}
structure PF (x b : Str) : Prop where
  it : intText? (Txt.partition (pUns x) ("/" : Str)).1 = some (pInt (pTop x))
  ib : intText? b = some (pInt (pBot x))
  nz : pInt (pBot x) ≠ 0
  lt : Lg (pInt (pTop x)) ≤ 1400
  lb : Lg (pInt (pBot x)) ≤ 1400
  wt : (Txt.partition (pUns x) ("/" : Str)).1.length ≤ 640
  wb : b.length ≤ 640
  sz : Sz 1402 (pAbs x)
  sn : Sz 1404 (pNum x)
end
theorem nd_t {p : Prop} [Decidable p] (h : (!decide p) = true) : ¬ p := by simpa using h
theorem nd_f {p : Prop} [Decidable p] (h : (!decide p) = false) : p := by simpa using h
end DL

set_option Elab.async false
set_option linter.all false
set_option maxRecDepth 100000
set_option maxHeartbeats 4000000
namespace DL
open PySem PySem.Spec PyProof.Rows L2
/-! ### try: f(..) except C as e: return .. -/
structure FX (X : Cx) (W : WX) : Prop where
  st : X.stack = X.env :: X.outer
  fr : X.env.frame = some X.env.locals
  tk : Takes X W
section
variable {P : Program} {w : World} {K : PySem.W.Frag} {mg : Str → Option Value} {base : Heap} {k : Nat} {x : Str} {st : Stmt} {N ps : List Str} {ι : Type} {pre : ι → Prop} {args : ι → List Rep} {res : ι → Ret}
theorem cal_okT (T : TD K mg x st) (S : FnScope N ps (defScope st)) (hn : ∀ g, (args g).length = ps.length)
    (hb : ∀ (kV doc pm : Value) (an : Option Addr) (cdv ct : Value) (us : List Value), us.length = ps.length → bindArgs (PySem.W.fnOf x x (defArgs st) (defBody st) (defScope st) .none kV doc pm an cdv ct) ⟨us, []⟩ = pure (ps.zip us))
    (body : ∀ (X : Cx), X.prog = P → X.w = w → X.K = K → X.mg = mg → X.base = base → FX X (fun _ _ _ _ => False) → BX X N (defScope st) k → (∀ x : Str, X.fn x = true) → ∀ (g : ι) (F0 H0 : Hp) (D : Ends), pre g → RT F0 H0 (res g) D → (∀ σ H', D.nx σ H' = D.rt .non H') →
      GO X F0 H0 (defBody st) D ((args g).map Sl.im ++ List.replicate (N.length - ps.length) .any)) : Cal P w K mg base (k + 1) x (Pm pre args res) := by
  obtain ⟨f, fd, F, hm⟩ := T.ex
  refine ⟨f, fd, ps, ?_, hm, F.kp, F.binds hb⟩
  refine FnOk.wide (F.ok S (fun vs H Q E h => ?_) (fun cdv A outer s H vs Q E hr h => ?_))
  · obtain ⟨g, F1, _, _, h1, _⟩ := h
    rw [← h1.len, hn]
  · obtain ⟨g, F1, hp, hs, h1, q⟩ := h
    refine ⟨_, pss_ev, ?_⟩
    have hpl : ps.length ≤ N.length := by have := congrArg List.length S.pre; rw [List.length_take] at this; omega
    have en := en_start (N := N) hs h1 (by rw [hn]; exact hpl)
    rw [hn] at en
    exact body _ rfl rfl rfl rfl rfl ⟨rfl, rfl, fun u s' ⟨_, _, _, _, _, _, _, _, _, _, _, _, _, _, _, _, z⟩ => z.elim⟩ ⟨rfl, rfl, S.nd, hr, rfl, PassesOwn.never⟩ (fun _ => rfl) g F1 H { nx := fun _ H' => Q .non H', rt := Q } hp q (fun _ _ => rfl) F1 H _ en
end
section
variable {X Y : Cx} {N : List Str} {sc : Scope} {k i : Nat} {Γ : List Sl} {a b c e : Expr} {rest : List Expr} {body suite st : List Stmt} {b₀ : Stmt} {x n : Str} {cv : Value} {np p p2 pos pos' : Pos} {W : WX} {D : Ends} {F0 H0 : Hp} {u v : Bool} {σ : L2.St} {H : Hp}
def tsu (X : Cx) (suite : List Stmt) (a : Addr) (cls : Value) (d : Option Addr) : TS := fun D σ H => ∀ (oe : Obj) (pn : List (Addr × Obj)), Zc cls d oe → (∃ vs, oe.data = .fields vs) → XS (X.suite a ((a, oe) :: pn)) suite D σ H
def tbo (X : Cx) (body : List Stmt) (W : WX) : TS := fun D σ H => ∀ (pn : List (Addr × Obj)) (xe : Value → Shared → Prop), Takes (X.tr pn xe) W → PassesOwn (model X.prog X.w) X.A X.env xe → XS (X.tr pn xe) body D σ H
theorem go_tryR (B : BX X N sc k) (Z : FX X W) (hN : N[i]? = some n) (hln : sc.names.lookup n = some .local) (hx : sc.names.lookup x = some .globalImplicit) (hm : X.mg x = some cv) (hd : (x == ("__debug__" : Str)) = false)
    (hb : ∀ pn xe, BX (X.tr pn xe) N sc k → Takes (X.tr pn xe) (wAs X.K cv i (tsu X (b₀ :: suite)) W { D with nx := XS X st D }) → GO (X.tr pn xe) F0 H0 body { D with nx := XS X st D } Γ) :
    GO X F0 H0 (.Try body [.ExceptHandler (some (.Name x np)) (some n) (b₀ :: suite) pos'] [] [] pos :: st) D Γ := fun F H σ en => by
  have hgl : Gl X x := by
    show X.env.scope.names.lookup x = _
    rw [B.hsc]
    exact hx
  have hk : X.env.kindOf n = some .local := by
    show X.env.scope.names.lookup n = _
    rw [B.hsc]
    exact hln
  refine .of (pss_cons (ps_try_as Z.st Z.fr (by rw [B.hN]; exact B.nd) (by rw [B.hN]; exact hN) hk ⟨hgl, hd, .inl hm⟩ Z.tk (tb := tbo X body) (ts := tsu X (b₀ :: suite)) (fun W pn xe tk po => ⟨fun pins s σ H D I h => h pn xe tk po pins s I⟩) (fun a oe cls d pn hz hv => ⟨fun pins s σ H D I h => h oe pn hz hv pins s I⟩)) pss_ev) ?_
  exact fun pn xe tk po => hb pn xe ⟨B.hN, B.hsc, B.nd, B.room, B.calm, po⟩ tk F H σ en
/-! an expression that tells and makes nothing -/
/-- e is a class of the program or a built-in one -/
def ClsE (Y : Cx) (e : Expr) (cv : Value) : Prop := ∃ c : V, (∀ u, RelV c u → u = cv) ∧ PE Y e (tC c)
theorem clsE_own {C : Addr} (hg : Gl Y x) (hm : Y.mg x = some (.ref C)) (hd : (x == ("__debug__" : Str)) = false := by decide) : ClsE Y (.Name x pos) (.ref C) := ⟨.ref C, fun u h => h, pe_glob hg hm rfl hd⟩
theorem clsE_blt {T : String} (hg : Gl Y x) (hm : Y.mg x = none) (hv : bootBuiltins x = some (.type T)) (hn : x ≠ "__name__" := by decide) (hd : (x == ("__debug__" : Str)) = false := by decide) : ClsE Y (.Name x pos) (.type T) := ⟨.ty T, fun u h => h, pe_bltn (v := .ty T) hg hm hv rfl hn hd⟩
end
end DL

set_option Elab.async false
set_option linter.all false
set_option maxRecDepth 100000
set_option maxHeartbeats 4000000
namespace DL
open PySem PySem.Spec PyProof.Rows L2
/-- a list of the heap that stands still -/
def rLh (l : List Rep) : Rep := ⟨fun F x => ∃ a vs, x = .ref a ∧ F a = some (.lst vs) ∧ RL F l vs, fun s ⟨a, vs, e, h, q⟩ => ⟨a, vs, e, s _ _ h, q.mono s⟩⟩
theorem sub_h2l {K : PySem.W.Frag} {l : List Rep} : Sub (rLh l) (rLst K l) := fun F v ⟨a, vs, e, h, q⟩ => ⟨a, vs, e, SqL.of h, q⟩
section
variable {X : Cx} {N : List Str} {sc : Scope} {k i : Nat} {Γ Γ' : List Sl} {a b c e : Expr} {l l2 : List Rep} {pos : Pos} {F0 H0 F H : Hp} {σ : L2.St} {st body orelse : List Stmt} {D : Ends}
theorem de_h2l (h : DE X Γ e (rLh l)) : DE X Γ e (rLst X.K l) := h.sub sub_h2l
theorem DL.hfz (h : DL X Γ e l) : DE X Γ e (rLh l) := fun F0 H0 F H σ en Q q => h F0 H0 F H σ en Q fun p vs F' H' g h1 h2 h3 h4 =>
  q (.ref p) (upd F' p (.lst vs)) H' ⟨g.f.trans (same_new h2), g.h, fun b o z => by
    by_cases hb : b = p
    · subst hb
      rw [upd_same] at z
      rw [h3, ← z]
    · rw [upd_ne hb] at z
      exact g.s b o z, fun a ha z => by
    have hp : a ≠ p := fun y => ha (y ▸ h1)
    rw [upd_ne hp]
    exact g.n a ha z⟩ ⟨p, vs, rfl, upd_same, h4.mono (same_new h2)⟩
theorem dl_catH (hz : l.length + l2.length ≤ sizeLine) (ha : DE X Γ a (rLh l)) (hb : DE X Γ b (rLh l2)) : DL X Γ (.BinOp a .Add b pos) (l ++ l2) := fun F0 H0 F H σ en Q q =>
  .of (pe_op op_cat pe_ev pe_ev) (ha F0 H0 F H σ en _ fun v F1 H1 g1 h1 => hb F0 H0 F1 H1 σ (en.grow g1) _ fun u F2 H2 g2 h2 => by
    obtain ⟨p1, v1, rfl, k1, r1⟩ := h1
    obtain ⟨p2, v2, rfl, k2, r2⟩ := h2
    refine ⟨p1, p2, v1, v2, rfl, rfl, g2.s _ _ (g2.f _ _ k1), g2.s _ _ k2, by rw [← (r1.mono g2.f).len, ← r2.len]; exact hz, fun p hp => ?_⟩
    exact q p _ F2 _ ((g1.trans g2).trans (.newOwn g2.s hp)) ((g1.trans g2).h.free hp) (g2.s.free hp) upd_same ((r1.mono g2.f).app r2))
theorem En.freezeH (e : En F0 H0 F H σ Γ) (h : Γ[i]? = some (.ow l)) : ∃ F', Same F F' ∧ Same F' H ∧ En F0 H0 F' H σ (Γ.set i (.im (rLh l))) := by
  obtain ⟨p, vs, h1, h2, h3, h4, h5⟩ := e.ow h
  have s1 : Same F (upd F p (.lst vs)) := same_new h2
  have s2 : Same (upd F p (.lst vs)) H := fun b o z => by
    by_cases hb : b = p
    · subst hb
      rw [upd_same] at z
      rw [h3, ← z]
    · rw [upd_ne hb] at z
      exact e.gr.s b o z
  have nn : ∀ {j : Nat} {q : Addr} {m : List Rep}, j ≠ i → Γ[j]? = some (.ow m) → σ[j]? = some (some (.ref q)) → q ≠ p := fun {j q m} hj k1 k2 z => hj (e.sep j i p m l k1 h (z ▸ k2) h1)
  refine ⟨upd F p (.lst vs), s1, s2, ?_⟩
  exact {
    gr := ⟨e.gr.f.trans s1, e.gr.h, s2, fun a ha z => by
      have hp : a ≠ p := fun y => ha (y ▸ h5)
      rw [upd_ne hp]
      exact e.gr.n a ha z⟩
    len := by simpa using e.len
    ok := fun j s x k1 k2 => by
      rcases get_set k1 with ⟨rfl, rfl⟩ | ⟨n, k1⟩
      · rw [h1] at k2
        cases k2
        exact ⟨.ref p, rfl, p, vs, rfl, upd_same, h4.mono s1⟩
      · have q := e.ok j s x k1 k2
        cases s with
        | any => trivial
        | im r =>
          obtain ⟨v, a, b⟩ := q
          exact ⟨v, a, r.mono s1 b⟩
        | ow m =>
          obtain ⟨p2, ws2, a, b, c, d⟩ := q
          subst a
          refine ⟨p2, ws2, rfl, ?_, c, d.mono s1⟩
          rw [upd_ne (nn (Ne.symm n) k1 k2)]
          exact b
    own := fun j q m k1 k2 => by
      rcases get_set k1 with ⟨_, z⟩ | ⟨n, k1⟩
      · cases z
      · exact e.own j q m k1 k2
    sep := fun j k q m m' k1 k1' k2 k2' => by
      rcases get_set k1 with ⟨_, z⟩ | ⟨n, k1⟩
      · cases z
      rcases get_set k1' with ⟨_, z⟩ | ⟨n', k1'⟩
      · cases z
      exact e.sep j k q m m' k1 k1' k2 k2' }
theorem go_frozH (i : Nat) (hΓ : Γ[i]? = some (.ow l)) (h : GO X F0 H0 st D (Γ.set i (.im (rLh l)))) : GO X F0 H0 st D Γ := fun F H σ en => by
  obtain ⟨F', s1, s2, en'⟩ := en.freezeH hΓ
  exact h F' H σ en'
/-- the frame, told anew -/
theorem go_nf {X : Cx} {F0 H0 : Hp} {st : List Stmt} {D : Ends} {Γ : List Sl} (Γ' : List Sl) (e : Γ = Γ') (h : GO X F0 H0 st D Γ') : GO X F0 H0 st D Γ := e ▸ h
/-- an if, both ways to the same place -/
theorem go_ifK {t : Bool} (up : List (Nat × Sl)) (hc : DT X Γ c t) (hk : GO X F0 H0 st D (sets Γ up)) (h1 : GO X F0 H0 st D (sets Γ up) → t = true → GO X F0 H0 body { D with nx := XS X st D } Γ) (h2 : GO X F0 H0 st D (sets Γ up) → t = false → GO X F0 H0 orelse { D with nx := XS X st D } Γ) : GO X F0 H0 (.If c body orelse pos :: st) D Γ :=
  go_if hc (h1 hk) (h2 hk)
theorem go_join (hk : GO X F0 H0 st D Γ') (h : SlLe Γ Γ') : GO X F0 H0 [] { D with nx := XS X st D } Γ := go_nil fun F H σ en => hk F H σ (en.le h)
end
end DL

set_option Elab.async false
set_option linter.all false
set_option maxRecDepth 100000
set_option maxHeartbeats 4000000
namespace DL
open PySem PySem.Spec PyProof.Rows L2
section
variable {X : Cx} {N : List Str} {sc : Scope} {k j : Nat} {Γ Γ' Γ1 : List Sl} {tg it a b c e o : Expr} {ifs es rest : List Expr} {r ra rb rc r' : Rep} {rs l l2 : List Rep} {pos p p2 apos : Pos} {x : Str} {i n : Nat} {rr : Nat → Rep} {ws : List Nat} {scope : Scope}
theorem go_setLc {F0 H0 : Hp} {st : List Stmt} {D : Ends} {iy : Nat} {y : Str} {py spos : Pos} {l' : List Rep} (B : BX X N sc k) (own : List (Str × Nat)) (hi : SR X Γ tg it n rr) (ok : BlkOk N sc scope own) (G1 : Nat → List Sl) (tb : Nat → Bool) (f : Nat → Rep) (hn : n < sizeLine) (hw : ∀ i ∈ ws, i ∈ own.map (·.2))
    (hg : ∀ (s : Shared) (H : Hp) (C : Addr) (cl : List (Str × Addr)) (fp : List Addr), BX (X.blk s H scope (compEnvC scope cl C X.env) fp) N (relS scope sc) k → ∀ i, i < n → DG (X.blk s H scope (compEnvC scope cl C X.env) fp) (wipeG Γ (own.map (·.2))) tg (rr i) (G1 i) ws)
    (ht : ∀ (s : Shared) (H : Hp) (C : Addr) (cl : List (Str × Addr)) (fp : List Addr), BX (X.blk s H scope (compEnvC scope cl C X.env) fp) N (relS scope sc) k → ∀ i, i < n → DTs (X.blk s H scope (compEnvC scope cl C X.env) fp) (G1 i) ifs (tb i))
    (he : ∀ (s : Shared) (H : Hp) (C : Addr) (cl : List (Str × Addr)) (fp : List Addr), BX (X.blk s H scope (compEnvC scope cl C X.env) fp) N (relS scope sc) k → ∀ i, i < n → tb i = true → DE (X.blk s H scope (compEnvC scope cl C X.env) fp) (G1 i) e (f i)) (hs : ∀ x, foldedSetIterable it X.env x = pure x := by intro _; rfl) (hl : ((List.range n).filter tb).map f = l')
    (hNy : N[iy]? = some y) (hyl : sc.names.lookup y = some .local) (h : GO X F0 H0 st D (Γ.set iy (.ow l'))) (hsw : ∀ env : Env, env.scope = sc → swapsWith (.ListComp e [⟨tg, it, ifs, 0⟩] scope pos) (some (.Name y py)) spos.line env = pure true) :
    GO X F0 H0 (.Assign [.Name y py] (.ListComp e [⟨tg, it, ifs, 0⟩] scope pos) spos :: st) D Γ := fun F H σ en => by
  subst hl
  have q : ∀ p vs F' H', Gr F H F' H' → H p = none → F' p = none → H' p = some (.lst vs) → RL F' (((List.range n).filter tb).map f) vs → XS X st D (σ.set iy (some (.ref p))) H' := fun p vs F' H' g h1 h2 h3 h4 => h F' H' _ ((en.grow g).setOw h2 h3 h4 (en.gr.h.free h1) fun j l' k1 k2 => by
    obtain ⟨p', vs', a1, a2, a3, a4, a5⟩ := en.ow k1
    rw [a1] at k2
    have e2 : p' = p := V.ref.inj (Option.some.inj (Option.some.inj k2))
    rw [e2, h1] at a3
    cases a3)
  clear h
  replace hg : ∀ X', IsBlk X scope X' → BX X' N (relS scope sc) k → ∀ i, i < n → DG X' (wipeG Γ (own.map (·.2))) tg (rr i) (G1 i) ws := fun X' h B => by obtain ⟨s, H, C, cl, fp, rfl⟩ := h; exact hg s H C cl fp B
  replace ht : ∀ X', IsBlk X scope X' → BX X' N (relS scope sc) k → ∀ i, i < n → DTs X' (G1 i) ifs (tb i) := fun X' h B => by obtain ⟨s, H, C, cl, fp, rfl⟩ := h; exact ht s H C cl fp B
  replace he : ∀ X', IsBlk X scope X' → BX X' N (relS scope sc) k → ∀ i, i < n → tb i = true → DE X' (G1 i) e (f i) := fun X' h B => by obtain ⟨s, H, C, cl, fp, rfl⟩ := h; exact he s H C cl fp B
  let g : TG := fun v σ H Q => ∀ X', IsBlk X scope X' → GV X' tg v σ H Q
  let tt : TT := fun σ H Q => ∀ X', IsBlk X scope X' → TVs X' ifs σ H Q
  let te : TE := fun σ H Q => ∀ X', IsBlk X scope X' → EV X' e σ H Q
  have pg : ∀ (s : Shared) (H : Hp) (C : Addr) (cl : List (Str × Addr)) (fp : List Addr), PG (X.blk s H scope (compEnvC scope cl C X.env) fp) tg g := fun s H C cl fp => ⟨fun pins s' σ H v u Q I r h => h _ ⟨s, _, C, cl, fp, rfl⟩ pins s' u I r⟩
  have pt : ∀ (s : Shared) (H : Hp) (C : Addr) (cl : List (Str × Addr)) (fp : List Addr), PTs (X.blk s H scope (compEnvC scope cl C X.env) fp) ifs tt := fun s H C cl fp => ⟨fun pins s' σ H Q I h => h _ ⟨s, _, C, cl, fp, rfl⟩ pins s' I⟩
  have pe : ∀ (s : Shared) (H : Hp) (C : Addr) (cl : List (Str × Addr)) (fp : List Addr), PE (X.blk s H scope (compEnvC scope cl C X.env) fp) e te := fun s H C cl fp => ⟨fun pins s' σ H Q I h => h _ ⟨s, _, C, cl, fp, rfl⟩ pins s' I⟩
  refine .of (pss_cons (ps_setLc (i := iy) B.calm (by rw [B.hN]; exact B.nd) (by rw [B.hN]; exact hNy) (by rw [B.hsc]; exact hyl) (hsw _ B.hsc) pi_ev (by rw [B.hN, B.hsc]; exact ok) pg pt pe hs) pss_ev) ?_
  refine hi F0 H0 F H σ en _ fun J F1 H1 g1 wk => fun D hD => ?_
  have en1 := en.grow g1
  refine ⟨fun i m H => m = n - i ∧ i ≤ n ∧ ∃ F vs, Gr F1 H1 F H ∧ F D = none ∧ H D = some (.lst vs) ∧ RL F (((List.range i).filter tb).map f) vs, ⟨n, by simp, Nat.zero_le _, F1, [], .newOwn g1.s hD, g1.s.free hD, upd_same, .nil⟩, fun i m H2 hw2 => ?_⟩
  obtain ⟨rfl, hle, F2, vs, g2, d2, e2, l2⟩ := hw2
  have s2 : Same F1 H2 := g2.f.trans g2.s
  by_cases hlt : i < n
  · refine .inr ⟨wk.go i H2 s2 hlt, fun H => i + 1 ≤ n ∧ ∃ F vs, Gr F1 H1 F H ∧ F D = none ∧ H D = some (.lst vs) ∧ RL F (((List.range (i + 1)).filter tb).map f) vs, fun H' h => ⟨n - (i + 1), by omega, rfl, h.1, h.2⟩, fun x H3 hy => ?_⟩
    obtain ⟨F3, g3, hx⟩ := wk.yld i F2 H2 x H3 g2.f g2.s hlt hy
    have en3 := ((en1.grow (g2.trans g3)).wipe (own.map (·.2)))
    -- the target is stored
    have key : ∀ X', IsBlk X scope X' → ∀ Q : L2.St → Hp → Prop, (∀ F' H' σ', Gr F3 H3 F' H' → En F0 H0 F' H' σ' (G1 i) → Off ws (L2.wipe σ (own.map (·.2))) σ' → Q σ' H') → GV X' tg x (L2.wipe σ (own.map (·.2))) H3 Q := fun X' hX' Q hQ => hg X' hX' (B.blk hX') i hlt F0 H0 F3 H3 _ x en3 hx Q hQ
    intro X' hX'
    refine key X' hX' _ fun F4 H4 σ4 g4 en4 off => ⟨?_, fun X2 hX2 => ?_⟩
    · have := off (own.map (·.2)) hw
      rw [this]
      exact wipe_wipe _ _
    refine ht X2 hX2 (B.blk hX2) i hlt F0 H0 F4 H4 σ4 en4 _ fun F5 H5 g5 => ?_
    have gg5 := ((g2.trans g3).trans g4).trans g5
    have d5 : F5 D = none := (((g3.trans g4).trans g5).n D (by rw [e2]; exact fun z => nomatch z) d2)
    have h5 : H5 D = some (.lst vs) := ((g3.trans g4).trans g5).h _ _ e2
    have l5 := l2.mono ((g3.trans g4).trans g5).f
    cases hb : tb i with
    | false =>
      rw [if_neg Bool.false_ne_true]
      refine ⟨hlt, F5, vs, gg5, d5, h5, ?_⟩
      rw [filter_snoc, hb, if_neg Bool.false_ne_true, List.append_nil]
      exact l5
    | true =>
      rw [if_pos rfl]
      intro X3 hX3
      refine he X3 hX3 (B.blk hX3) i hlt hb F0 H0 F5 H5 σ4 (en4.grow g5) _ fun y F6 H6 g6 hy6 => ?_
      have h6 := g6.h _ _ h5
      have d6 := g6.n D (by rw [h5]; exact fun z => nomatch z) d5
      have hlen : vs.length < sizeLine := by
        rw [← l5.len, List.length_map]
        have := List.length_filter_le tb (List.range i)
        rw [List.length_range] at this
        omega
      refine ⟨vs, h6, hlen, hlt, F6, vs ++ [y], ?_, d6, upd_same, ?_⟩
      · have gg6 := gg5.trans g6
        exact ⟨gg6.f, fun b o z => by rw [upd_ne (ne_of_none z hD)]; exact gg6.h b o z, same_out gg6.s d6, gg6.n⟩
      · rw [filter_snoc, hb, if_pos rfl]
        exact (l5.mono g6.f).snoc hy6
  · have e : i = n := by omega
    subst e
    refine .inl ⟨wk.stop i H2 s2 (Nat.le_refl _), ?_⟩
    exact q D vs F2 H2 (g1.trans g2) (g1.h.free hD) d2 e2 l2
end
section
variable {X : Cx} {Γ : List Sl} {es : List Expr} {rs : List Rep}
end
end DL

set_option Elab.async false
set_option linter.all false
set_option maxRecDepth 100000
set_option maxHeartbeats 4000000
namespace DL
open PySem PySem.Spec PyProof.Rows L2
/-! ### the law itself -/
section
variable {P : Program} {w : World} {K : PySem.W.Frag} {mg : Str → Option Value} {base : Heap} {k : Nat} {x : Str} {st : Stmt} {N ps : List Str} {ι : Type} {pre : ι → Prop} {args : ι → List Rep} {res : ι → Ret} {f : Addr} {fd : FuncData}
theorem cal_okF (F : Fun K x x st f fd) (S : FnScope N ps (defScope st)) (hn : ∀ g, (args g).length = ps.length)
    (body : ∀ (X : Cx), X.prog = P → X.w = w → X.K = K → X.mg = mg → X.base = base → BX X N (defScope st) k → (∀ x : Str, X.fn x = true) → ∀ (g : ι) (F0 H0 : Hp) (D : Ends), pre g → RT F0 H0 (res g) D → (∀ σ H', D.nx σ H' = D.rt .non H') →
      GO X F0 H0 (defBody st) D ((args g).map Sl.im ++ List.replicate (N.length - ps.length) .any)) : FnOk P w K mg base (L2.CX P w) (k + 1) f fd ps (Pm pre args res) := by
  refine FnOk.wide (F.ok S (fun vs H Q E h => ?_) (fun cdv A outer s H vs Q E hr h => ?_))
  · obtain ⟨g, F1, _, _, h1, _⟩ := h
    rw [← h1.len, hn]
  · obtain ⟨g, F1, hp, hs, h1, q⟩ := h
    refine ⟨_, pss_ev, ?_⟩
    have hpl : ps.length ≤ N.length := by have := congrArg List.length S.pre; rw [List.length_take] at this; omega
    have en := en_start (N := N) hs h1 (by rw [hn]; exact hpl)
    rw [hn] at en
    exact body _ rfl rfl rfl rfl rfl ⟨rfl, rfl, S.nd, hr, rfl, PassesOwn.never⟩ (fun _ => rfl) g F1 H { nx := fun _ H' => Q .non H', rt := Q } hp q (fun _ _ => rfl) F1 H _ en
end
theorem rl_ints (H : Hp) : ∀ ns : List Int, RL H (ns.map rInt) (ns.map V.int)
  | [] => .nil
  | _ :: r => .cons rfl (rl_ints H r)
end DL

set_option Elab.async false
set_option linter.all false
set_option maxRecDepth 100000
set_option maxHeartbeats 4000000
namespace DL
open PySem PySem.Spec PyProof.Rows L2
/-! ### data by kinds: what == tells -/
structure Dat {α : Type} [DecidableEq α] (K : PySem.W.Frag) (R : α → Rep) (d : α → PyData) (n : Nat) : Prop where
  dp : ∀ a, DpL K (R a) (d a)
  lay : ∀ a, PyData.canLay0 (d a) = true
  dep : ∀ a, PyData.depth (d a) ≤ n
  eq : ∀ a b, PyData.eqv (d a) (d b) = decide (a = b)
section
variable {K : PySem.W.Frag} {α : Type} [DecidableEq α] {R : α → Rep} {d : α → PyData} {n : Nat}
theorem dat_int : Dat K rInt PyData.int 0 := ⟨fun _ => dpl_int, fun _ => rfl, fun _ => Nat.le_refl _, fun a b => by
  show (a == b) = _
  by_cases h : a = b <;> simp [h]⟩
theorem dat_num : Dat K (rNum K) numD 1 := ⟨fun _ => dpl_num, fun _ => SeqAt.canLay_of_shaped shaped_num, fun q => by
    unfold numD
    split
    · exact Nat.zero_le _
    · show max 0 (max 0 0) + 1 ≤ 1
      decide, fun a b => numD_eq⟩
theorem eqvAll_map (h : ∀ a b, PyData.eqv (d a) (d b) = decide (a = b)) : ∀ l m : List α, PyData.eqvAll (l.map d) (m.map d) = decide (l = m)
  | [], [] => rfl
  | [], y :: m => by rw [decide_eq_false (by simp)]; rfl
  | x :: l, [] => by rw [decide_eq_false (by simp)]; rfl
  | x :: l, y :: m => by
    show (PyData.eqv (d x) (d y) && PyData.eqvAll (l.map d) (m.map d)) = _
    rw [h, eqvAll_map h l m]
    by_cases e : x = y
    · by_cases f : l = m <;> simp [e, f]
    · simp [e]
theorem canLayAll_map (h : ∀ a, PyData.canLay0 (d a) = true) : ∀ l : List α, PyData.canLayAll0 (l.map d) = true
  | [] => rfl
  | x :: l => by
    show (PyData.canLay0 (d x) && PyData.canLayAll0 (l.map d)) = true
    rw [h, canLayAll_map h l]; rfl
theorem depthAll_map (h : ∀ a, PyData.depth (d a) ≤ n) : ∀ l : List α, PyData.depthAll (l.map d) ≤ n
  | [] => Nat.zero_le _
  | x :: l => by
    show max (PyData.depth (d x)) (PyData.depthAll (l.map d)) ≤ n
    have := h x; have := depthAll_map h l; omega
theorem dat_lst (D : Dat K R d n) : Dat K (fun l : List α => rLst K (l.map R)) (fun l => .list (l.map d)) (n + 1) :=
  ⟨fun l => dpl_lst fun a _ => D.dp a, fun l => canLayAll_map D.lay l, fun l => Nat.succ_le_succ (depthAll_map D.dep l), fun l m => eqvAll_map D.eq l m⟩
theorem Dat.shaped (D : Dat K R d n) (h : n ≤ 64) (a : α) : SeqAt.shaped (d a) = true := by
  unfold SeqAt.shaped
  rw [Bool.and_eq_true]
  exact ⟨D.lay a, decide_eq_true (Nat.le_trans (D.dep a) h)⟩
theorem anyD (D : Dat K R d n) {l : List α} {a : α} : ((l.map d).any fun z => PyData.eqv z (d a)) = decide (a ∈ l) := by
  have e : ((fun z => PyData.eqv z (d a)) ∘ d) = fun x => decide (x = a) := funext fun x => D.eq x a
  rw [List.any_map, e]
  induction l with
  | nil => simp
  | cons x xs ih =>
    rw [List.any_cons, ih]
    by_cases h : x = a
    · simp [h]
    · have h2 : ¬ a = x := fun z => h z.symm
      simp [h, h2]
end
section
variable {X : Cx} {N : List Str} {sc : Scope} {k j i : Nat} {Γ : List Sl} {a b e : Expr} {es : List Expr} {r ra rb : Rep} {l : List Rep} {pos p : Pos} {x : Str} {α : Type} [DecidableEq α] {R : α → Rep} {d : α → PyData} {n : Nat} {u v : α}
theorem dt_neT (D : Dat X.K R d n) (hn : n ≤ 64) (B : BX X N sc k) (ha : DE X Γ a (R u)) (hb : DE X Γ b (R v)) : DT X Γ (.Compare a [.NotEq] [b] pos) (!decide (u = v)) := (dt_cmp (op_neD B.hu) (b2_neD (D.dp u) (D.dp v) (D.shaped hn u) (D.shaped hn v)) ha hb (nomark _)).to (by rw [D.eq])
theorem de_inT {us : List α} (D : Dat X.K R d n) (hn : n + 1 ≤ 64) (B : BX X N sc k) (ha : DE X Γ a (R u)) (hb : DE X Γ b (rLst X.K (us.map R))) (hm : behindInMarks .In b = false := by rfl) : DE X Γ (.Compare a [.In] [b] pos) (rBl (decide (u ∈ us))) :=
  (de_cmp (rc := rBl ((us.map d).any fun z => PyData.eqv z (d u))) (op_inD (by have := B.room.un; omega)) (fun F H x y s h1 h2 Q q' => ⟨d u, us.map d, dp_mono s _ _ (D.dp u F x h1), dp_mono s _ _ ((dat_lst D).dp us F y h2), D.shaped (by omega) u, (dat_lst D).shaped hn us, q' _ F H (.refl s) rfl⟩) ha hb hm).to (by rw [anyD D])
theorem dt_inT {us : List α} (D : Dat X.K R d n) (hn : n + 1 ≤ 64) (B : BX X N sc k) (ha : DE X Γ a (R u)) (hb : DE X Γ b (rLst X.K (us.map R))) (hm : behindInMarks .In b = false := by rfl) : DT X Γ (.Compare a [.In] [b] pos) (decide (u ∈ us)) :=
  (dt_cmp (t := (us.map d).any fun z => PyData.eqv z (d u)) (op_inD (by have := B.room.un; omega)) (fun F H x y s h1 h2 Q q' => ⟨d u, us.map d, dp_mono s _ _ (D.dp u F x h1), dp_mono s _ _ ((dat_lst D).dp us F y h2), D.shaped (by omega) u, (dat_lst D).shaped hn us, q' _ F H (.refl s) rfl⟩) ha hb hm).to (by rw [anyD D])
theorem dt_notInT {us : List α} (D : Dat X.K R d n) (hn : n + 1 ≤ 64) (B : BX X N sc k) (ha : DE X Γ a (R u)) (hb : DE X Γ b (rLst X.K (us.map R))) (hm : behindInMarks .NotIn b = false := by rfl) : DT X Γ (.Compare a [.NotIn] [b] pos) (!decide (u ∈ us)) :=
  (dt_cmp (t := !(us.map d).any fun z => PyData.eqv z (d u)) (op_notInD (by have := B.room.un; omega)) (fun F H x y s h1 h2 Q q' => ⟨d u, us.map d, dp_mono s _ _ (D.dp u F x h1), dp_mono s _ _ ((dat_lst D).dp us F y h2), D.shaped (by omega) u, (dat_lst D).shaped hn us, q' _ F H (.refl s) rfl⟩) ha hb hm).to (by rw [anyD D])
/-! ### a list of one's own, lent for a question -/
theorem dt_lend {t : Bool} (i : Nat) (hΓ : Γ[i]? = some (.ow l)) (h : DT X (Γ.set i (.im (rLst X.K l))) e t) : DT X Γ e t := fun F0 H0 F H σ en Q q => by
  obtain ⟨F', s1, s2, en'⟩ := en.freeze (K := X.K) hΓ
  exact h F0 H0 F' H σ en' Q fun F2 H2 g => q F H2 ⟨Same.refl _, g.h, en.gr.s.trans g.h, fun _ _ z => z⟩
/-! ### a def that is handed a list of one's own first, and may change it -/
variable {ι : Type} {pre : ι → Prop} {lo : ι → List Rep} {args : ι → List Rep} {res : ι → Ret}
end
section
variable {P : Program} {w : World} {K : PySem.W.Frag} {mg : Str → Option Value} {base : Heap} {k : Nat} {x : Str} {st : Stmt} {N ps : List Str} {ι : Type} {pre : ι → Prop} {lo args : ι → List Rep} {res : ι → Ret}
end
end DL

set_option Elab.async false
set_option linter.all false
set_option maxRecDepth 100000
set_option maxHeartbeats 4000000
namespace DL
open PySem PySem.Spec PyProof.Rows L2
section
variable {X : Cx} {N : List Str} {sc : Scope} {k j i : Nat} {Γ : List Sl} {tg it a b e : Expr} {es : List Expr} {r ra rb : Rep} {l : List Rep} {pos p p2 : Pos} {x : Str} {α : Type} {R : α → Rep} {xs : List α} {n : Int}
theorem de_allB {bs : List Bool} (B : BX X N sc k) (hm : X.mg "all" = none) (ha : DE X Γ a (rLst X.K (bs.map rBl))) (hg : sc.names.lookup ("all" : Str) = some NameKind.globalImplicit)
    (he : starEach (a :: []) X.env = (false, eval a X.env) :: starEach [] X.env := by rfl) : DE X Γ (.Call (.Name "all" p) [a] [] pos) (rBl (bs.all id)) :=
  de_blt B (cr_all B.calm) (fun F H vs s hv Q q => by
    obtain ⟨v, rfl, k1⟩ := rl1 hv
    obtain ⟨pp, us, rfl, k2, k3⟩ := k1
    have e : ∀ (bs : List Bool) (us : List V), RL F (bs.map rBl) us → us = bs.map V.bl := fun bs => by
      induction bs with
      | nil => intro us h; cases h; rfl
      | cons b bs ih => intro us h; cases h with | cons h1 h2 => rw [ih _ h2]; cases h1; rfl
    exact ⟨pp, bs, rfl, by rw [← e bs us k3]; exact s.seq k2, q _ F H (.refl s) rfl⟩) hm (by decide +kernel) (da_cons ha da_nil he) hg (he := he)
theorem cut_to {n : Int} (h : 0 ≤ n) : cutR (xs.map R) none (some n) = (xs.take n.toNat).map R := by
  obtain ⟨m, rfl⟩ : ∃ m : Nat, n = m := ⟨n.toNat, by omega⟩
  rw [cutR_map, cutR_to, Int.toNat_natCast]
theorem cut_from {n : Int} (h : 0 ≤ n) : cutR (xs.map R) (some n) none = (xs.drop n.toNat).map R := by
  obtain ⟨m, rfl⟩ : ∃ m : Nat, n = m := ⟨n.toNat, by omega⟩
  rw [cutR_map, cutR_from, Int.toNat_natCast]
theorem dl_to (h : DE X Γ e (rLst X.K (xs.map R))) (hn : 0 ≤ n) (h2 : DE X Γ b (rInt n)) : DL X Γ (.Subscript e (.Slice none (some b) none p2) pos) ((xs.take n.toNat).map R) :=
  (dl_slice (lo := none) (hi := some b) (ol := none) (oh := some n) h trivial h2).to (cut_to hn)
theorem dl_from (h : DE X Γ e (rLst X.K (xs.map R))) (hn : 0 ≤ n) (h2 : DE X Γ b (rInt n)) : DL X Γ (.Subscript e (.Slice (some b) none none p2) pos) ((xs.drop n.toNat).map R) :=
  (dl_slice (lo := some b) (hi := none) (ol := some n) (oh := none) h h2 trivial).to (cut_from hn)
theorem dl_catM {ys : List α} (ha : DL X Γ a (xs.map R)) (hb : DL X Γ b (ys.map R)) (hl : xs.length + ys.length ≤ sizeLine) : DL X Γ (.BinOp a .Add b pos) ((xs ++ ys).map R) :=
  (dl_cat ha hb (by rw [List.length_map, List.length_map]; exact hl)).to (by rw [List.map_append])
end
end DL

set_option Elab.async false
set_option linter.all false
set_option maxRecDepth 100000
set_option maxHeartbeats 4000000
namespace DL
open PySem PySem.Spec PyProof.Rows L2
/-! ### x is True, x no bool -/
section
variable {X : Cx} {N : List Str} {sc : Scope} {k j i : Nat} {Γ : List Sl} {tg it a b e : Expr} {es : List Expr} {r ra rb : Rep} {l l' : List Rep} {pos p p2 : Pos} {x : Str} {α : Type} {R : α → Rep} {xs : List α} {n : Int} {K : PySem.W.Frag} {q : Rat}
theorem notNon_lst : NotNon (rLst K l) := fun F v h => by obtain ⟨p, vs, rfl, _⟩ := h; exact fun z => nomatch z
variable {it2 : Expr} {β : Type} {R2 : β → Rep} {ys : List β}
theorem sr_zipM {jj : Nat} {tpos : Pos} (d : α) (d2 : β) (B : BX X N sc k) (hm : X.mg "zip" = none) (h : DE X Γ it (rLst X.K (xs.map R))) (h2 : DE X Γ it2 (rLst X.K (ys.map R2))) (hg : sc.names.lookup ("zip" : Str) = some NameKind.globalImplicit)
    (hs : starEach [it, it2] X.env = (false, eval it X.env) :: starEach [it2] X.env := by rfl) (hs2 : starEach [it2] X.env = (false, eval it2 X.env) :: starEach [] X.env := by rfl) (hpl : (backTo pos (starEach [it2] X.env)).any (·.1) = false := by rfl) :
    SR X Γ (.Tuple es jj tpos) (.Call (.Name "zip" p) [it, it2] [] pos) (min xs.length ys.length) (fun i => rTup X.K [R (xs.getD i d), R2 (ys.getD i d2)]) := by
  have z := sr_zip (es := es) (jj := jj) (tpos := tpos) (p := p) (pos := pos) B hm h h2 hg hs hs2 hpl
  rw [List.length_map, List.length_map] at z
  exact z.to fun i hi => by rw [getD_map d (by omega), getD_map d2 (by omega)]
theorem sr_enumM {jj : Nat} {tpos : Pos} (d : α) (B : BX X N sc k) (hm : X.mg "enumerate" = none) (h : DE X Γ it (rLst X.K (xs.map R))) (hg : sc.names.lookup ("enumerate" : Str) = some NameKind.globalImplicit) (hs : starEach [it] X.env = [(false, eval it X.env)] := by rfl) :
    SR X Γ (.Tuple es jj tpos) (.Call (.Name "enumerate" p) [it] [] pos) xs.length (fun i => rTup X.K [rInt (i : Nat), R (xs.getD i d)]) := by
  have z := sr_enum (es := es) (jj := jj) (tpos := tpos) (p := p) (pos := pos) B hm h hg hs
  rw [List.length_map] at z
  exact z.to fun i hi => by rw [getD_map d hi]
end
end DL

set_option Elab.async false
set_option linter.all false
set_option maxRecDepth 100000
set_option maxHeartbeats 4000000
namespace DL
open PySem L2
/-! ### rows -/
/-! ### the greatest common divisor of a list -/
def gl (ns : List Int) : Nat := ns.foldl (fun (g : Nat) x => Int.gcd (g : Int) x) 0
theorem gl_step {ns : List Int} {i : Nat} (hi : i < ns.length) : gl (ns.take (i + 1)) = Int.gcd ((gl (ns.take i) : Nat) : Int) (ns.getD i 0) := by
  unfold gl
  rw [take_snoc (d := 0) hi, List.foldl_append]
  rfl
theorem fold_dvd {d : Nat} : ∀ (ns : List Int) (g : Nat), d ∣ ns.foldl (fun (g : Nat) x => Int.gcd (g : Int) x) g ↔ d ∣ g ∧ ∀ x ∈ ns, (d : Int) ∣ x
  | [], g => by simp
  | x :: ns, g => by
    rw [List.foldl_cons, fold_dvd ns]
    have : d ∣ Int.gcd (g : Int) x ↔ d ∣ g ∧ (d : Int) ∣ x := by
      rw [Int.gcd, Nat.dvd_gcd_iff, Int.natAbs_natCast, Int.ofNat_dvd_left]
    rw [this]
    simp [and_assoc]
theorem gl_dvd {d : Nat} {ns : List Int} : d ∣ gl ns ↔ ∀ x ∈ ns, (d : Int) ∣ x := by
  unfold gl
  rw [fold_dvd]
  simp
theorem fold_mul {k : Nat} : ∀ (ns : List Int) (g : Nat), (ns.map fun x => (k : Int) * x).foldl (fun (g : Nat) x => Int.gcd (g : Int) x) (k * g) = k * ns.foldl (fun (g : Nat) x => Int.gcd (g : Int) x) g
  | [], g => rfl
  | x :: ns, g => by
    rw [List.map_cons, List.foldl_cons, List.foldl_cons, ← fold_mul ns]
    congr 1
    have := Int.gcd_mul_left (m := (k : Int)) (n := (g : Int)) (k := x)
    rw [Int.natAbs_natCast] at this
    rw [← this]
    congr 1
theorem gl_mul {k : Nat} {ns : List Int} : gl (ns.map fun x => (k : Int) * x) = k * gl ns := by
  have := fold_mul (k := k) ns 0
  exact this
theorem gl_neg {ns : List Int} : gl (ns.map fun x => -x) = gl ns := by
  apply Nat.dvd_antisymm
  · rw [gl_dvd]
    intro x hx
    have := (gl_dvd (d := gl (ns.map fun x => -x)) (ns := ns.map fun x => -x)).mp (Nat.dvd_refl _) (-x) (List.mem_map.mpr ⟨x, hx, rfl⟩)
    exact Int.dvd_neg.mp this
  · rw [gl_dvd]
    intro x hx
    obtain ⟨y, hy, rfl⟩ := List.mem_map.mp hx
    exact Int.dvd_neg.mpr ((gl_dvd (d := gl ns) (ns := ns)).mp (Nat.dvd_refl _) y hy)
theorem gl_mulI {k : Int} {ns : List Int} : gl (ns.map fun x => k * x) = k.natAbs * gl ns := by
  by_cases h : 0 ≤ k
  · have e : k = (k.natAbs : Int) := by omega
    rw [e, gl_mul]; simp
  · have e : (fun x => k * x) = (fun x => -x) ∘ fun x => (k.natAbs : Int) * x := funext fun x => by
      have : k = -(k.natAbs : Int) := by omega
      show k * x = -((k.natAbs : Int) * x)
      rw [← Int.neg_mul, ← this]
    rw [e, ← List.map_map, gl_neg, gl_mul]
theorem gl_pos {ns : List Int} {x : Int} (h : x ∈ ns) (hx : x ≠ 0) : 0 < gl ns := by
  rcases Nat.eq_zero_or_pos (gl ns) with e | e
  · have := (gl_dvd (d := gl ns) (ns := ns)).mp (Nat.dvd_refl _) x h
    rw [e] at this
    exact absurd (Int.zero_dvd.mp this) hx
  · exact e
/-! ### lowest terms -/
def fnz (ns : List Int) : Option Int := ns.find? fun x => decide (x ≠ 0)
def sdv (g : Nat) (z : Int) : Int := if 0 < z then (g : Int) else -(g : Int)
def lowest (ns : List Int) : List Int := match fnz ns with
  | none => ns
  | some z => ns.map fun x => x.fdiv (sdv (gl ns) z)
theorem fnz_none {ns : List Int} (h : fnz ns = none) : ∀ x ∈ ns, x = 0 := fun x hx => by
  have := List.find?_eq_none.mp h x hx
  simpa using this
theorem fnz_some {ns : List Int} {z : Int} (h : fnz ns = some z) : z ∈ ns ∧ z ≠ 0 := ⟨List.mem_of_find?_eq_some h, by simpa using List.find?_some h⟩
theorem fnz_at : ∀ {ns : List Int} {i : Nat}, i < ns.length → (∀ j, j < i → ns.getD j 0 = 0) → ns.getD i 0 ≠ 0 → fnz ns = some (ns.getD i 0)
  | [], _, h, _, _ => by simp at h
  | x :: ns, 0, _, _, hn => by
    have hn : x ≠ 0 := hn
    unfold fnz
    rw [List.find?_cons_of_pos (by simpa using hn)]
    rfl
  | x :: ns, i + 1, hi, h0, hn => by
    have h1 : x = 0 := h0 0 (by omega)
    have := fnz_at (ns := ns) (i := i) (by simpa using hi) (fun j hj => h0 (j + 1) (by omega)) hn
    unfold fnz at this ⊢
    rw [List.find?_cons_of_neg (by simpa using h1), this]
    rfl
theorem fnz_all {ns : List Int} (h : ∀ j, j < ns.length → ns.getD j 0 = 0) : fnz ns = none := by
  unfold fnz
  rw [List.find?_eq_none]
  intro x hx
  obtain ⟨j, hj, rfl⟩ := List.mem_iff_getElem.mp hx
  have := h j hj
  rw [List.getD_eq_getElem?_getD, List.getElem?_eq_getElem hj] at this
  simpa using this
theorem fnz_mul {k : Int} (hk : k ≠ 0) : ∀ {ns : List Int}, fnz (ns.map fun x => k * x) = (fnz ns).map fun x => k * x
  | [] => rfl
  | x :: ns => by
    have ih := fnz_mul (k := k) hk (ns := ns)
    unfold fnz at ih ⊢
    rw [List.map_cons]
    by_cases h : x = 0
    · rw [List.find?_cons_of_neg (by simp [h]), List.find?_cons_of_neg (by simp [h]), ih]
    · rw [List.find?_cons_of_pos (by simp [h, hk]), List.find?_cons_of_pos (by simp [h])]
      rfl
theorem pos_of_mul {k y : Int} (hk : 0 < k) (h : 0 < k * y) : 0 < y := by
  rcases Int.lt_or_le 0 y with c | c
  · exact c
  · have := Int.mul_le_mul_of_nonneg_left c (Int.le_of_lt hk)
    rw [Int.mul_zero] at this
    omega
structure Low (ns r : List Int) : Prop where
  ex : ∃ d : Int, d ≠ 0 ∧ ns = r.map fun x => d * x
  one : gl r = 1
  pos : ∃ z, fnz r = some z ∧ 0 < z
theorem low_lowest {ns : List Int} {z : Int} (h : fnz ns = some z) : Low ns (lowest ns) ∧ lowest ns = ns.map (fun x => x.fdiv (sdv (gl ns) z)) ∧ sdv (gl ns) z ≠ 0 ∧ ∀ x ∈ ns, x = sdv (gl ns) z * x.fdiv (sdv (gl ns) z) := by
  obtain ⟨hz, hz0⟩ := fnz_some h
  have hg := gl_pos hz hz0
  have hd : sdv (gl ns) z ≠ 0 := by unfold sdv; split <;> omega
  have e : lowest ns = ns.map fun x => x.fdiv (sdv (gl ns) z) := by unfold lowest; rw [h]
  have hx : ∀ x ∈ ns, x = sdv (gl ns) z * x.fdiv (sdv (gl ns) z) := fun x hx => by
    have h1 := (gl_dvd (d := gl ns) (ns := ns)).mp (Nat.dvd_refl _) x hx
    have h2 : sdv (gl ns) z ∣ x := by
      unfold sdv; split
      · exact h1
      · exact Int.neg_dvd.mpr h1
    obtain ⟨t, ht⟩ := h2
    rw [ht, Int.mul_fdiv_cancel_left _ hd]
  refine ⟨?_, e, hd, hx⟩
  have e2 : ns = (lowest ns).map fun x => sdv (gl ns) z * x := by
    rw [e, List.map_map]
    refine (List.map_id ns).symm.trans (List.map_congr_left fun x h => ?_)
    exact hx x h
  have one : gl (lowest ns) = 1 := by
    have h1 := gl_mulI (k := sdv (gl ns) z) (ns := lowest ns)
    rw [← e2] at h1
    have h2 : (sdv (gl ns) z).natAbs = gl ns := by unfold sdv; split <;> omega
    rw [h2] at h1
    exact (Nat.eq_of_mul_eq_mul_left hg (by rw [Nat.mul_one]; exact h1)).symm
  refine ⟨⟨_, hd, e2⟩, one, ?_⟩
  have h3 := fnz_mul hd (ns := lowest ns)
  rw [← e2, h] at h3
  cases hf : fnz (lowest ns) with
  | none => rw [hf] at h3; cases h3
  | some y =>
    rw [hf] at h3
    have h4 : z = sdv (gl ns) z * y := Option.some.inj h3
    refine ⟨y, rfl, ?_⟩
    unfold sdv at h4
    split at h4
    · rename_i hp
      rw [h4] at hp
      have : (0 : Int) < gl ns := by omega
      exact pos_of_mul this hp
    · rename_i hp
      have : (0 : Int) < gl ns := by omega
      have h5 : z < 0 := by omega
      rw [Int.neg_mul] at h4
      have h6 : 0 < (gl ns : Int) * y := by omega
      exact pos_of_mul this h6
end DL

set_option Elab.async false
set_option linter.all false
set_option maxRecDepth 100000
set_option maxHeartbeats 4000000
namespace DL
open PySem L2
/-! ### the primitive row -/
theorem lcmF_dvd : ∀ (qs : List Rat) (c : Nat), c ∣ qs.foldl (fun c q => Nat.lcm c q.den) c ∧ ∀ q ∈ qs, q.den ∣ qs.foldl (fun c q => Nat.lcm c q.den) c
  | [], c => ⟨Nat.dvd_refl _, by simp⟩
  | q :: qs, c => by
    obtain ⟨h1, h2⟩ := lcmF_dvd qs (Nat.lcm c q.den)
    rw [List.foldl_cons]
    refine ⟨Nat.dvd_trans (Nat.dvd_lcm_left _ _) h1, fun x hx => ?_⟩
    rcases List.mem_cons.mp hx with rfl | hx
    · exact Nat.dvd_trans (Nat.dvd_lcm_right _ _) h1
    · exact h2 x hx
theorem lcmF_ne : ∀ (qs : List Rat) (c : Nat), c ≠ 0 → qs.foldl (fun c q => Nat.lcm c q.den) c ≠ 0
  | [], c, h => h
  | q :: qs, c, h => lcmF_ne qs _ (Nat.lcm_ne_zero h q.den_nz)
theorem lcmD_dvd {qs : List Rat} {q : Rat} (h : q ∈ qs) : q.den ∣ lcmD qs := (lcmF_dvd qs 1).2 q h
theorem lcmD_ne (qs : List Rat) : lcmD qs ≠ 0 := lcmF_ne qs 1 (by decide)
def topq (L : Nat) (q : Rat) : Int := q.num * ((L : Int)).fdiv (q.den : Int)
def tops (qs : List Rat) : List Int := qs.map (topq (lcmD qs))
def prim (qs : List Rat) : List Int := lowest (tops qs)
theorem topq_is {L : Nat} {q : Rat} (h : q.den ∣ L) : ((topq L q : Int) : Rat) = q * ((L : Int) : Rat) := by
  obtain ⟨t, rfl⟩ := h
  unfold topq
  have e : (((q.den * t : Nat) : Int)).fdiv (q.den : Int) = (t : Int) := by
    have h0 : (q.den : Int) ≠ 0 := by have := q.den_nz; omega
    rw [Int.natCast_mul, Int.mul_fdiv_cancel_left _ h0]
  rw [e, Rat.intCast_mul, Int.natCast_mul, Rat.intCast_mul]
  have e1 := q_eq q
  have d := den_ne q
  generalize ((q.den : Int) : Rat) = dd at *
  generalize ((t : Int) : Rat) = tt at *
  generalize (q.num : Rat) = nn at *
  grind
theorem tops_len (qs : List Rat) : (tops qs).length = qs.length := List.length_map _
theorem tops_at {qs : List Rat} {k : Nat} (hk : k < qs.length) : (tops qs).getD k 0 = topq (lcmD qs) (qs.getD k 0) := by
  unfold tops
  rw [List.getD_eq_getElem?_getD, List.getD_eq_getElem?_getD, List.getElem?_map, List.getElem?_eq_getElem hk]
  rfl
theorem lowest_len (ns : List Int) : (lowest ns).length = ns.length := by
  unfold lowest
  split
  · rfl
  · exact List.length_map _
theorem prim_len (qs : List Rat) : (prim qs).length = qs.length := (lowest_len _).trans (tops_len _)
theorem lcmQ_ne (qs : List Rat) : (((lcmD qs : Nat) : Int) : Rat) ≠ 0 := by
  have := lcmD_ne qs
  have h : ((lcmD qs : Nat) : Int) ≠ 0 := by omega
  exact fun z => h (by exact_mod_cast z)
end DL

set_option Elab.async false
set_option linter.all false
set_option maxRecDepth 100000
set_option maxHeartbeats 4000000
namespace DL
open PySem L2
theorem lc_int {qs : List Rat} {g : Rat → Int} : ((List.range qs.length).filter fun _ => true).map (fun i => rInt (g (qs.getD i 0))) = List.map rInt (qs.map g) := by
  rw [List.map_map]
  exact lc_all (R := fun _ => rInt 0) (f := fun q => rInt (g q))
theorem lc_ii {ns : List Int} {g : Int → Int} : ((List.range ns.length).filter fun _ => true).map (fun i => rInt (g (ns.getD i 0))) = List.map rInt (ns.map g) := by
  rw [List.map_map]
  exact lc_all (R := fun _ => rInt 0) (f := fun q => rInt (g q))
theorem zer_more {ns : List Int} {i : Nat} (h : ∀ j, j < i → ns.getD j 0 = 0) (e : ns.getD i 0 = 0) : ∀ j, j < i + 1 → ns.getD j 0 = 0 := fun j hj => by
  by_cases hj2 : j = i
  · rw [hj2, e]
  · exact h j (by omega)
theorem lcm_fd {qs : List Rat} {n k : Nat} (h : ∀ q ∈ qs, Sz n q) (hk : k < qs.length) : Lg (((lcmD qs : Nat) : Int).fdiv ((qs.getD k 0).den : Int)) ≤ qs.length * (n + 1) := by
  have hm := getD_mem (d := (0 : Rat)) hk
  have h1 : ((qs.getD k 0).den : Int) ∣ ((lcmD qs : Nat) : Int) := Int.natCast_dvd_natCast.mpr (lcmD_dvd hm)
  exact Nat.le_trans (fdiv_lg (den_neI _) h1) (lg_lcmD qs h)
theorem top_m {qs : List Rat} {n k : Nat} (h : ∀ q ∈ qs, Sz n q) (h2 : qs.length * (n + 1) + n < 8900) (hk : k < qs.length) : Lg (qs.getD k 0).num + Lg (((lcmD qs : Nat) : Int).fdiv ((qs.getD k 0).den : Int)) < 1000000 := by
  have a := lcm_fd h hk
  have b := (h _ (getD_mem (d := (0 : Rat)) hk)).1
  omega
theorem tops_lg {qs : List Rat} {n : Nat} (h : ∀ q ∈ qs, Sz n q) (h2 : qs.length * (n + 1) + n < 8900) {x : Int} (hx : x ∈ tops qs) : Lg x < 8990 := by
  obtain ⟨k, hk, rfl⟩ := List.mem_iff_getElem.mp hx
  have hk' : k < qs.length := by rw [← tops_len qs]; exact hk
  have e := tops_at hk'
  rw [List.getD_eq_getElem?_getD, List.getElem?_eq_getElem hk] at e
  have e : (tops qs)[k] = topq (lcmD qs) (qs.getD k 0) := e
  rw [e]
  unfold topq
  have a := lcm_fd h hk'
  have b := (h _ (getD_mem (d := (0 : Rat)) hk')).1
  have c := lg_mul (qs.getD k 0).num (((lcmD qs : Nat) : Int).fdiv ((qs.getD k 0).den : Int))
  omega
theorem sdv_ne {ns : List Int} {z : Int} (h : fnz ns = some z) : sdv (gl ns) z ≠ 0 := (low_lowest h).2.2.1
theorem sdv_t {ns : List Int} {z : Int} (h : 0 < z) : ((gl (ns.take ns.length) : Nat) : Int) = sdv (gl ns) z := by rw [List.take_length, sdv, if_pos h]
theorem sdv_f {ns : List Int} {z : Int} (h : ¬ 0 < z) : -((gl (ns.take ns.length) : Nat) : Int) = sdv (gl ns) z := by rw [List.take_length, sdv, if_neg h]
theorem gl_lg {ns : List Int} {x : Int} (hx : x ∈ ns) (h0 : x ≠ 0) : Lg ((gl ns : Nat) : Int) ≤ Lg x := lg_dvd h0 ((gl_dvd (d := gl ns) (ns := ns)).mp (Nat.dvd_refl _) x hx)
theorem sdv_lg {ns : List Int} {n i : Nat} (h : ∀ x ∈ ns, Lg x < n) (hi : i < ns.length) (hc : ns.getD i 0 ≠ 0) (hn : n ≤ 9000 := by decide) : Lg (sdv (gl ns) (ns.getD i 0)) < 9000 := by
  have hm := getD_mem (d := (0 : Int)) hi
  have a := h _ hm
  have b := gl_lg hm hc
  have c : Lg (sdv (gl ns) (ns.getD i 0)) ≤ Lg ((gl ns : Nat) : Int) := by
    apply lg_le
    unfold sdv
    split <;> omega
  omega
theorem low_lc {ns : List Int} {z : Int} (h : fnz ns = some z) : ((List.range ns.length).filter fun _ => true).map (fun i => rInt ((ns.getD i 0).fdiv (sdv (gl ns) z))) = List.map rInt (lowest ns) := by
  rw [lc_ii (g := fun x => x.fdiv (sdv (gl ns) z)), (low_lowest h).2.1]
theorem lp_ok {q r : Rat} (h : Sz 400 q) (k : Sz 400 r) : (q.den : Int) * (r.den : Int) ≠ 0 ∧ Lg (q.num * (r.den : Int) + r.num * (q.den : Int)) < 990 ∧ Lg ((q.den : Int) * (r.den : Int)) < 990 := by
  refine ⟨Int.mul_ne_zero (den_neI q) (den_neI r), ?_, ?_⟩
  · grind [lg_mul, lg_add, Sz]
  · grind [lg_mul, Sz]
theorem lt_ok {q r : Rat} (h : Lg q.num + Lg r.num < 980) (k : Lg (q.den : Int) + Lg (r.den : Int) < 980) : (q.den : Int) * (r.den : Int) ≠ 0 ∧ Lg (q.num * r.num) < 990 ∧ Lg ((q.den : Int) * (r.den : Int)) < 990 := by
  refine ⟨Int.mul_ne_zero (den_neI q) (den_neI r), ?_, ?_⟩
  · have := lg_mul q.num r.num; omega
  · have := lg_mul (q.den : Int) (r.den : Int); omega
theorem wl_nil {ns : List Int} {f : Nat → Rep} : ((List.range ns.length).filter fun i => !decide (((ns.getD i 0 : Int) : Rat).den = 1)).map f = List.map rInt [] := by
  rw [List.filter_eq_nil_iff.mpr fun i _ => by simp [Rat.den_intCast]]
  rfl
/-! ### the numbers of a script -/
def cellv (ns : List Int) (k : Nat) : Int := if k < ns.length then ns.getD k 0 else if 0 < ns.length then (ns.getD 0 0 * 7919 + 48271 * (k : Int)).fmod 2147483647 else (k : Int)
def lawN (ns : List Int) (k many : Nat) : List Int := lawNums [cellv ns k] 0 many
theorem lawN_t {ns : List Int} {k many : Nat} (h : (10 : Int) ^ 18 ≤ ((cellv ns k).natAbs : Int)) : lawN ns k many = (List.range many).map (bigN (cellv ns k).natAbs) := if_pos h
theorem lawN_f {ns : List Int} {k many : Nat} (h : ¬ (10 : Int) ^ 18 ≤ ((cellv ns k).natAbs : Int)) : lawN ns k many = (List.range many).map (smallN (cellv ns k).natAbs) := if_neg h
theorem lawN_len (ns : List Int) (k many : Nat) : (lawN ns k many).length = many := lawNums_len _ _ _
theorem cv_a {ns : List Int} {k : Nat} (h : (k : Int) < (ns.length : Int)) : ns.getD ((k : Nat) : Int).toNat 0 = cellv ns k := by rw [cellv, if_pos (by omega), Int.toNat_natCast]
theorem cv_b {ns : List Int} {k : Nat} (h : ¬ (k : Int) < (ns.length : Int)) (h2 : (0 : Int) < (ns.length : Int)) : (ns.getD (0 : Int).toNat 0 * 7919 + 48271 * (k : Int)).fmod 2147483647 = cellv ns k := by rw [cellv, if_neg (by omega), if_pos (by omega)]; rfl
theorem cv_c {ns : List Int} {k : Nat} (h : ¬ (k : Int) < (ns.length : Int)) (h2 : ¬ (0 : Int) < (ns.length : Int)) : (k : Int) = cellv ns k := by rw [cellv, if_neg (by omega), if_neg (by omega)]
section
open PySem.Spec PyProof.Rows
variable {X : Cx} {Γ : List Sl} {a b : Expr} {pos : Pos} {m n : Int}
theorem de_mulC (hc : CMul m n) (ha : DE X Γ a (rInt m)) (hb : DE X Γ b (rInt n)) : DE X Γ (.BinOp a .Mult b pos) (rInt (m * n)) := de_op op_mul (b2_I hc) ha hb
end
end DL

set_option Elab.async false
set_option linter.all false
set_option maxRecDepth 100000
set_option maxHeartbeats 4000000
set_option exponentiation.threshold 2000
namespace DL
open PySem L2
/-! ### numbers with a common bottom -/
def Gd (M B : Nat) (q : Rat) : Prop := ∃ z : Int, q * ((M : Int) : Rat) = (z : Rat) ∧ z.natAbs ≤ B
theorem gd_mono {M B B' : Nat} {q : Rat} (h : Gd M B q) (k : B ≤ B') : Gd M B' q := by
  obtain ⟨z, a, b⟩ := h
  exact ⟨z, a, Nat.le_trans b k⟩
theorem gd_add {M B1 B2 : Nat} {q r : Rat} (h : Gd M B1 q) (k : Gd M B2 r) : Gd M (B1 + B2) (q + r) := by
  obtain ⟨z, a, b⟩ := h
  obtain ⟨y, c, d⟩ := k
  refine ⟨z + y, ?_, by omega⟩
  rw [Rat.intCast_add, ← a, ← c, Rat.add_mul]
theorem gd_zero {M B : Nat} : Gd M B 0 := ⟨0, by rw [Rat.zero_mul]; rfl, Nat.zero_le _⟩
theorem gd_sz {M B n : Nat} {q : Rat} (h : Gd M B q) (hM : M ≠ 0) (h1 : M < 2 ^ (n + 1)) (h2 : B < 2 ^ (n + 1)) : Sz n q := by
  obtain ⟨z, a, b⟩ := h
  have e := q_eq q
  have d := den_ne q
  have key : q.num * (M : Int) = z * (q.den : Int) := by
    have g : ((q.num * (M : Int) : Int) : Rat) = ((z * (q.den : Int) : Int) : Rat) := by
      rw [Rat.intCast_mul, Rat.intCast_mul, ← a]
      generalize ((M : Int) : Rat) = m
      generalize ((q.den : Int) : Rat) = dd at *
      generalize (q.num : Rat) = nn at *
      grind
    exact_mod_cast g
  have hdvd : q.den ∣ M := by
    have h1 : (q.den : Int) ∣ q.num * (M : Int) := ⟨z, by rw [key, Int.mul_comm]⟩
    have h2 : q.den ∣ q.num.natAbs * M := by
      have := Int.natAbs_dvd_natAbs.mpr h1
      rw [Int.natAbs_mul, Int.natAbs_natCast, Int.natAbs_natCast] at this
      exact this
    exact Nat.Coprime.dvd_of_dvd_mul_left q.reduced.symm h2
  obtain ⟨k, hk⟩ := hdvd
  have hk0 : k ≠ 0 := fun z => hM (by rw [hk, z, Nat.mul_zero])
  have hz : q.num * (k : Int) = z := by
    rw [hk, Int.natCast_mul, ← Int.mul_assoc, Int.mul_right_comm] at key
    exact Int.eq_of_mul_eq_mul_right (den_neI q) key
  have hn : q.num.natAbs ≤ B := by
    have : z.natAbs = q.num.natAbs * k := by rw [← hz, Int.natAbs_mul, Int.natAbs_natCast]
    have := Nat.le_mul_of_pos_right q.num.natAbs (Nat.pos_of_ne_zero hk0)
    omega
  have hdm : q.den ≤ M := Nat.le_of_dvd (Nat.pos_of_ne_zero hM) ⟨k, hk⟩
  exact ⟨Nat.le_of_lt_succ (lg_of (Nat.succ_pos n) (Nat.lt_of_le_of_lt hn h2)), Nat.le_of_lt_succ (lg_of (Nat.succ_pos n) (Nat.lt_of_le_of_lt hdm h1))⟩
/-! ### the drawn rows of k03 -/
theorem fm_b (x : Int) {n : Int} (h : 0 < n) : 0 ≤ x.fmod n ∧ x.fmod n < n := ⟨Int.fmod_nonneg_of_pos _ h, Int.fmod_lt_of_pos _ h⟩
theorem lg_b {x : Int} {B n : Nat} (h : x.natAbs ≤ B) (hB : B < 2 ^ n) (hn : 0 < n) : Lg x < n := lg_of hn (Nat.lt_of_le_of_lt h hB)
section
open PySem.Spec PyProof.Rows
variable {X : Cx} {N : List Str} {sc : Scope} {k i : Nat} {Γ : List Sl} {b e : Expr} {pos p : Pos} {x : Str} {α : Type} {R : α → Rep} {xs : List α} {v : α} {F0 H0 : Hp} {st : List Stmt} {D : Ends}
theorem go_putM {n : Int} {tpos : Pos} (B : BX X N sc k) (he : DE X Γ e (R v)) (hb : DE X Γ b (rInt n)) (h0 : 0 ≤ n) (hn : n < xs.length) (hΓ : Γ[i]? = some (.ow (xs.map R))) (hN : N[i]? = some x) (hv : Vis sc x) (h : GO X F0 H0 st D (Γ.set i (.ow ((xs.set n.toNat v).map R))))
    (hd : (x == ("__debug__" : Str)) = false := by decide) (hcd : (x == ("__classdict__" : Str)) = false := by decide)
    (ha : ∀ v, assign (.Subscript (.Name x p) b tpos) X.env v = (do
      let ov ← holding [v] (eval (.Name x p) X.env)
      let iv ← holding [v, ov] (eval b X.env)
      standAt tpos
      holding [v, ov, iv] (setItem ov iv v)
      release [v, ov, iv] []) := by intro _; rfl)
    (hs : swapsWithSole [.Subscript (.Name x p) b tpos] e pos.line X.env = pure false := by rfl) (hw : swappedStores [.Subscript (.Name x p) b tpos] e X.env = pure none := by rfl)
    (h1 : (assignEach [.Subscript (.Name x p) b tpos] X.env).map (·.2) = [assign (.Subscript (.Name x p) b tpos) X.env] := by rfl) :
    GO X F0 H0 (.Assign [.Subscript (.Name x p) b tpos] e pos :: st) D Γ := by
  refine go_put B he hb (jj := n.toNat) ?_ hΓ hN hv ?_ hd hcd ha hs hw h1
  · obtain ⟨m, rfl⟩ : ∃ m : Nat, n = m := ⟨n.toNat, by omega⟩
    have hm : m < (xs.map R).length := by rw [List.length_map]; omega
    rw [Int.toNat_natCast]
    unfold ixN
    simp
    simp at hm
    omega
  · rw [List.map_set] at h
    exact h
end
/-! lists of cells -/
/-! ### the primitive row, told -/
end DL

set_option Elab.async false
set_option linter.all false
set_option maxRecDepth 100000
set_option maxHeartbeats 4000000
namespace DL
open PySem L2
/-! ### the numbers of k03's law -/
def kSh (ns : List Int) : List Int := lawN ns 0 16
def kT (ns : List Int) : Int := ((kSh ns).getD 3 0).fmod 19 - 9
def kU (ns : List Int) : Int := 1 + ((kSh ns).getD 4 0).fmod 4
def kV (ns : List Int) : Rat := (kT ns : Rat) / (kU ns : Rat)
end DL

set_option Elab.async false
set_option linter.all false
set_option maxRecDepth 100000
set_option maxHeartbeats 4000000
/-! errors with a field: asked for their class -/
namespace DL
open PySem PySem.W PySem.Spec PySem.Calls PyProof.Rows
section
variable {pg : Program} {w : World} {Ar : Around} {Er : Value → Shared → Prop} {z : Shared} {K : Frag} {a D : Addr} {o : Obj} {dct : Option Obj}
theorem cls_found (c : L2.ExcC K D) : findObj K D dct "__class__" = some (.bind (.builtin "getset_descriptor.__get__") (.builtin "object.__class__")) := by
  obtain ⟨cd, e, _⟩ := any_some c.hd
  unfold findObj
  rw [e, Option.bind_some, c.ha, Option.bind_some]
  simp [c.hn, c.ht]
theorem cls_asked {Q : Option Value → Shared → Prop} (c : L2.ExcC K D) (hK : K.In z.heap) (hI : InstAt z.heap a o D dct) (q : Q (some (.ref D)) { z with toks := z.toks + 1 }) : wpAny (model pg w) Ar (getAttr? (.ref a) "__class__") Q Er z := by
  obtain ⟨hh, gg, dd, tt, ss⟩ := z
  have ty := hI.type (M := model pg w)
  have la := looks_findIn (M := model pg w) hK c.hg
  have lb := looks_findIn (M := model pg w) hK c.hk
  have lf := looks_find (M := model pg w) hK hI (cls_found c)
  have sb : Looks (model pg w) hh (isInstance (.ref a) (.type "BaseException")) true := ty.andThen (looks_subIn hK c.hs)
  have no1 : (Value.builtin "BaseException.__getattribute__" == Value.builtin "object.__getattribute__") = false := by decide +kernel
  have no2 : (onTheHeap (.ref D) && Value.builtin "BaseException.__getattribute__" == .builtin "object.__getattribute__") = false := by rw [no1]; rfl
  unfold getAttr? getAttrBy?; unfold getAttrBy
  refine wpAny_bind (wpAny_mkText ?_); refine wpAny_bind (wpAny_attempt ?_)
  refine wpAny_holding (wpAny_bind (ty.at (wpAny_bind (la.at ?_))))
  show wpAny _ _ (if (onTheHeap (.ref D) && Value.builtin "BaseException.__getattribute__" == .builtin "object.__getattribute__") = true then _ else _) _ _ _
  rw [no2]; rw [if_neg Bool.false_ne_true]
  unfold getAttrByItsOwn; unfold hookBefore
  apply wpAny_bind
  rw [if_pos (by rfl : onTheHeap (.ref D) = true)]
  apply lb.at; apply wpAny_bind
  refine wpAny_attempt ?_; refine wpAny_holding ?_
  unfold callGetattribute
  rw [show (false && onTheHeap (Value.builtin "BaseException.__getattribute__")) = false from rfl]; rw [if_neg Bool.false_ne_true]
  unfold boundAndCalled; rw [PySem.F.excAttr_ValueError.ga.bind (.ref a)]
  apply wpAny_bind; apply wpAny_pure
  show wpAny _ _ (call (.builtin "BaseException.__getattribute__") [.ref a, .str "__class__" tt]) _ _ _
  apply wpAny_call; refine codeAny_call_builtin PySem.F.excAttr_ValueError.ga.plain PySem.F.entry_bexc_ga ?_
  refine @check_slot (model pg w) _ _ (⟨hh, gg, dd, tt + 1, ss⟩ : Shared) "BaseException.__getattribute__" "BaseException" "__getattribute__" (.ref a) [.str "__class__" tt]
    [] _ (by decide +kernel) (by decide +kernel) sb (PySem.F.args_bexc_ga (.ref a) (.str "__class__" tt)) ?_
  unfold Builtin.«object.__getattribute__»; apply wpAny_bind
  refine wpAny_of_eq (a := ((.ref a : Value), [Value.str "__class__" tt])) (by first | rfl | (simp only [slotArgs]; rfl)) ?_
  apply wpAny_bind; apply wpAny_pure; apply wpAny_bind
  refine ty.at (wpAny_bind (lf.at ?_))
  show wpAny _ _ (holding [Value.builtin "object.__class__"] (call (.builtin "getset_descriptor.__get__") [.builtin "object.__class__", .ref a, .ref D]) >>= ret) _ _ _
  apply wpAny_bind; apply wpAny_holding; apply wpAny_call
  refine class_get (s := ⟨hh, gg, dd, tt + 1, ss⟩) (ox := o) (od := dct) hK hI c.hm ?_
  apply wpAny_pure
  show wpAny _ _ (handedOut (Value.ref D)) _ _ _
  rw [handedOut_of (v := .ref D) (by rfl)]
  first | exact wpAny_pure (wpAny_pure q) | exact wpAny_pure q | exact wpAny_pure (wpAny_bind (wpAny_pure (wpAny_pure q)))
theorem kitx_err (c : L2.ExcC K D) : KitX K (.ref a) (.ref D) fun h => InstAt h a o D dct := by
  obtain ⟨cd, hc, _⟩ := any_some c.hd
  unfold clsIn at hc
  split at hc
  · rename_i c1 c2 c3 c4 at0
    refine ⟨fun _ _ _ I => I.type, fun _ _ kin _ Ar Q Er z keep q => ?_, fun h tp dd its n sl kin there => ?_, fun kin I q => cls_asked c kin I q⟩
    · unfold isType; unfold loadHead
      exact wpAny_bind (wpAny_loadPart (keep _ _ (kin _ _ at0)) (wpAny_pure q))
    · cases same : ((Value.ref D) == Value.ref tp) with
      | false => rfl
      | true =>
        have two : tp = D := (Value.ref.inj (beq_iff_eq.mp same)).symm
        rw [two] at there
        cases there.symm.trans (kin _ _ at0)
  · cases hc
end
end DL
namespace DL
open PySem PySem.Spec PyProof.Rows L2
/-- isinstance(e, c): e is the error that the suite holds; fs its fields, if it has a dict -/
def DctAt (H : Hp) (d : Option Addr) (fs : List (Str × V)) : Prop := match d with
  | none => fs = []
  | some dd => H dd = some (.xd fs)
def rIsF (K : PySem.W.Frag) (D a : Addr) (d : Option Addr) : List V → Hp → VK → Prop := fun xs H Q => ∃ (c : V) (cv : Value) (b : Bool) (fs : List (Str × V)), DctAt H d fs ∧ xs = [.ref a, c] ∧ (∀ u, RelV c u → u = cv) ∧ PySem.W.kitOne K (.ref D) cv = some b ∧ Q (.bl b) H
theorem call_isF {X : Cx} {a D : Addr} {d : Option Addr} {oe : Obj} {pn : List (Addr × Obj)} (c : ExcC X.K D) (hz : Zc (.ref D) d oe) (hf : ∃ vs, oe.data = .fields vs) : CallR (X.suite a ((a, oe) :: pn)) (.builtin "isinstance") (rIsF X.K D a d) := by
  intro pins s σ H xs us Q I r h
  obtain ⟨cv0, cv, b, fs, hd, rfl, hcv, e, q⟩ := h
  obtain ⟨u1, u2, rfl, r1, r2⟩ := vals2 r
  obtain rfl : u1 = Value.ref a := r1
  obtain rfl := hcv _ r2
  obtain ⟨there, _⟩ := I.pin (a, oe) (List.mem_append_left _ List.mem_cons_self)
  obtain ⟨vs, hv⟩ := hf
  obtain ⟨hz1, hz2⟩ := hz
  have J : ∃ od, PySem.W.InstAt s.heap a oe D od := by
    cases d with
    | none => exact ⟨none, there, hz1, by unfold PySem.W.notCls; rw [hv] <;> rfl, by rw [hz2]; trivial⟩
    | some dd =>
      have ok : ObjOk X.prog X.w H s.heap dd (.xd fs) := I.hok dd _ hd
      obtain ⟨mA, hns, _⟩ := ok
      obtain ⟨od, ho, _⟩ := lookIn_ns hns
      exact ⟨some od, there, hz1, by unfold PySem.W.notCls; rw [hv] <;> rfl, by rw [hz2]; exact ho⟩
  obtain ⟨od, J⟩ := J
  exact PySem.W.kia_one (kitx_err (dct := od) c) I.kIn J e (fun z => nomatch z) fun tk => ⟨.bl b, H, I.kept (t' := tk) fun _ _ z => z, rfl, q⟩
end DL

set_option Elab.async false
set_option linter.all false
set_option maxRecDepth 100000
set_option maxHeartbeats 4000000
/-! errors with a field: made, raised, let through -/
namespace DL
open PySem PySem.Spec PyProof.Rows L2
/-- def __init__(self, f): self.f = f -/
def spIni (K : PySem.W.Frag) (f : Str) : Sp := fun vs H Q _ => ∃ (a C : Addr) (v : V), vs = [.ref a, v] ∧ H a = some (exo a C none) ∧ OexC K C ∧ PySem.W.findIn K (.ref C) f = some none ∧
  ∀ dx : Addr, H dx = none → dx ≠ a → Q .non (upd (upd H dx (exd dx [(f, v)])) a (exo a C (some dx)))
structure XClsF (K : PySem.W.Frag) (mg : Str → Option Value) (x f : Str) (C : Addr) : Prop where
  g : mg x = some (.ref C)
  oex : OexC K C
  no : PySem.W.findIn K (.ref C) f = some none
  xf : XfC K C
  ini : ∀ (P : Program) (w : World) (base : Heap), ∃ (fI : Addr) (fd : FuncData), PySem.W.findIn K (.ref C) "__init__" = some (some (.ref fI)) ∧ PySem.W.typeIn K (.ref fI) = some (.type "function") ∧ FnOk P w K mg base CX0 1 fI fd ["self", f] (spIni K f) ∧ Binds K fd ["self", f] []
section
variable {X : Cx} {N : List Str} {sc : Scope} {k j : Nat} {Γ : List Sl} {a b c e : Expr} {es rest : List Expr} {r ra rb rc r' : Rep} {rs l : List Rep} {pos p : Pos} {x f : Str} {i : Nat} {v : V}
variable {ι : Type} {pre : ι → Prop} {args : ι → List Rep} {out : ι → Out} {ret : Ret} {F0 H0 : Hp} {st body : List Stmt} {D : Ends} {C : Addr} {W : WX} {fs : List (Str × V)}
theorem go_raiseF {pos2 : Pos} (B : BX X N sc k) (hk : 2 ≤ k) (tk : Takes X W) (Z : XClsF X.K X.mg x f C) (hg : sc.names.lookup x = some .globalImplicit) (he : DE X Γ e (rC v)) (h : ∀ F H σ, En F0 H0 F H σ Γ → ∀ H' d, Same H H' → H d = none → H' d = some (.xd [(f, v)]) → W (.ref C) (some d) σ H')
    (hdb : (x == ("__debug__" : Str)) = false := by decide) (hs : starEach (e :: []) X.env = (false, eval e X.env) :: starEach [] X.env := by rfl) (hpl : (backTo pos (starEach [] X.env)).any (·.1) = false := by rfl) :
    GO X F0 H0 (.Raise (some (.Call (.Name x p) [e] [] pos)) none pos2 :: st) D Γ := fun F H σ en => by
  have hgl : Gl X x := by
    show X.env.scope.names.lookup x = _
    rw [B.hsc]
    exact hg
  obtain ⟨fI, fd, h1, h2, F1, hb⟩ := Z.ini X.prog X.w X.base
  refine .of (pss_cons (ps_raise B.calm tk (pmk_oex Z.oex h1 h2 F1 (B.room.mono hk) hb .nil pass0 hgl Z.g (pa_cons pe_ev pa_nil hs) hdb hs hpl)) (pss_ev (st := st))) ?_
  refine he F0 H0 F H σ en _ fun u F1 H1 g hu => ?_
  cases hu
  refine ⟨by show 1 ≤ 1000; decide, fun al hal => ⟨al, C, v, rfl, upd_same, Z.oex, Z.no, fun dx hdx hne => ⟨rfl, dx, [(f, v)], upd_same, ?_, ?_, ?_⟩⟩⟩
  · rw [upd_ne hne, upd_same]
  · rw [upd_ne hne] at hdx
    exact hdx
  · rw [upd_ne hne] at hdx
    refine h F1 H1 σ (en.grow g) _ dx (fun b o z => ?_) hdx upd_same
    have n1 : b ≠ dx := fun y => by rw [y, hdx] at z; cases z
    have n2 : b ≠ al := fun y => by rw [y, hal] at z; cases z
    rw [upd_ne n1, del_ne n2, upd_ne n2, upd_ne n1, upd_ne n2]
    exact z
/-- a call that raises an error with a field -/
def EXF (X : Cx) (Γ : List Sl) (e : Expr) (C : Addr) (fs : List (Str × V)) (W : WX) : Prop := ∀ F0 H0 F H σ, En F0 H0 F H σ Γ → (∀ H' d, Same H H' → H d = none → H' d = some (.xd fs) → W (.ref C) (some d) σ H') → ∀ Q : VK, EV X e σ H Q
theorem ex_callF (B : BX X N sc k) (tk : Takes X W) (G : Cal X.prog X.w X.K X.mg X.base j x (PmX pre args out)) (hk : j ≤ k) (g : ι) (hp : pre g) (ho : out g = .errF C fs) (ha : DA X Γ (e :: es) (args g)) (hg : sc.names.lookup x = some .globalImplicit)
    (hdb : (x == ("__debug__" : Str)) = false := by decide) (he : starEach (e :: es) X.env = (false, eval e X.env) :: starEach es X.env := by rfl) (hpl : (backTo pos (starEach es X.env)).any (·.1) = false := by rfl) :
    EXF X Γ (.Call (.Name x p) (e :: es) [] pos) C fs W := fun F0 H0 F H σ en w Q => by
  obtain ⟨f, fd, ps, G, hm, kp, hb⟩ := G.ex
  have hgl : Gl X x := by
    show X.env.scope.names.lookup x = _
    rw [B.hsc]
    exact hg
  refine .of (pe_callS (E := WE W) G (B.room.mono hk) hgl hm kp hb (fun σ => passAt tk σ) pa_ev hdb he hpl) ?_
  refine ha F0 H0 F H σ en _ fun vs F1 H1 g1 h1 => ?_
  refine ⟨g, F1, hp, g1.s, h1, ?_⟩
  rw [ho]
  exact fun H' d s n z => w H' d (g1.h.trans s) (g1.h.free n) z
theorem go_exprF (he : EXF X Γ e C fs W) (h : ∀ F H σ, En F0 H0 F H σ Γ → ∀ H' d, Same H H' → H d = none → H' d = some (.xd fs) → W (.ref C) (some d) σ H') (hs : swapsWith e none pos.line X.env = pure false := by rfl) : GO X F0 H0 (.Expr e pos :: st) D Γ := fun F H σ en =>
  .of (pss_cons (ps_expr pe_ev hs) (pss_ev (st := st))) (he F0 H0 F H σ en (h F H σ en) _)
theorem go_retF (he : EXF X Γ e C fs W) (h : ∀ F H σ, En F0 H0 F H σ Γ → ∀ H' d, Same H H' → H d = none → H' d = some (.xd fs) → W (.ref C) (some d) σ H') : GO X F0 H0 (.Return (some e) pos :: st) D Γ := fun F H σ en =>
  .of (pss_cons (ps_ret pe_ev) (pss_ev (st := st))) (he F0 H0 F H σ en (h F H σ en) _)
end
/-! the suite -/
structure BS (X : Cx) (N : List Str) (sc : Scope) : Prop where
  hN : X.N = N
  hsc : X.env.scope = sc
  nd : N.Nodup
theorem BX.su {X : Cx} {N : List Str} {sc : Scope} {k : Nat} {a : Addr} {pn : List (Addr × Obj)} (B : BX X N sc k) : BS (X.suite a pn) N sc := ⟨B.hN, B.hsc, B.nd⟩
/-- the error at a, with its fields -/
def rErr (a : Addr) (d : Option Addr) (fs : List (Str × V)) : Rep := ⟨fun F v => v = .ref a ∧ DctAt F d fs, fun {F F' v} s ⟨h1, h2⟩ => ⟨h1, by
  cases d with
  | none => exact h2
  | some dd => exact s _ _ h2⟩⟩
theorem en_errF {F0 H0 F H H1 : Hp} {σ : L2.St} {Γ : List Sl} {i : Nat} {a d : Addr} {fs : List (Str × V)} (en : En F0 H0 F H σ Γ) (s : Same H H1) (n : H d = none) (z : H1 d = some (.xd fs)) : ∃ F1, En F0 H0 F1 H1 (σ.set i (some (.ref a))) (Γ.set i (.im (rErr a (some d) fs))) := by
  have nf : F d = none := en.gr.s.free n
  refine ⟨upd F d (.xd fs), (en.grow (F' := upd F d (.xd fs)) (H' := H1) ⟨same_new nf, s, fun b o y => ?_, fun b hb y => ?_⟩).setIm (v := .ref a) ⟨rfl, upd_same⟩⟩
  · by_cases e : b = d
    · subst e
      rw [upd_same] at y
      rw [z, ← y]
    · rw [upd_ne e] at y
      exact s _ _ (en.gr.s _ _ y)
  · have e : b ≠ d := fun q => hb (q ▸ n)
    rw [upd_ne e]
    exact y
section
variable {X Y : Cx} {N : List Str} {sc : Scope} {k i : Nat} {Γ : List Sl} {e c : Expr} {r : Rep} {l : List Rep} {x n f : Str} {pos p p2 : Pos} {F0 H0 : Hp} {st : List Stmt} {D : Ends} {u : Bool} {v : V} {cv : Value}
/-- isinstance(e, c) in the suite -/
theorem de_isF {al Dx : Addr} {d : Option Addr} {fs : List (Str × V)} {oe : Obj} {pn : List (Addr × Obj)} (B : BS (X.suite al ((al, oe) :: pn)) N sc) (E : ExcC X.K Dx) (hz : Zc (.ref Dx) d oe) (hf : ∃ vs, oe.data = .fields vs) (hmi : X.mg "isinstance" = none) (hgi : sc.names.lookup ("isinstance" : Str) = some NameKind.globalImplicit)
    (hΓ : Γ[i]? = some (.im (rErr al d fs))) (hN : N[i]? = some n) (hv : Vis sc n) (hc : ClsE (X.suite al ((al, oe) :: pn)) c cv) (hk : PySem.W.kitOne X.K (.ref Dx) cv = some u)
    (hd : (n == ("__debug__" : Str)) = false := by decide) (hcd : (n == ("__classdict__" : Str)) = false := by decide)
    (he : starEach (.Name n p2 :: [c]) X.env = (false, eval (.Name n p2) X.env) :: starEach [c] X.env := by rfl) (he2 : starEach (c :: []) X.env = (false, eval c X.env) :: starEach [] X.env := by rfl) (hpl : (backTo pos (starEach [c] X.env)).any (·.1) = false := by rfl) :
    DE (X.suite al ((al, oe) :: pn)) Γ (.Call (.Name "isinstance" p) [.Name n p2, c] [] pos) (rBl u) := fun F0 H0 F H σ en Q q => by
  obtain ⟨hNX, hsc, _⟩ := B
  subst hsc hNX
  obtain ⟨cV, hu, hp⟩ := hc
  obtain ⟨y, hσ, rfl, hD⟩ := en.im hΓ
  have hgl : Gl (X.suite al ((al, oe) :: pn)) "isinstance" := hgi
  have hDH : DctAt H d fs := by
    cases d with
    | none => exact hD
    | some dd => exact en.gr.s _ _ hD
  refine .of (pe_callB (call_isF E hz hf) hgl hmi (by decide +kernel) (pa_cons (pe_var (i := i) hN hv hd hcd) (pa_cons hp pa_nil he2) he) (by decide) (by decide) he hpl) ?_
  exact ⟨_, hσ, cV, cv, u, fs, hDH, rfl, hu, hk, q _ F H (.refl en.gr.s) rfl⟩
/-- e.f in the suite -/
theorem de_fldF {al Dx d : Addr} {fs : List (Str × V)} {oe : Obj} {pn : List (Addr × Obj)} (B : BS (X.suite al ((al, oe) :: pn)) N sc) (T : XfC X.K Dx) (hno : PySem.W.findIn X.K (.ref Dx) f = some none) (hz : Zc (.ref Dx) (some d) oe) (hf : ∃ vs, oe.data = .fields vs)
    (hΓ : Γ[i]? = some (.im (rErr al (some d) fs))) (hN : N[i]? = some n) (hv : Vis sc n) (hl : fs.lookup f = some v) (hd : (n == ("__debug__" : Str)) = false := by decide) (hcd : (n == ("__classdict__" : Str)) = false := by decide)
    (hb : attributeBase (.Name n p2) f X.env (eval (.Name n p2) X.env) = eval (.Name n p2) X.env := by rfl) : DE (X.suite al ((al, oe) :: pn)) Γ (.Attribute (.Name n p2) f pos) (rC v) := fun F0 H0 F H σ en Q q => by
  obtain ⟨hNX, hsc, _⟩ := B
  subst hsc hNX
  obtain ⟨y, hσ, rfl, hD⟩ := en.im hΓ
  have hDH : H d = some (.xd fs) := en.gr.s _ _ hD
  refine .of (pe_xf T hno hz hf (pe_var (X := X.suite al ((al, oe) :: pn)) (i := i) hN hv hd hcd) hb) ?_
  exact ⟨_, hσ, rfl, rfl, d, fs, v, rfl, hDH, hl, q v F H (.refl en.gr.s) rfl⟩
end
end DL

set_option Elab.async false
set_option linter.all false
set_option maxRecDepth 100000
set_option maxHeartbeats 4000000
/-! try: .. except C as e: suite -/
namespace DL
open PySem PySem.Spec PyProof.Rows L2
section
variable {X Y : Cx} {N : List Str} {sc : Scope} {k i : Nat} {Γ : List Sl} {a b e c : Expr} {r : Rep} {l : List Rep} {x n f : Str} {pos p p2 tpos apos ps2 : Pos} {F0 H0 F H : Hp} {σ : L2.St} {st : List Stmt} {D D' : Ends} {ret : Ret}
theorem go_thenY (h : GO X F0 H0 st D Γ) : GO Y F0 H0 [] { D with nx := XS X st D } Γ := go_nil fun F H σ en => h F H σ en
theorem go_run {Γ : List Sl} (en : En F0 H0 F H σ Γ) (h : GO Y F0 H0 st D Γ) : XS Y st D σ H := h F H σ en
theorem RT.su (R : RT F0 H0 ret D) (h : D'.rt = D.rt := by rfl) : RT F0 H0 ret D' := fun v F' H' g q => by rw [h]; exact R v F' H' g q
end
end DL

set_option Elab.async false
set_option linter.all false
set_option maxRecDepth 100000
set_option maxHeartbeats 4000000
/-! ends and ranges -/
namespace DL
open PySem PySem.Spec PyProof.Rows L2
section
variable {K : PySem.W.Frag}
end
section
variable {X : Cx} {Γ : List Sl} {a : Expr} {p pos : Pos} {j : Nat} {r : Rep} {o : Option Rat}
theorem dt_notN (ha : DE X Γ a rNon) : DT X Γ (.Compare a [.IsNot] [.Constant .none j p] pos) false := dt_cmp op_notN (fun F H x y s h1 h2 Q q => by cases h1; cases h2; exact ⟨rfl, q _ F H (.refl s) rfl⟩) ha de_non (nomark _)
theorem dt_notN0 (hn : NotNon r) (ha : DE X Γ a r) : DT X Γ (.Compare a [.IsNot] [.Constant .none j p] pos) true := dt_cmp op_notN (fun F H x y s h1 h2 Q q => by
  cases h2
  exact ⟨rfl, q _ F H (.refl s) (by show V.bl _ = V.bl _; rw [decide_eq_false (hn F x h1)]; rfl)⟩) ha de_non (nomark _)
end
end DL

set_option Elab.async false
set_option linter.all false
set_option maxRecDepth 100000
set_option maxHeartbeats 4000000
/-! a def with a star parameter -/
namespace DL
open PySem PySem.Spec PyProof.Rows L2
structure CalR (P : Program) (w : World) (K : PySem.W.Frag) (mg : Str → Option Value) (base : Heap) (k : Nat) (x : Str) (sp : Sp) : Prop where
  ex : ∃ f : Addr, FnR P w K mg base (L2.CX P w) k f sp ∧ mg x = some (.ref f) ∧ PySem.W.keepIn K (.ref f) = true
section
variable {X : Cx} {N : List Str} {sc : Scope} {k j : Nat} {Γ : List Sl} {e : Expr} {es : List Expr} {pos p : Pos} {x : Str} {ι : Type} {pre : ι → Prop} {args : ι → List Rep} {out : ι → Out} {ret : Ret} {C : Addr} {W : WX} {fs : List (Str × V)} {sp : Sp}
end
section
variable {P : Program} {w : World} {K : PySem.W.Frag} {mg : Str → Option Value} {base : Heap} {k : Nat} {x pv : Str} {st : Stmt} {N ps : List Str} {ι : Type} {pre : ι → Prop} {first rest : ι → List Rep} {out : ι → Out}
end
end DL

set_option Elab.async false
set_option linter.all false
set_option maxRecDepth 100000
set_option maxHeartbeats 4000000
/-! sets made of lists -/
namespace DL
open PySem PySem.Spec PyProof.Rows L2
section
variable {P : Program} {w : World} {A : Around} {E : Value → Shared → Prop} {s : Shared}
abbrev emptyS (w : World) : Obj := { cls := .type "set", dict := none, data := .set #[] 0 (.fresh 0 0 (!w.params.followText "set-order")) }
/-- what the walk that fills a set has to give -/
def Fills (P : Program) (w : World) (items : Array Value) (Good : Heap → Addr → Prop) : Prop :=
  ∀ {A' : Around} {s0 : Shared} {S I : Addr} {fp wr : List Addr} {G : Array GenState → Array GenState → Prop} {St : Nat → Shared → Prop} {R : Result → Shared → Prop},
    WalksS P w A'.in1 I fp wr G items.size (fun i v => items[i]? = some v) St → S ∉ fp → St 0 s0 → s0.heap.get? S = some (emptyS w) →
    (∀ s', Moved (S :: wr) G s0 s' → Good s'.heap S → R (.ok (.ret .none)) s') → codeAny (model P w) A' (.builtin "set.update.loop" ⟨[.ref S, .ref I], []⟩) R s0
set_option maxHeartbeats 3200000 in
theorem set_made {l : Addr} {items : Array Value} {Good : Heap → Addr → Prop} {Q : Value → Shared → Prop} (hh : A.handled = none) (hl : s.heap.IsList l items) (fills : Fills P w items Good)
    (h : ∀ (h' : Heap) (tk : Nat), Good h' s.heap.objs.size → (∀ b o, s.heap.get? b = some o → h'.get? b = some o) → Q (.ref s.heap.objs.size) { s with heap := h', toks := tk }) :
    wpAny (model P w) A (call (.type "set") [.ref l]) Q E s := by
  have cs := F.called_set
  obtain ⟨c, tl, e1⟩ := cs.mro
  have e2 := cs.made
  have e3 := cs.sub
  have e4 := cs.notType
  have e5 := cs.canCreate
  have e6 := F.typeCall_set_1 (.ref l)
  refine wpAny_call (codeAny_of_tree (show wpAny _ _ (callAny (.type "set") _) _ _ _ from wpAny_pure ⟨Code.quiet_builtin _ (by decide +kernel), codeAny_builtin F.entry_type_call ?_⟩))
  rw [Around.under_plain (weight_type_call_type "set" [.ref l] []) rfl]
  repeat (any_goals (first | assumption | wp_step))
  generalize hn : s.heap.objs.size = n at h
  have lS : (s.heap.push (emptyS w)).objs.size = n + 1 := by rw [Heap.size_push, hn]
  have at1 : (s.heap.push (emptyS w)).get? n = some (emptyS w) := hn ▸ Heap.get?_push_size _ rfl
  refine codeAny_mono (code_set_led1 (.ref l) (E := E) (Q₁ := fun v t => v = .ref n ∧ t = { s with heap := s.heap.push (emptyS w) }) ⟨by rw [hn], rfl⟩) fun r t hr => ?_
  match r, hr with
  | .error e, hr => exact hr
  | .ok .next, hr => exact hr.elim
  | .ok .brk, hr => exact hr.elim
  | .ok .cont, hr => exact hr.elim
  | .ok (.ret v), ⟨e7, e8⟩ =>
    subst e7 e8
    have ty : Shared.TypeIs { s with heap := s.heap.push (emptyS w) } (.ref n) "set" := ⟨_, at1, rfl⟩
    have f1 := cs.init.lookup
    have f2 := cs.init.bind (.ref n)
    repeat (any_goals (first | assumption | wp_step))
    refine codeAny_mono (codeAny_call_builtin (R := wants (fun r t => r = .none ∧ ∃ h' tk, t = { s with heap := h', toks := tk } ∧ Good h' n ∧ ∀ b o, s.heap.get? b = some o → h'.get? b = some o) E) cs.init.plain F.entry_set_init (check_set_init_1 ty ?_)) fun r2 t2 hr2 => ?_
    · obtain ⟨⟨k1, k2, k3, k4⟩, hol, rfl, nl, rfl⟩ := hl
      have lt : l < n := hn ▸ Heap.lt_size hol
      have il : (s.heap.push (emptyS w)).IsList l items := ⟨_, Heap.get?_push_of_some _ hol, rfl, nl, rfl⟩
      have g1 : (s.heap.push (emptyS w)).get? l = some { cls := .type "list", dict := k2, data := .seq items nl, slots := k4 } := Heap.get?_push_of_some _ hol
      have g2 := F.sub_list_set
      have g3 := F.sub_list_frozenset
      have g4 : (Value.type "list" == Value.type "dict") = false := by decide
      unfold Builtin.«set.__init__» noKeywords Builtin.Frozenset.updateFrom
      generalize hP : pyIter = PI
      wp_walk
      subst hP
      refine wpAny_pyIter_list il (wpAny_bind (wpAny_runValue ?_))
      have hd : A.in1.in1.in1.handled = none := by simp [hh]
      have lt2 : n < (s.heap.push (emptyS w)).objs.size := by rw [lS]; exact Nat.lt_succ_self _
      have nI : l ≠ (s.heap.push (emptyS w)).objs.size := Nat.ne_of_lt (Nat.lt_trans lt lt2)
      have no2 : ∀ {b x y : Addr}, b ≠ x → b ≠ y → b ∉ [x, y] := fun p q z => by
        rcases List.mem_cons.mp z with z | z
        · exact p z
        · exact q (List.mem_singleton.mp z)
      refine fills ((Walks.list hd _ l nI items).toS) (no2 (Nat.ne_of_lt lt2) (Nat.ne_of_gt lt)) ⟨⟨_, Heap.get?_push_size _ rfl, rfl, rfl⟩, il.push _⟩ (Heap.get?_push_of_some _ at1) fun t3 mv good => ?_
      obtain ⟨h3, g3', d3, tk3, os3⟩ := t3
      obtain rfl : g3' = s.gens := mv.gens
      obtain rfl : d3 = s.drawn := mv.drawn
      obtain rfl : os3 = s.os := mv.os
      show wpAny _ _ _ _ _ _
      refine wpAny_pure (show wpAny _ _ (ret Value.none) _ _ _ from wpAny_pure ⟨rfl, h3, tk3, rfl, good, fun b o e => ?_⟩)
      have lb : b < n := hn ▸ Heap.lt_size e
      exact mv.heap b o (no2 (Nat.ne_of_lt lb) (Nat.ne_of_lt (Nat.lt_trans lb lt2))) (Heap.get?_push_of_some _ (Heap.get?_push_of_some _ e))
    · match r2, hr2 with
      | .error e, hr2 => exact hr2
      | .ok .next, hr2 => exact hr2.elim
      | .ok .brk, hr2 => exact hr2.elim
      | .ok .cont, hr2 => exact hr2.elim
      | .ok (.ret r), ⟨e9, h', tk, e10, good, keep⟩ =>
        subst e9 e10
        repeat (any_goals (first | assumption | wp_step))
        exact h _ _ good keep
end
end DL

set_option Elab.async false
set_option linter.all false
set_option maxRecDepth 100000
set_option maxHeartbeats 4000000
/-! lists of different members -/
namespace DL
open PySem L2
theorem snoc_ind {α : Type} {motive : List α → Prop} (nil : motive []) (snoc : ∀ (xs : List α) (x : α), motive xs → motive (xs ++ [x])) (l : List α) : motive l := by
  have h : ∀ l : List α, motive l.reverse := fun l => by
    induction l with
    | nil => exact nil
    | cons x l ih => rw [List.reverse_cons]; exact snoc _ _ ih
  have := h l.reverse
  rwa [List.reverse_reverse] at this
/-! the members, each once, in the order in which they are met -/
section
variable {α : Type} [DecidableEq α]
def dstep (acc : List α) (x : α) : List α := if x ∈ acc then acc else acc ++ [x]
def dd (xs : List α) : List α := xs.foldl dstep []
theorem dd_snoc (xs : List α) (x : α) : dd (xs ++ [x]) = dstep (dd xs) x := by
  unfold dd
  rw [List.foldl_append]
  rfl
theorem mem_dd {x : α} : ∀ {xs : List α}, x ∈ dd xs ↔ x ∈ xs := by
  intro xs
  induction xs using snoc_ind with
  | nil => exact Iff.rfl
  | snoc xs y ih =>
    rw [dd_snoc]
    unfold dstep
    by_cases h : y ∈ dd xs
    · rw [if_pos h, List.mem_append, List.mem_singleton, ih]
      exact ⟨.inl, fun z => z.elim id fun e => e ▸ ih.mp (by subst e; exact h)⟩
    · rw [if_neg h, List.mem_append, List.mem_append, ih]
theorem nodup_dd : ∀ (xs : List α), (dd xs).Nodup := by
  intro xs
  induction xs using snoc_ind with
  | nil => exact List.nodup_nil
  | snoc xs y ih =>
    rw [dd_snoc]
    unfold dstep
    by_cases h : y ∈ dd xs
    · rw [if_pos h]; exact ih
    · rw [if_neg h]
      exact List.nodup_append.mpr ⟨ih, by simp, fun a ha b hb e => h (by rw [List.mem_singleton.mp hb] at e; exact e ▸ ha)⟩
theorem dd_take {xs : List α} {i : Nat} {x : α} (h : xs[i]? = some x) : dd (xs.take (i + 1)) = dstep (dd (xs.take i)) x := by
  rw [List.take_add_one, h]
  exact dd_snoc _ _
theorem dd_len_le (xs : List α) : (dd xs).length ≤ xs.length := by
  induction xs using snoc_ind with
  | nil => exact Nat.le_refl _
  | snoc xs y ih =>
    rw [dd_snoc, List.length_append]
    unfold dstep
    split
    · exact Nat.le_trans ih (Nat.le_add_right _ _)
    · rw [List.length_append]; exact Nat.add_le_add_right ih _
theorem nodup_sub : ∀ {l m : List α}, l.Nodup → (∀ x ∈ l, x ∈ m) → l.length ≤ m.length
  | [], m, _, _ => Nat.zero_le _
  | x :: l, m, h, hs => by
    have h2 := List.nodup_cons.mp h
    have hx : x ∈ m := hs x (List.mem_cons_self ..)
    have := nodup_sub (l := l) (m := m.erase x) h2.2 (fun y hy => by
      have : y ≠ x := fun e => h2.1 (e ▸ hy)
      exact (List.mem_erase_of_ne this).mpr (hs y (List.mem_cons_of_mem _ hy)))
    rw [List.length_erase_of_mem hx] at this
    have hp := List.length_pos_of_mem hx
    rw [List.length_cons]
    omega
theorem nodup_len {l m : List α} (hl : l.Nodup) (hm : m.Nodup) (h : ∀ x, x ∈ l ↔ x ∈ m) : l.length = m.length :=
  Nat.le_antisymm (nodup_sub hl fun x z => (h x).mp z) (nodup_sub hm fun x z => (h x).mpr z)
theorem dd_of_nodup {xs : List α} (h : xs.Nodup) : (dd xs).length = xs.length := nodup_len (nodup_dd xs) h fun _ => mem_dd
theorem nodup_of_dd {xs : List α} (h : (dd xs).length = xs.length) : xs.Nodup := by
  induction xs using snoc_ind with
  | nil => exact List.nodup_nil
  | snoc xs y ih =>
    rw [dd_snoc, List.length_append] at h
    unfold dstep at h
    have hl := dd_len_le xs
    by_cases hy : y ∈ dd xs
    · rw [if_pos hy] at h
      simp at h
      omega
    · rw [if_neg hy, List.length_append] at h
      have h2 : (dd xs).length = xs.length := by simpa using h
      exact List.nodup_append.mpr ⟨ih h2, by simp, fun a ha b hb e => hy (by rw [List.mem_singleton.mp hb] at e; exact mem_dd.mpr (e ▸ ha))⟩
theorem dd_lt {xs : List α} : (dd xs).length < xs.length ↔ ¬ xs.Nodup := by
  have h1 := dd_len_le xs
  constructor
  · intro h n
    rw [dd_of_nodup n] at h
    omega
  · intro h
    by_cases e : (dd xs).length = xs.length
    · exact absurd (nodup_of_dd e) h
    · omega
end
/-! the members, ascending -/
def sins (x : Int) : List Int → List Int
  | [] => [x]
  | y :: l => if x < y then x :: y :: l else if x = y then y :: l else y :: sins x l
def sset (xs : List Int) : List Int := xs.foldr sins []
theorem mem_sins {x z : Int} : ∀ {l : List Int}, z ∈ sins x l ↔ z = x ∨ z ∈ l
  | [] => by simp [sins]
  | y :: l => by
    unfold sins
    split
    · simp
    · split
      · rename_i h; subst h; simp
      · rw [List.mem_cons, mem_sins, List.mem_cons]
        constructor
        · rintro (h | h | h)
          · exact .inr (.inl h)
          · exact .inl h
          · exact .inr (.inr h)
        · rintro (h | h | h)
          · exact .inr (.inl h)
          · exact .inl h
          · exact .inr (.inr h)
theorem sins_sorted {x : Int} : ∀ {l : List Int}, l.Pairwise (· < ·) → (sins x l).Pairwise (· < ·)
  | [], _ => by simp [sins]
  | y :: l, h => by
    have h2 := List.pairwise_cons.mp h
    unfold sins
    split
    · rename_i hx
      exact List.pairwise_cons.mpr ⟨fun z hz => by
        rcases List.mem_cons.mp hz with e | e
        · omega
        · have := h2.1 z e; omega, h⟩
    · split
      · exact h
      · refine List.pairwise_cons.mpr ⟨fun z hz => ?_, sins_sorted h2.2⟩
        rcases mem_sins.mp hz with e | e
        · omega
        · exact h2.1 z e
theorem mem_sset {z : Int} : ∀ {xs : List Int}, z ∈ sset xs ↔ z ∈ xs
  | [] => Iff.rfl
  | x :: xs => by
    show z ∈ sins x (sset xs) ↔ _
    rw [mem_sins, mem_sset, List.mem_cons]
theorem sset_sorted : ∀ (xs : List Int), (sset xs).Pairwise (· < ·)
  | [] => .nil
  | x :: xs => sins_sorted (sset_sorted xs)
theorem asc_eq : ∀ {l m : List Int}, l.Pairwise (· < ·) → m.Pairwise (· < ·) → (∀ x, x ∈ l ↔ x ∈ m) → l = m
  | [], [], _, _, _ => rfl
  | [], y :: m, _, _, h => absurd ((h y).mpr (List.mem_cons_self ..)) (by simp)
  | x :: l, [], _, _, h => absurd ((h x).mp (List.mem_cons_self ..)) (by simp)
  | x :: l, y :: m, h1, h2, h => by
    have a := List.pairwise_cons.mp h1
    have b := List.pairwise_cons.mp h2
    have e : x = y := by
      rcases List.mem_cons.mp ((h x).mp (List.mem_cons_self ..)) with e | e
      · exact e
      · rcases List.mem_cons.mp ((h y).mpr (List.mem_cons_self ..)) with f | f
        · exact f.symm
        · have := a.1 y f; have := b.1 x e; omega
    subst e
    refine congrArg (x :: ·) (asc_eq a.2 b.2 fun z => ?_)
    constructor
    · intro hz
      rcases List.mem_cons.mp ((h z).mp (List.mem_cons_of_mem _ hz)) with e | e
      · have := a.1 z hz; omega
      · exact e
    · intro hz
      rcases List.mem_cons.mp ((h z).mpr (List.mem_cons_of_mem _ hz)) with e | e
      · have := b.1 z hz; omega
      · exact e
end DL

set_option Elab.async false
set_option linter.all false
set_option maxRecDepth 100000
set_option maxHeartbeats 4000000
/-! sets of ints and of texts: made of a list, counted, sorted -/
namespace DL
open PySem PySem.Spec PyProof.Rows L2
section
variable {P : Program} {w : World}
theorem fills_ints {items : Array Value} {ns : List Int} (hi : IntsAre items.toList ns) (hb : ns.length + 1 < scanBound) : Fills P w items fun h a => ∃ c, SetR w h a (fun j => decide (j ∈ ns)) c := by
  intro A' s0 S I fp wr G St R W hS h0 hg k
  have hl : items.size = ns.length := by
    have q := hi.length
    rw [Array.length_toList] at q
    exact q
  refine set_update_ints W S hS ns hl hb (fun i v hv => ?_) (items.size - 0) 0 s0 rfl (Nat.zero_le _) h0 ⟨0, Nat.le_refl _, setR_new_at hg⟩ fun s' c mv _ r => k s' mv ⟨c, r⟩
  have lt : i < ns.length := hl ▸ (Array.getElem?_eq_some_iff.mp hv).1
  obtain ⟨t, e⟩ := IntsAre.int_at hi i v (by rw [Array.getElem?_toList]; exact hv)
  exact ⟨ns[i], t, List.getElem?_eq_getElem lt, by rw [e, List.getD_eq_getElem?_getD, List.getElem?_eq_getElem lt, Option.getD_some]⟩
/-- a set of texts, the first i of them in it -/
theorem fill_strs {A : Around} {S I : Addr} {fp wr : List Addr} {G : Array GenState → Array GenState → Prop} {n : Nat} {Pv : Nat → Value → Prop} {St : Nat → Shared → Prop} {R : Result → Shared → Prop} (W : WalksS P w A.in1 I fp wr G n Pv St) (hS : S ∉ fp) (xs : List Str) (hn : n = xs.length) (hb : xs.length + 1 < scanBound)
    (hv : ∀ i v, Pv i v → ∃ x t, xs[i]? = some x ∧ v = .str x t) : ∀ (d i : Nat) (s : Shared), n - i = d → i ≤ n → St i s → s.heap.SetOf (PySem.strKind P w) S (fun z => decide (z ∈ xs.take i)) (dd (xs.take i)).length →
      (∀ s', Moved (S :: wr) G s s' → s'.heap.SetOf (PySem.strKind P w) S (fun z => decide (z ∈ xs)) (dd xs).length → R (.ok (.ret .none)) s') → codeAny (model P w) A (.builtin "set.update.loop" ⟨[.ref S, .ref I], []⟩) R s := by
  have nw : S ∉ wr := fun z => hS (W.sub _ z)
  have up : ∀ b ∈ wr, b ∈ S :: wr := fun b z => List.mem_cons_of_mem _ z
  intro d
  induction d with
  | zero =>
    intro i s e1 e2 st so k
    obtain rfl : i = n := by omega
    refine codeAny_builtin F.entry_set_update_loop ?_
    rw [Around.under_plainId F.plain_set_update_loop _]
    refine show wpAny _ A.in1 (pyNext (.ref I) >>= _) _ _ s from wpAny_bind (W.done s _ _ st fun s' mv => show wpAny _ A.in1 (ret Value.none) _ _ s' from wpAny_pure (k s' (mv.mono up) ?_))
    rw [List.take_of_length_le (by omega)] at so
    obtain ⟨o, es, ep, tb, ho, rest⟩ := so
    exact ⟨o, es, ep, tb, mv.heap S _ nw ho, rest⟩
  | succ d ih =>
    intro i s e1 e2 st so k
    have lt : i < n := by omega
    refine codeAny_builtin F.entry_set_update_loop ?_
    rw [Around.under_plainId F.plain_set_update_loop _]
    refine show wpAny _ A.in1 (pyNext (.ref I) >>= _) _ _ s from wpAny_bind (W.item i s _ _ lt st fun v s1 pv st1 mv => ?_)
    obtain ⟨x, t, hx, rfl⟩ := hv i v pv
    have so1 : s1.heap.SetOf (PySem.strKind P w) S (fun z => decide (z ∈ xs.take i)) (dd (xs.take i)).length := by
      obtain ⟨o, es, ep, tb, ho, rest⟩ := so
      exact ⟨o, es, ep, tb, mv.heap S _ nw ho, rest⟩
    refine show wpAny _ A.in1 (holding [Value.str x t] (setAdd S (.str x t)) >>= _) _ _ s1 from wpAny_bind (wpAny_holding ?_)
    unfold setAdd
    refine wpAny_holding (wpAny_bind ((PySem.strKind P w).pyHash (k := x) (strKind_is _ _ _ _) ?_))
    have room : (dd (xs.take i)).length + 1 < scanBound := by
      have := dd_len_le (xs.take i)
      rw [List.length_take] at this
      omega
    refine wpAny_setAddHashed_of (knd := PySem.strKind P w) (s := { s1 with toks := s1.toks + 1 }) (strKind_is _ _ _ _) rfl so1 room fun h' sb so2 => ?_
    have so3 : h'.SetOf (PySem.strKind P w) S (fun z => decide (z ∈ xs.take (i + 1))) (dd (xs.take (i + 1))).length := by
      refine SetOf_congr so2 (fun z => ?_) ?_
      · rw [List.take_add_one, hx]
        by_cases h1 : z ∈ xs.take i <;> by_cases h2 : z = x <;> simp [h1, h2]
      · rw [dd_take hx]
        unfold dstep
        by_cases h1 : x ∈ xs.take i
        · rw [if_pos (mem_dd.mpr h1), if_pos (decide_eq_true h1)]
        · rw [if_neg (fun z => h1 (mem_dd.mp z)), if_neg (by simp [h1]), List.length_append]
          rfl
    refine wpAny_pure ⟨plainId_quiet F.plain_set_update_loop _, ih (i + 1) _ (by omega) lt (W.frame _ s1 _ _ st1 (Nat.le_succ _) fun b hb o e => ?_) so3 fun s2 mv2 so4 => k s2 ?_ so4⟩
    · rw [sb.2 b (fun z => hS (z ▸ hb))]
      exact e
    · refine Moved.trans W.gtrans ((mv.mono up).then_heap (Nat.le_succ _) fun b o hb e => ?_) mv2
      rw [sb.2 b (fun z => hb (z ▸ List.mem_cons_self))]
      exact e
theorem fills_strs {items : Array Value} {xs : List Str} (hi : StrsAre items.toList xs) (hb : xs.length + 1 < scanBound) : Fills P w items fun h a => h.SetOf (PySem.strKind P w) a (fun z => decide (z ∈ xs)) (dd xs).length := by
  intro A' s0 S I fp wr G St R W hS h0 hg k
  have hl : items.size = xs.length := by
    have q := StrsAre.len_eq hi
    rw [Array.length_toList] at q
    exact q
  refine fill_strs W hS xs hl hb (fun i v hv => ?_) (items.size - 0) 0 s0 rfl (Nat.zero_le _) h0 ?_ k
  · have lt : i < xs.length := hl ▸ (Array.getElem?_eq_some_iff.mp hv).1
    obtain ⟨t, e⟩ := SS.strs_at hi i v (by rw [Array.getElem?_toList]; exact hv)
    exact ⟨xs[i], t, List.getElem?_eq_getElem lt, by rw [e, List.getD_eq_getElem?_getD, List.getElem?_eq_getElem lt, Option.getD_some]⟩
  · exact SetOf_congr ((setObjOf_fresh (knd := PySem.strKind P w) (!w.params.followText "set-order")).setOf hg (by unfold scanBound; omega)) (fun z => by simp) rfl
end
def SetSO (P : Program) (w : World) (a : Addr) (xs : List Str) : HO := .ext fun h => h.SetOf (PySem.strKind P w) a (fun z => decide (z ∈ xs)) (dd xs).length
theorem setS_new {w : World} {P : Program} {H : Hp} {h : Heap} {a : Addr} {xs : List Str} (R : h.SetOf (PySem.strKind P w) a (fun z => decide (z ∈ xs)) (dd xs).length) : ObjOk P w H h a (SetSO P w a xs) := by
  have ⟨o, _, _, _, ho, _⟩ := R
  exact ⟨R, ⟨o, ho⟩, fun h1 h2 ⟨o', es, ep, tb, q1, q2⟩ k => ⟨o', es, ep, tb, k _ q1, q2⟩⟩
section
variable {X : Cx}
def kSetI (X : Cx) : List V → Hp → VK → Prop := fun vs H Q => ∃ (l : Addr) (ns : List Int), vs = [V.ref l] ∧ SqL X.K H l (ns.map V.int) ∧ ns.length + 1 < scanBound ∧ ∀ p c, H p = none → Q (.ref p) (upd H p (SetO X.w p (fun j => decide (j ∈ ns)) c))
theorem cr_setI (hc : X.calm = true) : CallR X (.type "set") (kSetI X) := by
  intro pins s σ H vs us Q I r h
  obtain ⟨l, ns, rfl, hq, hb, q⟩ := h
  rw [Vals.ref1 r]
  obtain ⟨its, rv, pl, hz⟩ := I.list hq
  refine set_made (Good := fun h a => ∃ c, SetR X.w h a (fun j => decide (j ∈ ns)) c) (I.ok.hd hc) pl.isList (fills_ints (by simpa using ints_of_vals rv) hb) fun h' tk ⟨c, good⟩ keep => ?_
  exact ⟨.ref _, _, I.laid (t' := tk) keep (Nat.le_refl _) (setO_new good), rfl, q _ c (I.hok.fresh (Nat.le_refl _))⟩
def kSetS (X : Cx) : List V → Hp → VK → Prop := fun vs H Q => ∃ (l : Addr) (xs : List Str), vs = [V.ref l] ∧ SqL X.K H l (xs.map V.str) ∧ xs.length + 1 < scanBound ∧ ∀ p, H p = none → Q (.ref p) (upd H p (SetSO X.prog X.w p xs))
theorem cr_setS (hc : X.calm = true) : CallR X (.type "set") (kSetS X) := by
  intro pins s σ H vs us Q I r h
  obtain ⟨l, xs, rfl, hq, hb, q⟩ := h
  rw [Vals.ref1 r]
  obtain ⟨its, rv, pl, hz⟩ := I.list hq
  refine set_made (Good := fun h a => h.SetOf (PySem.strKind X.prog X.w) a (fun z => decide (z ∈ xs)) (dd xs).length) (I.ok.hd hc) pl.isList (fills_strs (by simpa using strsAre_of rv) hb) fun h' tk good keep => ?_
  exact ⟨.ref _, _, I.laid (t' := tk) keep (Nat.le_refl _) (setS_new good), rfl, q _ (I.hok.fresh (Nat.le_refl _))⟩
theorem setR_len {w : World} {h : Heap} {a : Addr} {ns : List Int} {c : Nat} (R : SetR w h a (fun j => decide (j ∈ ns)) c) : c = (dd ns).length := by
  obtain ⟨o, es, ep, t, ho, hx, hd, g, nd, hm, hb, hf, hn, _⟩ := R
  have e := nodup_len nd (nodup_dd ns) fun x => by rw [← hm, mem_dd, decide_eq_true_iff]
  rw [List.length_map, Array.length_toList, hn] at e
  exact e
/-- len of a set -/
def kLenSet (X : Cx) : List V → Hp → VK → Prop := fun vs H Q => (∃ (a : Addr) (ns : List Int) (c : Nat), vs = [V.ref a] ∧ H a = some (SetO X.w a (fun j => decide (j ∈ ns)) c) ∧ Q (.int (dd ns).length) H) ∨ ∃ (a : Addr) (xs : List Str), vs = [V.ref a] ∧ H a = some (SetSO X.prog X.w a xs) ∧ Q (.int (dd xs).length) H
theorem cr_lenSet : CallR X (.builtin "len") (kLenSet X) := by
  intro pins s σ H vs us Q I r h
  rcases h with ⟨a, ns, c, rfl, ha, q⟩ | ⟨a, xs, rfl, ha, q⟩
  · rw [Vals.ref1 r]
    have R := setO_get I ha
    have hc := setR_len R
    obtain ⟨o, es, ep, t, ho, hx, hd, g, nd, hm, hb, hf, hn, _⟩ := R
    refine call_len_set ho hx hd hf (by unfold scanBound at hb; omega) ⟨.int (dd ns).length, H, I.tok _, ⟨_, by rw [hn, hc]⟩, q⟩
  · rw [Vals.ref1 r]
    obtain ⟨o, es, ep, t, ho, hex, hd, _, _, hb, hf, hn⟩ := (I.hok a _ ha).1
    refine call_len_set ho hex hd hf (by unfold scanBound at hb; omega) ⟨.int (dd xs).length, H, I.tok _, ⟨_, by rw [hn]⟩, q⟩
end
/-- a set of whole numbers, of texts -/
def rSetI (w : World) (ns : List Int) : Rep := ⟨fun F x => ∃ a c, x = .ref a ∧ F a = some (SetO w a (fun j => decide (j ∈ ns)) c), fun s ⟨a, c, e, h⟩ => ⟨a, c, e, s _ _ h⟩⟩
def rSetS (P : Program) (w : World) (xs : List Str) : Rep := ⟨fun F x => ∃ a, x = .ref a ∧ F a = some (SetSO P w a xs), fun s ⟨a, e, h⟩ => ⟨a, e, s _ _ h⟩⟩
theorem rl_iv {F : Hp} : ∀ {ns : List Int} {vs : List V}, RL F (ns.map rInt) vs → vs = ns.map V.int
  | [], _, .nil => rfl
  | n :: ns, _, .cons h t => by rw [rl_iv t]; cases h; rfl
theorem rl_sv {F : Hp} : ∀ {xs : List Str} {vs : List V}, RL F (xs.map rStr) vs → vs = xs.map V.str
  | [], _, .nil => rfl
  | n :: ns, _, .cons h t => by rw [rl_sv t]; cases h; rfl
theorem rl_ofIv {F : Hp} : ∀ {ns : List Int}, RL F (ns.map rInt) (ns.map V.int)
  | [] => .nil
  | n :: ns => .cons rfl rl_ofIv
section
variable {X : Cx} {N : List Str} {sc : Scope} {k : Nat} {Γ : List Sl} {e : Expr} {pos p : Pos} {ns : List Int} {xs : List Str}
theorem de_setI (B : BX X N sc k) (hm : X.mg "set" = none) (hl : ns.length + 1 < scanBound) (h : DE X Γ e (rLst X.K (ns.map rInt))) (hg : sc.names.lookup ("set" : Str) = some NameKind.globalImplicit) (he : starEach (e :: []) X.env = (false, eval e X.env) :: starEach [] X.env := by rfl) : DE X Γ (.Call (.Name "set" p) [e] [] pos) (rSetI X.w ns) :=
  de_bty B (cr_setI B.calm) (fun F H vs s h Q q => by
    obtain ⟨v, rfl, l, ys, rfl, k1, k2⟩ := rl1 h
    rw [rl_iv k2] at k1
    exact ⟨l, ns, rfl, s.seq k1, hl, fun p c hp => q _ _ _ (.new s hp) ⟨p, c, rfl, upd_same⟩⟩) hm (by decide +kernel) (da_cons h da_nil he) hg (he := he)
theorem de_setS (B : BX X N sc k) (hm : X.mg "set" = none) (hl : xs.length + 1 < scanBound) (h : DE X Γ e (rLst X.K (xs.map rStr))) (hg : sc.names.lookup ("set" : Str) = some NameKind.globalImplicit) (he : starEach (e :: []) X.env = (false, eval e X.env) :: starEach [] X.env := by rfl) : DE X Γ (.Call (.Name "set" p) [e] [] pos) (rSetS X.prog X.w xs) :=
  de_bty B (cr_setS B.calm) (fun F H vs s h Q q => by
    obtain ⟨v, rfl, l, ys, rfl, k1, k2⟩ := rl1 h
    rw [rl_sv k2] at k1
    exact ⟨l, xs, rfl, s.seq k1, hl, fun p hp => q _ _ _ (.new s hp) ⟨p, rfl, upd_same⟩⟩) hm (by decide +kernel) (da_cons h da_nil he) hg (he := he)
theorem de_lenSS (B : BX X N sc k) (hm : X.mg "len" = none) (h : DE X Γ e (rSetS X.prog X.w xs)) (hg : sc.names.lookup ("len" : Str) = some NameKind.globalImplicit) (he : starEach (e :: []) X.env = (false, eval e X.env) :: starEach [] X.env := by rfl) : DE X Γ (.Call (.Name "len" p) [e] [] pos) (rInt ((dd xs).length : Nat)) :=
  de_blt B cr_lenSet (fun F H vs s h Q q => by
    obtain ⟨v, rfl, a, rfl, k1⟩ := rl1 h
    exact .inr ⟨a, xs, rfl, s _ _ k1, q _ F H (.refl s) rfl⟩) hm PySem.boot_len (da_cons h da_nil he) hg (he := he)
/-- sorted(set), a new list -/
theorem dl_sortedSI (B : BX X N sc k) (hm : X.mg "sorted" = none) (hl : ns.length < 64) (h : DE X Γ e (rSetI X.w ns)) (hg : sc.names.lookup ("sorted" : Str) = some NameKind.globalImplicit) (he : starEach (e :: []) X.env = (false, eval e X.env) :: starEach [] X.env := by rfl) : DL X Γ (.Call (.Name "sorted" p) [e] [] pos) ((sset ns).map rInt) := fun F0 H0 F H σ en Q q => by
  have hgl : Gl X "sorted" := by
    show X.env.scope.names.lookup _ = _
    rw [B.hsc]
    exact hg
  have rule : CallR X (.builtin "sorted") (fun vs H Q => ∃ (a : Addr) (c : Nat), vs = [V.ref a] ∧ H a = some (SetO X.w a (fun j => decide (j ∈ ns)) c) ∧ ∀ p, H p = none → Q (.ref p) (upd H p (.lst ((sset ns).map V.int)))) := by
    intro pins s σ H vs us Q I r h
    obtain ⟨a, c, rfl, ha, q⟩ := h
    have hc := setR_len (setO_get I ha)
    have hd := dd_len_le ns
    refine cr_sortedSet B.calm pins s σ H _ us Q I r ⟨a, _, c, rfl, ha, by omega, fun ms p h1 h2 _ hp => ?_⟩
    rw [asc_eq h1 (sset_sorted ns) fun x => by rw [h2, mem_sset, decide_eq_true_iff]]
    exact q p hp
  refine .of (pe_callB rule hgl hm (by decide +kernel) (pa_cons pe_ev pa_nil he) (he := he)) (h F0 H0 F H σ en _ fun v F1 H1 g hv => ?_)
  obtain ⟨a, c, rfl, k1⟩ := hv
  exact ⟨a, c, rfl, g.s _ _ k1, fun q' hq => q q' _ F1 _ (g.trans (.newOwn g.s hq)) (g.h.free hq) (g.s.free hq) upd_same rl_ofIv⟩
end
end DL

set_option Elab.async false
set_option linter.all false
set_option maxRecDepth 100000
set_option maxHeartbeats 4000000
/-! zip of two rows, each a list or a tuple -/
namespace DL
open PySem PySem.Spec PyProof.Rows L2
def IsSq (t : Bool) (h : Heap) (l : Addr) (xs : Array Value) : Prop := if t = true then h.IsTuple l xs else h.IsList l xs
def IsSqI (t : Bool) (h : Heap) (it l : Addr) (i : Nat) : Prop := if t = true then h.IsTupleIter it l i else h.IsListIter it l i
def itObj (t : Bool) (l : Addr) : Obj := { cls := .type (if t = true then "tuple_iterator" else "list_iterator"), data := .fields #[.ref l, .int 0 0] }
theorem IsSq.keep {t : Bool} {h h' : Heap} {l : Addr} {xs : Array Value} (x : IsSq t h l xs) (k : ∀ o, h.get? l = some o → h'.get? l = some o) : IsSq t h' l xs := by
  cases t with
  | true => obtain ⟨o, e, r⟩ := (show h.IsTuple l xs from x); exact ⟨o, k o e, r⟩
  | false => obtain ⟨o, e, r⟩ := (show h.IsList l xs from x); exact ⟨o, k o e, r⟩
theorem IsSqI.keep {t : Bool} {h h' : Heap} {l it : Addr} {i : Nat} (x : IsSqI t h it l i) (k : ∀ o, h.get? it = some o → h'.get? it = some o) : IsSqI t h' it l i := by
  cases t with
  | true => exact Heap.IsTupleIter.at (show h.IsTupleIter it l i from x) k
  | false => exact Heap.IsListIter.at (show h.IsListIter it l i from x) k
theorem IsSqI.ob {t : Bool} {h : Heap} {l it : Addr} {i : Nat} (x : IsSqI t h it l i) : ∃ o, h.get? it = some o ∧ ∀ v, o.data ≠ .cell v := by
  cases t with
  | true => obtain ⟨o, e, _, d⟩ := (show h.IsTupleIter it l i from x); exact ⟨o, e, fun v q => by rw [d] at q; cases q⟩
  | false => obtain ⟨o, e, _, d⟩ := (show h.IsListIter it l i from x); exact ⟨o, e, fun v q => by rw [d] at q; cases q⟩
theorem isSqI_new {t : Bool} {h : Heap} {l it : Addr} (e : h.get? it = some (itObj t l)) : IsSqI t h it l 0 := by
  cases t with
  | true => exact ⟨_, e, rfl, rfl⟩
  | false => exact ⟨_, e, rfl, rfl⟩
section
variable {P : Program} {w : World} {A : Around} {E : Value → Shared → Prop} {s : Shared}
theorem sq_next {t : Bool} {it l : Addr} {i : Nat} {xs : Array Value} {x : Value} {Q : Value → Shared → Prop} (hi : IsSqI t s.heap it l i) (hl : IsSq t s.heap l xs) (hx : xs[i]? = some x)
    (k : ∀ h', IsSqI t h' it l (i + 1) → Heap.SameBut it s.heap h' → Q x { s with heap := h' }) : wpAny (model P w) A (Builtin.SmallTypes.nextOf (.ref it)) Q E s := by
  cases t with
  | true => exact RZ.nextOf_tuple_item hi hl hx k
  | false => exact wpAny_nextOf_list_item hi hl hx k
theorem sq_stop {t : Bool} {it l : Addr} {i : Nat} {xs : Array Value} {Q : Value → Shared → Prop} (hh : A.handled = none) (hi : IsSqI t s.heap it l i) (hl : IsSq t s.heap l xs) (hx : xs[i]? = none)
    (k : ∀ h' e, Heap.ExtBut it s.heap h' → (∃ o, h'.get? e = some o ∧ o.cls = .type "StopIteration") → E (.ref e) { s with heap := h' }) : wpAny (model P w) A (Builtin.SmallTypes.nextOf (.ref it)) Q E s := by
  cases t with
  | true => exact RZ.nextOf_tuple_end hh hi hl hx k
  | false => exact wpAny_nextOf_list_end hh hi hl hx k
/-- the zip's own parts lie apart from each other and from what it walks -/
structure Zx (t u : Bool) (h : Heap) (z TI TO i j l m : Addr) (k : Nat) (xs ys : Array Value) : Prop where
  D : ZipApart z TI TO i j l m
  z : IsZip h z TI TO .none
  ti : IsPair h TI (.ref i) (.ref j)
  to : ∃ a b, IsPair h TO a b
  i : IsSqI t h i l k
  j : IsSqI u h j m k
  xs : IsSq t h l xs
  ys : IsSq u h m ys
abbrev Keeps (z TO i j : Addr) (h h' : Heap) : Prop := ∀ c o, c ≠ z → c ≠ TO → c ≠ i → c ≠ j → h.get? c = some o → h'.get? c = some o
theorem zx_next {t u : Bool} {z TI TO i j l m : Addr} {k : Nat} {xs ys : Array Value} {x y : Value} {Q : Value → Shared → Prop} (Z : Zx t u s.heap z TI TO i j l m k xs ys) (hx : xs[k]? = some x) (hy : ys[k]? = some y)
    (q : ∀ h', IsZip h' z TI TO (rawInt s.heap.objs.size) → IsPair h' TO x y → IsSqI t h' i l (k + 1) → IsSqI u h' j m (k + 1) → IsPair h' s.heap.objs.size x y → h'.objs.size = s.heap.objs.size + 1 → Keeps z TO i j s.heap h' → Q (.ref s.heap.objs.size) { s with heap := h' }) :
    wpAny (model P w) A (Builtin.«zip.__next__» ⟨[.ref z], []⟩) (fun fin s' => ∃ v, fin = .done (.ret v) ∧ Q v s') E s := by
  obtain ⟨D, hz, hTI, ⟨a, b, hTO⟩, h1, h2, hl, hm⟩ := Z
  refine show wpAny _ _ (field (.ref z) 2 >>= _) _ _ _ from wpAny_bind (wpAny_field hz rfl (x := .bool false) rfl ?_)
  refine show wpAny _ _ (field (.ref z) 3 >>= _) _ _ _ from wpAny_bind (wpAny_field hz rfl (x := .ref TI) rfl (wpAny_bind (wpAny_seqItems hTI rfl ?_)))
  refine show wpAny _ _ (Builtin.SmallTypes.ownedTupleIsFree (.ref z) >>= _) _ _ _ from wpAny_bind ?_
  unfold Builtin.SmallTypes.ownedTupleIsFree
  refine wpAny_bind (wpAny_field hz rfl (x := .none) rfl (wpAny_pure ?_))
  simp only [if_true]
  refine wpAny_bind (wpAny_rule (wpAny_bind (wpAny_field hz rfl (x := .ref TO) rfl (wpAny_bind (wpAny_setField_rec hz (by simp) fun ha za sa => ?_)))))
  replace za : IsZip ha z TI TO .ellipsis := za
  refine wpAny_bind ?_
  simp only [List.zipIdx_cons, List.zipIdx_nil, List.forIn_cons, List.forIn_nil]
  refine wpAny_bind (wpAny_bind (wpAny_onRaise (show wpAny _ _ (Builtin.SmallTypes.nextOf (.ref i) >>= _) _ _ _ from wpAny_bind ?_)))
  refine sq_next (h1.keep fun o => sa.extBut _ o D.i1z) (hl.keep fun o => sa.extBut _ o D.l1z) hx fun hb ib sb => wpAny_pure ?_
  have pb : IsPair hb TO a b := sb.extBut _ _ D.TOi1 (sa.extBut _ _ D.TOz hTO)
  refine wpAny_bind (wpAny_seqItems pb rfl (wpAny_bind (wpAny_updateSeq_pair pb fun hc pc sc => ?_)))
  replace pc : IsPair hc TO x b := pc
  have k3 : ∀ c o, c ≠ z → c ≠ TO → c ≠ i → s.heap.get? c = some o → hc.get? c = some o := fun c o c1 c2 c3 e => sc.extBut _ _ c2 (sb.extBut _ _ c3 (sa.extBut _ _ c1 e))
  refine wpAny_bind (wpAny_letGo (wpAny_pure (wpAny_bind (wpAny_bind (wpAny_onRaise (show wpAny _ _ (Builtin.SmallTypes.nextOf (.ref j) >>= _) _ _ _ from wpAny_bind ?_))))))
  refine sq_next (h2.keep fun o => k3 _ o D.i2z D.TOi2.symm D.i12.symm) (hm.keep fun o => k3 _ o D.l2z D.l2TO D.l2i1) hy fun hd jd sd => wpAny_pure ?_
  have pd : IsPair hd TO x b := sd.extBut _ _ D.TOi2 pc
  refine wpAny_bind (wpAny_seqItems pd rfl (wpAny_bind (wpAny_updateSeq_pair pd fun he pe se => ?_)))
  replace pe : IsPair he TO x y := pe
  refine wpAny_bind (wpAny_letGo (wpAny_pure (wpAny_pure (wpAny_bind (wpAny_seqItems pe rfl (wpAny_bind (wpAny_newTuple ?_)))))))
  have sz : he.objs.size = s.heap.objs.size := by rw [se.1, sd.1, sc.1, sb.1, sa.1]
  have up : ∀ c o, c ≠ TO → c ≠ j → hc.get? c = some o → he.get? c = some o := fun c o c1 c2 e => se.extBut _ _ c1 (sd.extBut _ _ c2 e)
  have zc : IsZip hc z TI TO .ellipsis := sc.extBut _ _ D.TOz.symm (sb.extBut _ _ D.i1z.symm za)
  have ze : IsZip he z TI TO .ellipsis := up _ _ D.TOz.symm D.i2z.symm zc
  have ie : IsSqI t he i l (k + 1) := (ib.keep fun o => sc.extBut _ o D.TOi1.symm).keep fun o => up _ o D.TOi1.symm D.i12
  have je : IsSqI u he j m (k + 1) := jd.keep fun o => se.extBut _ o D.TOi2.symm
  have lz : z < he.objs.size := Heap.lt_size ze
  refine show wpAny _ _ (Builtin.SmallTypes.ownedTupleHandOut (.ref z) (.ref he.objs.size) >>= _) _ _ _ from wpAny_bind ?_
  unfold Builtin.SmallTypes.ownedTupleHandOut
  have zf : IsZip (he.push { cls := .type "tuple", data := .seq #[x, y] }) z TI TO .ellipsis := Heap.get?_push_of_some _ ze
  refine wpAny_bind (wpAny_setField_rec zf (by simp) fun hg zg sg => ?_)
  replace zg : IsZip hg z TI TO (rawInt he.objs.size) := zg
  refine wpAny_setField_rec zg (by simp) fun hk zk sk => wpAny_pure ⟨_, rfl, ?_⟩
  replace zk : IsZip hk z TI TO (rawInt he.objs.size) := zk
  have last : ∀ c o, c ≠ z → (he.push { cls := .type "tuple", data := .seq #[x, y] }).get? c = some o → hk.get? c = some o := fun c o c1 e => sk.extBut _ _ c1 (sg.extBut _ _ c1 e)
  have old : ∀ c o, c ≠ z → he.get? c = some o → hk.get? c = some o := fun c o c1 e => last c o c1 (Heap.get?_push_of_some _ e)
  have pn : IsPair hk he.objs.size x y := last _ _ (Nat.ne_of_gt lz) (Heap.get?_push_size _ rfl)
  have size : hk.objs.size = he.objs.size + 1 := by rw [sk.1, sg.1, Heap.size_push]
  rw [sz] at zk pn size
  refine show Q (.ref he.objs.size) _ from ?_
  rw [sz]
  exact q hk zk (old _ _ D.TOz pe) (ie.keep fun o => old _ o D.i1z) (je.keep fun o => old _ o D.i2z) pn size fun c o c1 c2 c3 c4 e => old c o c1 (up c o c2 c4 (k3 c o c1 c2 c3 e))
theorem zx_stop {t u : Bool} {z TI TO i j l m : Addr} {k : Nat} {xs ys : Array Value} {Q : Fin → Shared → Prop} (hh : A.handled = none) (Z : Zx t u s.heap z TI TO i j l m k xs ys) (hend : xs[k]? = none ∨ ys[k]? = none)
    (q : ∀ h' e, Keeps z TO i j s.heap h' → (∃ o, h'.get? e = some o ∧ o.cls = .type "StopIteration") → E (.ref e) { s with heap := h' }) : wpAny (model P w) A (Builtin.«zip.__next__» ⟨[.ref z], []⟩) Q E s := by
  obtain ⟨D, hz, hTI, ⟨a, b, hTO⟩, h1, h2, hl, hm⟩ := Z
  refine show wpAny _ _ (field (.ref z) 2 >>= _) _ _ _ from wpAny_bind (wpAny_field hz rfl (x := .bool false) rfl ?_)
  refine show wpAny _ _ (field (.ref z) 3 >>= _) _ _ _ from wpAny_bind (wpAny_field hz rfl (x := .ref TI) rfl (wpAny_bind (wpAny_seqItems hTI rfl ?_)))
  refine show wpAny _ _ (Builtin.SmallTypes.ownedTupleIsFree (.ref z) >>= _) _ _ _ from wpAny_bind ?_
  unfold Builtin.SmallTypes.ownedTupleIsFree
  refine wpAny_bind (wpAny_field hz rfl (x := .none) rfl (wpAny_pure ?_))
  simp only [if_true]
  refine wpAny_bind (wpAny_rule (wpAny_bind (wpAny_field hz rfl (x := .ref TO) rfl (wpAny_bind (wpAny_setField_rec hz (by simp) fun ha za sa => ?_)))))
  replace za : IsZip ha z TI TO .ellipsis := za
  refine wpAny_bind ?_
  simp only [List.zipIdx_cons, List.zipIdx_nil, List.forIn_cons, List.forIn_nil]
  refine wpAny_bind (wpAny_bind (wpAny_onRaise (show wpAny _ _ (Builtin.SmallTypes.nextOf (.ref i) >>= _) _ _ _ from wpAny_bind ?_)))
  have fin : ∀ {h0 : Heap} {e : Addr}, IsZip h0 z TI TO .ellipsis → (∃ o, h0.get? e = some o ∧ o.cls = .type "StopIteration") → e ≠ z := fun hz0 ⟨oe, e1, e2⟩ e3 => by
    subst e3
    rw [hz0] at e1
    cases e1
    simp at e2
  cases hx : xs[k]? with
  | none =>
    refine sq_stop hh (h1.keep fun o => sa.extBut _ o D.i1z) (hl.keep fun o => sa.extBut _ o D.l1z) hx fun hb e sb he => ?_
    have zb : IsZip hb z TI TO .ellipsis := sb _ _ D.i1z.symm za
    have ez := fin zb he
    obtain ⟨oe, e1, e2⟩ := he
    exact wpAny_setField_rec zb (by simp) fun hc _ sc => q hc e (fun c o c1 _ c3 _ x => sc.extBut _ _ c1 (sb _ _ c3 (sa.extBut _ _ c1 x))) ⟨oe, sc.extBut _ _ ez e1, e2⟩
  | some x =>
    have hy : ys[k]? = none := hend.resolve_left (by rw [hx]; exact nofun)
    refine sq_next (h1.keep fun o => sa.extBut _ o D.i1z) (hl.keep fun o => sa.extBut _ o D.l1z) hx fun hb ib sb => wpAny_pure ?_
    have pb : IsPair hb TO a b := sb.extBut _ _ D.TOi1 (sa.extBut _ _ D.TOz hTO)
    refine wpAny_bind (wpAny_seqItems pb rfl (wpAny_bind (wpAny_updateSeq_pair pb fun hc pc sc => ?_)))
    have k3 : ∀ c o, c ≠ z → c ≠ TO → c ≠ i → s.heap.get? c = some o → hc.get? c = some o := fun c o c1 c2 c3 e => sc.extBut _ _ c2 (sb.extBut _ _ c3 (sa.extBut _ _ c1 e))
    refine wpAny_bind (wpAny_letGo (wpAny_pure (wpAny_bind (wpAny_bind (wpAny_onRaise (show wpAny _ _ (Builtin.SmallTypes.nextOf (.ref j) >>= _) _ _ _ from wpAny_bind ?_))))))
    refine sq_stop hh (h2.keep fun o => k3 _ o D.i2z D.TOi2.symm D.i12.symm) (hm.keep fun o => k3 _ o D.l2z D.l2TO D.l2i1) hy fun hd e sd he => ?_
    have zd : IsZip hd z TI TO .ellipsis := sd _ _ D.i2z.symm (sc.extBut _ _ D.TOz.symm (sb.extBut _ _ D.i1z.symm za))
    have ez := fin zd he
    obtain ⟨oe, e1, e2⟩ := he
    exact wpAny_setField_rec zd (by simp) fun hf _ sf => q hf e (fun c o c1 c2 c3 c4 x => sf.extBut _ _ c1 (sd _ _ c4 (k3 c o c1 c2 c3 x))) ⟨oe, sf.extBut _ _ ez e1, e2⟩
theorem zx_pyNext {t u : Bool} {z TI TO i j l m : Addr} {k : Nat} {xs ys : Array Value} {x y : Value} {Q : Option Value → Shared → Prop} (Z : Zx t u s.heap z TI TO i j l m k xs ys) (hx : xs[k]? = some x) (hy : ys[k]? = some y)
    (q : ∀ h', IsZip h' z TI TO (rawInt s.heap.objs.size) → IsPair h' TO x y → IsSqI t h' i l (k + 1) → IsSqI u h' j m (k + 1) → IsPair h' s.heap.objs.size x y → h'.objs.size = s.heap.objs.size + 1 → Keeps z TO i j s.heap h' → Q (some (.ref s.heap.objs.size)) { s with heap := h' }) :
    wpAny (model P w) A (pyNext (.ref z)) Q E s := by
  have ty : s.TypeIs (.ref z) "zip" := ⟨_, Z.z, rfl⟩
  unfold pyNext
  exact wpAny_bind (wpAny_attempt (wpAny_callSpecial?_slot (name := Str.ofString "__next__") ty F.slot_zip_next (wpAny_call_entry F.slot_zip_next ty F.entry_zip_next (zx_next Z hx hy fun h' a1 a2 a3 a4 a5 a6 a7 => wpAny_pure (q h' a1 a2 a3 a4 a5 a6 a7)) (F.args_zip_next_1 _))))
theorem zx_pyStop {t u : Bool} {z TI TO i j l m : Addr} {k : Nat} {xs ys : Array Value} {Q : Option Value → Shared → Prop} (hh : A.handled = none) (Z : Zx t u s.heap z TI TO i j l m k xs ys) (hend : xs[k]? = none ∨ ys[k]? = none)
    (q : ∀ h', Keeps z TO i j s.heap h' → Q none { s with heap := h' }) : wpAny (model P w) A (pyNext (.ref z)) Q E s := by
  have ty : s.TypeIs (.ref z) "zip" := ⟨_, Z.z, rfl⟩
  unfold pyNext
  refine wpAny_bind (wpAny_attempt (wpAny_callSpecial?_slot (name := Str.ofString "__next__") ty F.slot_zip_next (wpAny_call_entry F.slot_zip_next ty F.entry_zip_next (zx_stop hh Z hend fun h' e hk ⟨o, ho, hc⟩ => ?_) (F.args_zip_next_1 _))))
  exact wpAny_bind (wpAny_isInstance (T := "StopIteration") (b := true) ⟨o, ho, hc⟩ isSubtype_stop (wpAny_pure (q _ hk)))
end
/-! the zip, made -/
abbrev zm1 (t : Bool) (h : Heap) (l : Addr) : Heap := h.push (itObj t l)
abbrev zm2 (t u : Bool) (h : Heap) (l m : Addr) : Heap := (zm1 t h l).push (itObj u m)
abbrev zm3 (t u : Bool) (h : Heap) (l m : Addr) : Heap := (zm2 t u h l m).push { cls := .type "tuple", data := .seq #[.ref h.objs.size, .ref (zm1 t h l).objs.size] }
abbrev zm4 (t u : Bool) (h : Heap) (l m : Addr) : Heap := (zm3 t u h l m).push { cls := .type "tuple", data := .seq #[.none, .none] }
abbrev zm5 (t u : Bool) (h : Heap) (l m : Addr) : Heap := (zm4 t u h l m).push { cls := .type "zip", data := .fields #[.none, .bool false, .bool false, .ref (zm2 t u h l m).objs.size, .ref (zm3 t u h l m).objs.size] }
theorem zx_meets (t u : Bool) (l m : Addr) (xs ys : Array Value) : Meets (Builtin.«zip.__new__» ⟨[.type "zip", .ref l, .ref m], []⟩) (fun _ R s => IsSq t s.heap l xs ∧ IsSq u s.heap m ys ∧ R (.ok (.ret (.ref (zm4 t u s.heap l m).objs.size))) { s with heap := zm5 t u s.heap l m }) :=
  .of_wp fun prog w A R s h => by
    obtain ⟨hp, g, d, tk, os⟩ := s
    obtain ⟨ha, hb, q⟩ := h
    have sz := sub_zip
    cases t <;> cases u
    · have ia : Heap.IsList (Shared.heap ⟨hp, g, d, tk, os⟩) l xs := ha
      have ib : Heap.IsList (Shared.heap ⟨hp.push { cls := .type "list_iterator", data := .fields #[.ref l, .int 0 0] }, g, d, tk, os⟩) m ys := Heap.IsList.push hb _
      wp_walk using wpAny_pyIter_list ia, wpAny_pyIter_list ib
      exact ⟨_, rfl, q⟩
    · have ia : Heap.IsList (Shared.heap ⟨hp, g, d, tk, os⟩) l xs := ha
      have ib : Heap.IsTuple (Shared.heap ⟨hp.push { cls := .type "list_iterator", data := .fields #[.ref l, .int 0 0] }, g, d, tk, os⟩) m ys := Heap.IsTuple.push hb _
      wp_walk using wpAny_pyIter_list ia, wpAny_pyIter_tuple ib
      exact ⟨_, rfl, q⟩
    · have ia : Heap.IsTuple (Shared.heap ⟨hp, g, d, tk, os⟩) l xs := ha
      have ib : Heap.IsList (Shared.heap ⟨hp.push { cls := .type "tuple_iterator", data := .fields #[.ref l, .int 0 0] }, g, d, tk, os⟩) m ys := Heap.IsList.push hb _
      wp_walk using wpAny_pyIter_tuple ia, wpAny_pyIter_list ib
      exact ⟨_, rfl, q⟩
    · have ia : Heap.IsTuple (Shared.heap ⟨hp, g, d, tk, os⟩) l xs := ha
      have ib : Heap.IsTuple (Shared.heap ⟨hp.push { cls := .type "tuple_iterator", data := .fields #[.ref l, .int 0 0] }, g, d, tk, os⟩) m ys := Heap.IsTuple.push hb _
      wp_walk using wpAny_pyIter_tuple ia, wpAny_pyIter_tuple ib
      exact ⟨_, rfl, q⟩
theorem zx_made {P : Program} {w : World} {A : Around} {E : Value → Shared → Prop} {s : Shared} {t u : Bool} {l m : Addr} {xs ys : Array Value} {Q : Value → Shared → Prop} (ha : IsSq t s.heap l xs) (hb : IsSq u s.heap m ys) (la : l < s.heap.objs.size) (lb : m < s.heap.objs.size)
    (q : ∀ h' z TI TO i j, (∀ c ∈ [z, TI, TO, i, j], s.heap.objs.size ≤ c) → Zx t u h' z TI TO i j l m 0 xs ys → (∀ c o, s.heap.get? c = some o → h'.get? c = some o) → Q (.ref z) { s with heap := h' }) :
    wpAny (model P w) A (call (.type "zip") [.ref l, .ref m]) Q E s := by
  refine callType_new F.called_zip (by decide) (F.typeCall_zip_2 _ _) (F.newCall_zip_2 _ _) (fun obj => F.args_object_init_3 obj _ _) F.entry_zip_new (zx_meets t u l m xs ys) ⟨ha, hb, ?_⟩
  generalize hn : s.heap.objs.size = n at la lb q
  have n1 : (zm1 t s.heap l).objs.size = n + 1 := by rw [← hn]; exact Heap.size_push ..
  have n2 : (zm2 t u s.heap l m).objs.size = n + 2 := by rw [Heap.size_push, n1]
  have n3 : (zm3 t u s.heap l m).objs.size = n + 3 := by rw [Heap.size_push, n2]
  have n4 : (zm4 t u s.heap l m).objs.size = n + 4 := by rw [Heap.size_push, n3]
  have up : ∀ c o, s.heap.get? c = some o → (zm5 t u s.heap l m).get? c = some o := fun c o x => Heap.get?_push_of_some _ (Heap.get?_push_of_some _ (Heap.get?_push_of_some _ (Heap.get?_push_of_some _ (Heap.get?_push_of_some _ x))))
  have e5 : (zm5 t u s.heap l m).get? (zm4 t u s.heap l m).objs.size = some _ := Heap.get?_push_size _ rfl
  have e4 : (zm5 t u s.heap l m).get? (zm3 t u s.heap l m).objs.size = some _ := Heap.get?_push_of_some _ (Heap.get?_push_size _ rfl)
  have e3 : (zm5 t u s.heap l m).get? (zm2 t u s.heap l m).objs.size = some _ := Heap.get?_push_of_some _ (Heap.get?_push_of_some _ (Heap.get?_push_size _ rfl))
  have e2 : (zm5 t u s.heap l m).get? (zm1 t s.heap l).objs.size = some (itObj u m) := Heap.get?_push_of_some _ (Heap.get?_push_of_some _ (Heap.get?_push_of_some _ (Heap.get?_push_size _ (by cases u <;> rfl))))
  have e1 : (zm5 t u s.heap l m).get? s.heap.objs.size = some (itObj t l) := Heap.get?_push_of_some _ (Heap.get?_push_of_some _ (Heap.get?_push_of_some _ (Heap.get?_push_of_some _ (Heap.get?_push_size _ (by cases t <;> rfl)))))
  rw [hn] at e1
  rw [n1] at e2 e3
  rw [n2] at e3 e5
  rw [n3] at e4 e5
  rw [n4] at e5 ⊢
  have D : ZipApart (n + 4) (n + 2) (n + 3) n (n + 1) l m := PySem.W.ktu_apart n l m la lb
  refine ⟨⟨_, e5, rfl⟩, q _ (n + 4) (n + 2) (n + 3) n (n + 1) (fun c hc => ?_) ⟨D, e5, by rw [hn] at e3; exact e3, ⟨_, _, e4⟩, isSqI_new e1, isSqI_new e2, ha.keep fun o => up _ o, hb.keep fun o => up _ o⟩ up⟩
  have hc2 : c = n + 4 ∨ c = n + 2 ∨ c = n + 3 ∨ c = n ∨ c = n + 1 := by simpa using hc
  rcases hc2 with rfl | rfl | rfl | rfl | rfl
  · exact Nat.le_add_right _ _
  · exact Nat.le_add_right _ _
  · exact Nat.le_add_right _ _
  · exact Nat.le_refl _
  · exact Nat.le_add_right _ _
end DL

set_option Elab.async false
set_option linter.all false
set_option maxRecDepth 100000
set_option maxHeartbeats 4000000
/-! rows: lists or tuples -/
namespace DL
open PySem PySem.Spec PyProof.Rows L2
def SqA (K : PySem.W.Frag) (H : Hp) (a : Addr) (xs : List V) : Prop := SqL K H a xs ∨ SqT K H a xs
theorem SqA.mono {K : PySem.W.Frag} {H H' : Hp} {a : Addr} {xs : List V} (s : Same H H') (h : SqA K H a xs) : SqA K H' a xs := h.elim (fun z => .inl (s.seq z)) fun z => .inr (sqt_mono s z)
def rSeq (K : PySem.W.Frag) (l : List Rep) : Rep := ⟨fun F x => ∃ a vs, x = .ref a ∧ SqA K F a vs ∧ RL F l vs, fun s ⟨a, vs, e, h, q⟩ => ⟨a, vs, e, h.mono s, q.mono s⟩⟩
theorem sub_lseq {K : PySem.W.Frag} {l : List Rep} : Sub (rLst K l) (rSeq K l) := fun F v ⟨a, vs, e, h, q⟩ => ⟨a, vs, e, .inl h, q⟩
theorem sub_tseq {K : PySem.W.Frag} {l : List Rep} : Sub (rTup K l) (rSeq K l) := fun F v ⟨a, vs, e, h, q⟩ => ⟨a, vs, e, .inr h, q⟩
def SqB (t : Bool) (K : PySem.W.Frag) (H : Hp) (a : Addr) (xs : List V) : Prop := if t = true then SqT K H a xs else SqL K H a xs
theorem SqB.mono {t : Bool} {K : PySem.W.Frag} {H H' : Hp} {a : Addr} {xs : List V} (s : Same H H') (h : SqB t K H a xs) : SqB t K H' a xs := by
  cases t with
  | true => exact sqt_mono s h
  | false => exact s.seq (show SqL K H a xs from h)
theorem SqA.b {K : PySem.W.Frag} {H : Hp} {a : Addr} {xs : List V} (h : SqA K H a xs) : ∃ t, SqB t K H a xs := h.elim (fun z => ⟨false, z⟩) fun z => ⟨true, z⟩
section
variable {X : Cx} {pins : List (Addr × Obj)} {σ : L2.St} {H : Hp} {s : Shared} {a : Addr} {xs ys : List V} {t : Bool}
theorem inv_sq (I : Inv X pins σ H s) (h : SqB t X.K H a xs) : ∃ its : List Value, Vals xs its ∧ IsSq t s.heap a its.toArray ∧ a < s.heap.objs.size := by
  cases t with
  | false =>
    obtain ⟨its, r, p, _⟩ := I.list (show SqL X.K H a xs from h)
    exact ⟨its, r, p.isList, p.lt⟩
  | true =>
    obtain ⟨its, r, p, _⟩ := I.tuple (show SqT X.K H a xs from h)
    obtain ⟨o, e, _⟩ := id p
    exact ⟨its, r, p, Heap.lt_size e⟩
theorem sq_inj (I : Inv X pins σ H s) (h : SqB t X.K H a xs) (h2 : SqB t X.K H a ys) : xs = ys := by
  cases t with
  | false => exact I.list_inj h h2
  | true => exact I.tuple_inj h h2
end
/-! walked -/
section
variable {X : Cx} {tg it : Expr}
/-! zip -/
def ItZ (t u : Bool) (K : PySem.W.Frag) (a b : Addr) : It :=
  ⟨fun i H => ∃ (xs ys : List V) (x y : V), SqB t K H a xs ∧ SqB u K H b ys ∧ xs[i]? = some x ∧ ys[i]? = some y,
    fun i H v H' => ∃ T x y, v = .ref T ∧ H T = none ∧ H' = upd H T (.tup [x, y]) ∧ (∀ xs, SqB t K H a xs → xs[i]? = some x) ∧ ∀ ys, SqB u K H b ys → ys[i]? = some y,
    fun i H => ∃ xs ys : List V, SqB t K H a xs ∧ SqB u K H b ys ∧ (xs.length ≤ i ∨ ys.length ≤ i)⟩
theorem turn_zx {P : Program} {w : World} {K : PySem.W.Frag} {elts : List Expr} {kk : Nat} {tpos : Pos} {t u : Bool} {a b z TI TO i1 i2 : Addr} (D : ZipApart z TI TO i1 i2 a b) :
    Turn P w K (.Tuple elts kk tpos) (ItZ t u K a b) [z, TI, TO, i1, i2] z (fun i h => IsZip h z TI TO .none ∧ IsPair h TI (.ref i1) (.ref i2) ∧ (∃ x y, IsPair h TO x y) ∧ IsSqI t h i1 a i ∧ IsSqI u h i2 b i) where
  mem := by simp
  obj := fun i h ⟨hz, hTI, ⟨x, y, hTO⟩, h1, h2⟩ c hc => by
    have e' : c = z ∨ c = TI ∨ c = TO ∨ c = i1 ∨ c = i2 := by simpa using hc
    rcases e' with q | q | q | q | q <;> subst q
    · exact ⟨_, hz, fun v q => nomatch q⟩
    · exact ⟨_, hTI, fun v q => nomatch q⟩
    · exact ⟨_, hTO, fun v q => nomatch q⟩
    · exact h1.ob
    · exact h2.ob
  keep := fun i h h' ⟨hz, hTI, ⟨x, y, hTO⟩, h1, h2⟩ k => ⟨k z (by simp) _ hz, k TI (by simp) _ hTI, ⟨x, y, k TO (by simp) _ hTO⟩, h1.keep fun o q => k i1 (by simp) o q, h2.keep fun o q => k i2 (by simp) o q⟩
  item := by
    intro X hP hw hK hc i pins s σ H E I hf st hg
    subst hP hw hK
    obtain ⟨hz, hTI, hTO, h1, h2⟩ := st
    obtain ⟨xs, ys, x, y, qx, qy, hx, hy⟩ := hg
    obtain ⟨its, rv, p, _⟩ := inv_sq I qx
    obtain ⟨its2, rv2, p2, _⟩ := inv_sq I qy
    obtain ⟨a1, hu, ra⟩ := rv.get hx
    obtain ⟨a2, hu2, rb⟩ := rv2.get hy
    have lz : z < s.heap.objs.size := Heap.lt_size hz
    refine zx_pyNext ⟨D, hz, hTI, hTO, h1, h2, p, p2⟩ (x := a1) (y := a2) (by simpa using hu) (by simpa using hu2) fun h' z' to' i' j' pn sz kp => ⟨_, rfl, wpAny_letOwnedTupleGo_zip (s := { s with heap := h' }) z' fun h2' z2' sb => ?_⟩
    have pn2 : IsPair h2' s.heap.objs.size a1 a2 := (sb.2 _ (Nat.ne_of_gt lz)).trans pn
    have new : ObjOk X.prog X.w (upd H s.heap.objs.size (.tup [x, y])) h2' s.heap.objs.size (.tup [x, y]) := ⟨by show 2 ≤ sizeLine; decide, [a1, a2], .cons ra (.cons rb .nil), ⟨_, pn2, rfl, _, rfl⟩⟩
    have no : ∀ {c : Addr}, c ∉ [z, TI, TO, i1, i2] → c ≠ z ∧ c ≠ TO ∧ c ≠ i1 ∧ c ≠ i2 := fun hc => by simp at hc; exact ⟨hc.1, hc.2.2.1, hc.2.2.2.1, hc.2.2.2.2⟩
    have I1 : Inv X pins σ (upd H s.heap.objs.size (.tup [x, y])) { s with heap := h2' } :=
      I.turnedNew (t' := s.toks) (ch := [z, TI, TO, i1, i2]) (fun c o hb q => by
        obtain ⟨c1, c2, c3, c4⟩ := no hb
        exact (sb.2 c c1).trans (kp c o c1 c2 c3 c4 q)) hf (Nat.le_refl _) new
    refine ⟨.ref s.heap.objs.size, _, I1, rfl, ⟨_, x, y, rfl, I.hok.fresh (Nat.le_refl _), rfl, fun l hl => by rw [sq_inj I hl qx]; exact hx, fun l hl => by rw [sq_inj I hl qy]; exact hy⟩, ⟨z2', ?_, ⟨a1, a2, ?_⟩, ?_, ?_⟩, fun c hc => ?_⟩
    · exact (sb.2 _ D.TIz).trans (kp _ _ D.TIz D.TITO D.TIi1 D.TIi2 hTI)
    · exact (sb.2 _ D.TOz).trans to'
    · exact i'.keep fun o q => (sb.2 _ D.i1z).trans q
    · exact j'.keep fun o q => (sb.2 _ D.i2z).trans q
    · have lc : c < s.heap.objs.size := by
        have e' : c = z ∨ c = TI ∨ c = TO ∨ c = i1 ∨ c = i2 := by simpa using hc
        obtain ⟨x0, y0, hTO⟩ := hTO
        rcases e' with q | q | q | q | q <;> subst q
        · exact lz
        · exact Heap.lt_size hTI
        · exact Heap.lt_size hTO
        · obtain ⟨_, e1, _⟩ := h1.ob; exact Heap.lt_size e1
        · obtain ⟨_, e2, _⟩ := h2.ob; exact Heap.lt_size e2
      rw [upd_ne (Nat.ne_of_lt lc)]
      exact (hf c hc).1
  done := by
    intro X hP hw hK hc i pins s σ H E I hf st hg
    subst hP hw hK
    obtain ⟨hz, hTI, hTO, h1, h2⟩ := st
    obtain ⟨xs, ys, qx, qy, hend⟩ := hg
    obtain ⟨its, rv, p, _⟩ := inv_sq I qx
    obtain ⟨its2, rv2, p2, _⟩ := inv_sq I qy
    have l1 := rv.length
    have l2 := rv2.length
    have he : its.toArray[i]? = none ∨ its2.toArray[i]? = none := hend.elim (fun q => .inl (by simp; omega)) fun q => .inr (by simp; omega)
    refine zx_pyStop (I.ok.hd hc) ⟨D, hz, hTI, hTO, h1, h2, p, p2⟩ he fun h' kp => ⟨rfl, I.turnedL (t' := s.toks) (ch := [z, TI, TO, i1, i2]) (fun c o hb q => ?_) hf⟩
    simp at hb
    exact kp c o hb.1 hb.2.2.1 hb.2.2.2.1 hb.2.2.2.2 q
  self := fun A i s Q E st h => wpAny_pyIter_zip st.1 h
theorem pi_zx {e e2 : Expr} {ta : TA} {p pos tpos : Pos} {elts : List Expr} {kk : Nat} (hg : Gl X "zip") (hm : X.mg "zip" = none) (ha : PA X [e, e2] ta)
    (hs : starEach [e, e2] X.env = (false, eval e X.env) :: starEach [e2] X.env := by rfl) (hpl : (backTo pos (starEach [e2] X.env)).any (·.1) = false := by rfl) :
    PI X (.Tuple elts kk tpos) (.Call (.Name "zip" p) [e, e2] [] pos) (fun σ H R => ta σ H fun vs H1 => ∃ a b xs ys t u, vs = [.ref a, .ref b] ∧ SqB t X.K H1 a xs ∧ SqB u X.K H1 b ys ∧ R (ItZ t u X.K a b) H1) := by
  refine ⟨fun pins s σ H R I h => Call_ (ld_blt I hg hm PyProof.Rows.boot_zip (PyProof.Rows.callWith_type1 (thn (ha.run pos pins s σ H _ I h) fun us s1 ⟨vs, H1, I1, r1, a, b, xs, ys, t, u, ex, qx, qy, q⟩ => ?_) hs hpl))⟩
  subst ex
  cases r1 with
  | cons ra rr =>
    cases rr with
    | cons rb rr =>
    cases rr
    cases ra
    cases rb
    obtain ⟨its, rv, p1, l1⟩ := inv_sq I1 qx
    obtain ⟨its2, rv2, p2, l2⟩ := inv_sq I1 qy
    refine zx_made p1 p2 l1 l2 fun h' z TI TO i j hi Z kp => wpAny_pyIter_zip Z.z ?_
    exact ⟨z, [z, TI, TO, i, j], _, _, H1, rfl, I1.kept (t' := s1.toks) kp, turn_zx Z.D, ⟨Z.z, Z.ti, Z.to, Z.i, Z.j⟩, fun c hc => I1.fpOk (hi c hc) (I1.hok.fresh (hi c hc)), q⟩
end
section
variable {X : Cx} {N : List Str} {sc : Scope} {k j : Nat} {Γ Γ' Γ1 : List Sl} {tg it it2 a b c e : Expr} {es rest : List Expr} {r ra rb rc r' : Rep} {rs l l2 : List Rep} {pos p : Pos} {x : Str} {i : Nat} {ws ws' : List Nat}
theorem sr_zipS {jj : Nat} {tpos : Pos} (B : BX X N sc k) (hm : X.mg "zip" = none) (h : DE X Γ it (rSeq X.K l)) (h2 : DE X Γ it2 (rSeq X.K l2)) (hg : sc.names.lookup ("zip" : Str) = some NameKind.globalImplicit)
    (hs : starEach [it, it2] X.env = (false, eval it X.env) :: starEach [it2] X.env := by rfl) (hs2 : starEach [it2] X.env = (false, eval it2 X.env) :: starEach [] X.env := by rfl) (hpl : (backTo pos (starEach [it2] X.env)).any (·.1) = false := by rfl) :
    SR X Γ (.Tuple es jj tpos) (.Call (.Name "zip" p) [it, it2] [] pos) (min l.length l2.length) (fun i => rTup X.K [l.getD i rNon, l2.getD i rNon]) := fun F0 H0 F H σ en R q => by
  have hgl : Gl X "zip" := by
    show X.env.scope.names.lookup _ = _
    rw [B.hsc]
    exact hg
  refine .of (pi_zx hgl hm (pa_cons pe_ev (pa_cons pe_ev pa_nil hs2) hs) hs hpl) (h F0 H0 F H σ en _ fun v F1 H1 g hv => h2 F0 H0 F1 H1 σ (en.grow g) _ fun v2 F3 H3 g3 hv2 => ?_)
  obtain ⟨p, vs, rfl, hsq, hl⟩ := hv
  obtain ⟨p2, vs2, rfl, hsq2, hl2⟩ := hv2
  obtain ⟨t, hsq⟩ := (hsq.mono g3.f).b
  obtain ⟨u, hsq2⟩ := hsq2.b
  have hl := hl.mono g3.f
  refine ⟨p, p2, vs, vs2, t, u, rfl, hsq.mono g3.s, hsq2.mono g3.s, q _ F3 H3 (g.trans g3) ⟨fun i H2 s hi => ⟨vs, vs2, hsq.mono s, hsq2.mono s, ?_⟩, fun i H2 s hi => ?_, fun i F2 H2 x H' s s2 hi hy => ?_⟩⟩
  · rw [← hl.len, ← hl2.len]
    omega
  · have h3 := hl.len
    have h4 := hl2.len
    exact ⟨vs, vs2, vs[i]'(by omega), vs2[i]'(by omega), hsq.mono s, hsq2.mono s, List.getElem?_eq_getElem _, List.getElem?_eq_getElem _⟩
  · obtain ⟨T, y, z, rfl, nT, rfl, f1, f2⟩ := hy
    obtain ⟨r1, e1, k1⟩ := hl.got (f1 vs ((hsq.mono s).mono s2))
    obtain ⟨r2, e2, k2⟩ := hl2.got (f2 vs2 ((hsq2.mono s).mono s2))
    refine ⟨_, .new s2 nT, T, [y, z], rfl, SqT.of upd_same, ?_⟩
    have sn : Same F2 (upd F2 T (.tup [y, z])) := same_new (s2.free nT)
    rw [List.getD_eq_getElem?_getD, List.getD_eq_getElem?_getD, e1, e2]
    exact .cons (r1.mono (s.trans sn) k1) (.cons (r2.mono (s.trans sn) k2) .nil)
theorem de_ixA {n : Int} (h : atI l n = some r) (ha : DE X Γ a (rSeq X.K l)) (hb : DE X Γ b (rInt n)) (hs : PlainIx b := by exact fun _ _ => rfl) : DE X Γ (.Subscript a b pos) r :=
  de_ixr ix_seq (fun F H x y s h1 h2 Q q => by
    obtain ⟨p, vs, rfl, k1, k2⟩ := h1
    cases h2
    obtain ⟨v, k3, k4⟩ := k2.atI h
    rcases k1 with k1 | k1
    · exact .inl ⟨p, vs, n, v, rfl, rfl, s.seq k1, k3, q v F H (.refl s) k4⟩
    · exact .inr (.inl ⟨p, vs, n, v, rfl, rfl, sqt_mono s k1, k3, q v F H (.refl s) k4⟩)) ha hb hs
theorem dl_listA (B : BX X N sc k) (hm : X.mg "list" = none) (h : DE X Γ e (rSeq X.K l)) (hg : sc.names.lookup ("list" : Str) = some NameKind.globalImplicit) (he : starEach (e :: []) X.env = (false, eval e X.env) :: starEach [] X.env := by rfl) : DL X Γ (.Call (.Name "list" p) [e] [] pos) l := fun F0 H0 F H σ en Q q => by
  have hgl : Gl X "list" := by
    show X.env.scope.names.lookup _ = _
    rw [B.hsc]
    exact hg
  refine .of (pe_callTy call_list_of hgl hm (by decide +kernel) (pa_cons pe_ev pa_nil he) (he := he)) (h F0 H0 F H σ en _ fun v F1 H1 g hv => ?_)
  obtain ⟨p, vs, rfl, k1, k2⟩ := hv
  exact ⟨p, vs, rfl, SqA.mono g.s k1, fun q' hq => q q' vs F1 _ (g.trans (.newOwn g.s hq)) (g.h.free hq) (g.s.free hq) upd_same k2⟩
end
end DL

set_option Elab.async false
set_option linter.all false
set_option maxRecDepth 100000
set_option maxHeartbeats 4000000
/-! objects of the program's own classes: read, made -/
namespace DL
open PySem PySem.Spec PyProof.Rows L2
/-- an object that stands still: its class, its fields -/
def rIns (K : PySem.W.Frag) (C : Addr) (fs : List (Str × Rep)) : Rep := ⟨fun F x => ∃ a dx vs, x = .ref a ∧ F a = some (.ins C dx ((fs.map Prod.fst).zip vs)) ∧ RL F (fs.map Prod.snd) vs, fun s ⟨a, dx, vs, e, h, q⟩ => ⟨a, dx, vs, e, s _ _ h, q.mono s⟩⟩
/-- what is known of such a class -/
structure OCls (K : PySem.W.Frag) (C : Addr) (fs : List Str) : Prop where
  cl : Cls K C
  na : ∀ f ∈ fs, NoAttr K C f
theorem rl_lookup {F : Hp} : ∀ {fs : List (Str × Rep)} {vs : List V} {f : Str} {r : Rep}, RL F (fs.map Prod.snd) vs → fs.lookup f = some r → ∃ v, ((fs.map Prod.fst).zip vs).lookup f = some v ∧ r.P F v
  | [], _, _, _, _, h => by cases h
  | (g, r0) :: fs, v :: vs, f, r, .cons h t, e => by
    rw [List.lookup_cons] at e
    show ∃ w, List.lookup f ((g, v) :: (fs.map Prod.fst).zip vs) = some w ∧ _
    rw [List.lookup_cons]
    cases hb : f == g with
    | true => rw [hb] at e; cases e; exact ⟨v, rfl, h⟩
    | false => rw [hb] at e; exact rl_lookup t e
section
variable {X : Cx} {N : List Str} {sc : Scope} {k j : Nat} {Γ : List Sl} {a b c e : Expr} {es rest : List Expr} {r ra rb rc r' : Rep} {rs l : List Rep} {pos p pos' : Pos} {x : Str} {i : Nat} {C : Addr} {f : Str} {fs : List (Str × Rep)} {fn : List Str}
theorem de_fld (O : OCls X.K C fn) (h : DE X Γ e (rIns X.K C fs)) (hf : fs.lookup f = some r) (hn : f ∈ fn := by decide) (hb : attributeBase e f X.env (eval e X.env) = eval e X.env := by rfl) : DE X Γ (.Attribute e f pos) r := fun F0 H0 F H σ en Q q =>
  .of (pe_fld pe_ev hb) (h F0 H0 F H σ en _ fun v F1 H1 g hv => by
    obtain ⟨a, dx, vs, rfl, h1, h2⟩ := hv
    obtain ⟨w, e1, e2⟩ := rl_lookup h2 hf
    exact ⟨a, C, dx, _, w, rfl, g.s _ _ h1, O.cl, O.na f hn, e1, q w F1 H1 g e2⟩)
end
/-! ### making one -/
/-- what an __init__ promises: its fields in their order, or an error -/
inductive OutI where
  | ok (rs : List Rep)
  | err (C : Addr)
  | errF (C : Addr) (fs : List (Str × V))
def PrI (F H : Hp) (p C dx : Addr) (ns : List Str) : OutI → VK → XK → Prop
  | .ok rs, Q, _ => ∀ F' H' vs, Gr F H F' H' → F' p = none → H' p = some (.ins C dx (ns.zip vs)) → RL F' rs vs → Q .non H'
  | .err D, _, E => ∀ H', Same H H' → E (.ref D) none H'
  | .errF D fs, _, E => ∀ H' d, Same H H' → H d = none → H' d = some (.xd fs) → E (.ref D) (some d) H'
def PmI {ι : Type} (C : Addr) (pre : ι → Prop) (args : ι → List Rep) (ns : List Str) (out : ι → OutI) : Sp := fun vs H Q E => ∃ (x : ι) (F H0 : Hp) (p dx : Addr) (vs' : List V), vs = .ref p :: vs' ∧ pre x ∧ Same F H0 ∧ H0 p = none ∧ H0 dx = none ∧ dx ≠ p ∧ H = upd (upd H0 dx (.own p)) p (.ins C dx []) ∧ RL F (args x) vs' ∧ PrI F H0 p C dx ns (out x) Q E
/-- a class whose objects may be made by its name -/
structure CalI (P : Program) (w : World) (K : PySem.W.Frag) (mg : Str → Option Value) (base : Heap) (k : Nat) (x : Str) (C : Addr) (sp : Sp) : Prop where
  ex : ∃ (f : Addr) (fd : FuncData) (ps : List Str), FnOk P w K mg base (L2.CX P w) k f fd ps sp ∧ Mk K C f ∧ mg x = some (.ref C) ∧ Binds K fd ps []
section
variable {X : Cx} {N : List Str} {sc : Scope} {k j : Nat} {Γ : List Sl} {a b c e : Expr} {es rest : List Expr} {r ra rb rc r' : Rep} {rs l : List Rep} {pos p pos' : Pos} {x : Str} {i : Nat} {C D0 : Addr} {f : Str} {W : WX} {ns : List Str}
variable {ι : Type} {pre : ι → Prop} {args : ι → List Rep} {out : ι → OutI}
/-- an object just made stands still -/
theorem gr_made {F1 H1 F' H' : Hp} {p dx : Addr} {fs : List (Str × V)} (np : H1 p = none) (g : Gr F1 H1 F' H') (nf : F' p = none) (hp : H' p = some (.ins C dx fs)) : Gr F1 H1 (upd F' p (.ins C dx fs)) H' :=
  ⟨g.f.trans (same_new nf), g.h, fun b o z => by
    by_cases hb : b = p
    · subst hb
      rw [upd_same] at z
      rw [hp, ← z]
    · rw [upd_ne hb] at z
      exact g.s b o z, fun a ha z => by
    have : a ≠ p := fun y => ha (y ▸ np)
    rw [upd_ne this]
    exact g.n a ha z⟩
theorem de_make (okr : ι → List Rep) (B : BX X N sc k) (G : CalI X.prog X.w X.K X.mg X.base j x C (PmI C pre args ns out)) (hk : j + 1 ≤ k) (g : ι) (hp : pre g) (ho : out g = .ok (okr g)) (hl : ns.length = (okr g).length) (ha : DA X Γ (e :: es) (args g)) (hg : sc.names.lookup x = some .globalImplicit)
    (hdb : (x == ("__debug__" : Str)) = false := by decide) (he : starEach (e :: es) X.env = (false, eval e X.env) :: starEach es X.env := by rfl) (hpl : (backTo pos (starEach es X.env)).any (·.1) = false := by rfl) :
    DE X Γ (.Call (.Name x p) (e :: es) [] pos) (rIns X.K C (ns.zip (okr g))) := fun F0 H0 F H σ en Q q => by
  obtain ⟨f, fd, ps, G, M, hm, hb⟩ := G.ex
  have hgl : Gl X x := by
    show X.env.scope.names.lookup x = _
    rw [B.hsc]
    exact hg
  refine .of (pe_make (E := E0) M G (B.room.mono hk) hgl hm hb .nil passL pa_ev hdb he hpl) ?_
  refine ha F0 H0 F H σ en _ fun vs F1 H1 g1 h1 => fun p dx np ndx hne => ?_
  rw [List.append_nil]
  refine ⟨g, F1, H1, p, dx, vs, rfl, hp, g1.s, np, ndx, hne, rfl, h1, ?_⟩
  rw [ho]
  refine fun F' H' ws g2 nf hp' hr => ⟨rfl, ?_⟩
  have g3 := gr_made np g2 nf hp'
  have n1 : ((ns.zip (okr g)).map Prod.fst) = ns := List.map_fst_zip (by omega)
  have n2 : ((ns.zip (okr g)).map Prod.snd) = okr g := List.map_snd_zip (by omega)
  exact q _ _ _ (g1.trans g3) ⟨p, dx, ws, rfl, by rw [n1]; exact upd_same, by rw [n2]; exact hr.mono (same_new nf)⟩
end
/-! ### its body -/
section
variable {X : Cx} {N : List Str} {sc : Scope} {k : Nat} {Γ : List Sl} {e : Expr} {r : Rep} {pos p pos' : Pos} {x : Str} {i : Nat} {C pa dx : Addr} {f : Str} {F0 H0 : Hp} {st : List Stmt} {D : Ends} {fn ns : List Str} {rs : List Rep}
/-- the fields that stand so far -/
def FI (X : Cx) (F0 H0 : Hp) (pa C dx : Addr) (ns : List Str) (rs : List Rep) (st : List Stmt) (D : Ends) (Γ : List Sl) : Prop := ∀ F H σ vs, En F0 H0 F H σ Γ → F pa = none → H pa = some (.ins C dx (ns.zip vs)) → RL F rs vs → XS X st D σ H
theorem En.updOb {F H : Hp} {σ : L2.St} (en : En F0 H0 F H σ Γ) (n0 : H0 pa = none) (nF : F pa = none) {o o' : HO} (hp : H pa = some o) (no : ∀ l, o ≠ .lst l) : En F0 H0 F (upd H pa o') σ Γ where
  gr := ⟨en.gr.f, fun b u z => by rw [upd_ne (ne_of_none z n0)]; exact en.gr.h b u z, same_out en.gr.s nF, en.gr.n⟩
  len := en.len
  ok i s y h1 h2 := by
    have q := en.ok i s y h1 h2
    cases s with
    | any => trivial
    | im r => exact q
    | ow l =>
      obtain ⟨p2, ws, a, b, c, d⟩ := q
      refine ⟨p2, ws, a, b, ?_, d⟩
      have : p2 ≠ pa := fun z => by
        rw [z, hp] at c
        exact no _ (Option.some.inj c)
      rw [upd_ne this]
      exact c
  own := en.own
  sep := en.sep
theorem putF_snoc {f : Str} {v : V} : ∀ {ns : List Str} {vs : List V}, ns.length = vs.length → f ∉ ns → putF f v (ns.zip vs) = (ns ++ [f]).zip (vs ++ [v])
  | [], [], _, _ => rfl
  | g :: ns, y :: vs, h, hn => by
    have h1 : ¬ g = f := fun z => hn (z ▸ List.mem_cons_self ..)
    show (if g = f then (g, v) :: ns.zip vs else (g, y) :: putF f v (ns.zip vs)) = _
    rw [if_neg h1, putF_snoc (by simpa using h) (fun z => hn (List.mem_cons_of_mem _ z))]
    rfl
theorem fi_set (B : BX X N sc k) (O : OCls X.K C fn) (n0 : H0 pa = none) (hl : ns.length = rs.length) (he : DE X Γ e r) (hΓ : Γ[i]? = some (.im (rC (.ref pa)))) (hN : N[i]? = some x) (hv : Vis sc x) (h : FI X F0 H0 pa C dx (ns ++ [f]) (rs ++ [r]) st D Γ) (hf : f ∈ fn := by decide) (hfn : f ∉ ns := by decide) (h10 : ns.length < 1000 := by decide)
    (hd : (x == ("__debug__" : Str)) = false := by decide) (hcd : (x == ("__classdict__" : Str)) = false := by decide) (hs : swapsWith e (some (.Attribute (.Name x p) f pos')) pos.line X.env = pure false := by rfl) :
    FI X F0 H0 pa C dx ns rs (.Assign [.Attribute (.Name x p) f pos'] e pos :: st) D Γ := fun F H σ vs en nF hp hr => by
  refine .of (pss_cons (ps_fld (pe_var (i := i) (B.hN ▸ hN) (B.hsc ▸ hv) hd hcd) pe_ev hs) pss_ev) ?_
  refine he F0 H0 F H σ en _ fun v F1 H1 g hv1 => ?_
  have en1 := en.grow g
  obtain ⟨u, h1, h2⟩ := en1.im hΓ
  cases h2
  have hp1 := g.h _ _ hp
  have nF1 : F1 pa = none := g.n pa (by rw [hp]; exact nofun) nF
  have ll : ns.length = vs.length := hl.trans hr.len
  refine ⟨_, h1, pa, C, dx, _, rfl, hp1, O.cl, O.na f hf, by rw [List.length_zip]; omega, ?_⟩
  refine h F1 _ σ (vs ++ [v]) (en1.updOb n0 nF1 hp1 (fun _ => nofun)) nF1 (by rw [upd_same, putF_snoc ll hfn]) ((hr.mono g.f).snoc hv1)
theorem fi_end (h : ∀ F H σ vs, Gr F0 H0 F H → F pa = none → H pa = some (.ins C dx (ns.zip vs)) → RL F rs vs → D.nx σ H) : FI X F0 H0 pa C dx ns rs [] D Γ := fun F H σ vs en nF hp hr => .of pss_nil (h F H σ vs en.gr nF hp hr)
/-- from here on the fields are stored -/
theorem go_fields {H1 : Hp} (n0 : H0 pa = none) (nd : H0 dx = none) (nF : F0 pa = none) (e1 : H1 = upd (upd H0 dx (.own pa)) pa (.ins C dx [])) (hne : dx ≠ pa) (h : FI X F0 H0 pa C dx [] [] st D Γ) : GO X F0 H1 st D Γ := fun F H σ en => by
  have a1 : H1 pa = some (.ins C dx []) := by rw [e1]; exact upd_same
  have up : Same H0 H1 := by
    rw [e1]
    exact (same_new nd).trans (same_new (by rw [upd_ne (Ne.symm hne)]; exact n0))
  have low : ∀ {q : Addr}, H1 q = none → H0 q = none := fun {q} z => up.free z
  refine h F H σ [] ⟨⟨en.gr.f, up.trans en.gr.h, en.gr.s, fun a ha z => en.gr.n a (fun y => ha (low y)) z⟩, en.len, en.ok, fun i q l x1 x2 => low (en.own i q l x1 x2), en.sep⟩ (en.gr.n pa (by rw [a1]; exact nofun) nF) (en.gr.h _ _ a1) .nil
end
section
variable {P : Program} {w : World} {K : PySem.W.Frag} {mg : Str → Option Value} {base : Heap} {k : Nat} {x q : Str} {st : Stmt} {N ps ns : List Str} {C : Addr} {ι : Type} {pre : ι → Prop} {args : ι → List Rep} {out : ι → OutI}
/-- the class's facts and its __init__ -/
structure TI (K : PySem.W.Frag) (mg : Str → Option Value) (x q : Str) (C : Addr) (st : Stmt) (fn : List Str) : Prop where
  ex : ∃ f fd, Fun K "__init__" q st f fd ∧ Mk K C f
  g : mg x = some (.ref C)
  o : OCls K C fn
theorem PrI.er {F H : Hp} {p C dx D0 : Addr} {ns : List Str} {Q : VK} {E : XK} {o : OutI} (h : PrI F H p C dx ns o Q E) (e : o = .err D0) : ∀ H', Same H H' → E (.ref D0) none H' := by subst e; exact h
theorem PrI.ok {F H : Hp} {p C dx : Addr} {ns : List Str} {rs : List Rep} {Q : VK} {E : XK} {o : OutI} (h : PrI F H p C dx ns o Q E) (e : o = .ok rs) : ∀ F' H' vs, Gr F H F' H' → F' p = none → H' p = some (.ins C dx (ns.zip vs)) → RL F' rs vs → Q .non H' := by subst e; exact h
theorem cal_okI {fn : List Str} (T : TI K mg x q C st fn) (S : FnScope N ps (defScope st)) (hn : ∀ g, (args g).length + 1 = ps.length)
    (hb : ∀ (kV doc pm : Value) (an : Option Addr) (cdv ct : Value) (us : List Value), us.length = ps.length → bindArgs (PySem.W.fnOf "__init__" q (defArgs st) (defBody st) (defScope st) .none kV doc pm an cdv ct) ⟨us, []⟩ = pure (ps.zip us))
    (body : ∀ (X : Cx), X.prog = P → X.w = w → X.K = K → X.mg = mg → X.base = base → BX X N (defScope st) k → (∀ x : Str, X.fn x = true) → ∀ (g : ι) (F0 H0 H1 : Hp) (pa dx : Addr) (Q : VK) (E : XK), Takes X (fun cls d _ H => E cls d H) → pre g → F0 pa = none → H0 pa = none → H0 dx = none → dx ≠ pa → H1 = upd (upd H0 dx (.own pa)) pa (.ins C dx []) → Same H0 H1 → PrI F0 H0 pa C dx ns (out g) Q E →
      GO X F0 H1 (defBody st) { nx := fun _ H' => Q .non H', rt := Q } (.im (rC (.ref pa)) :: ((args g).map Sl.im ++ List.replicate (N.length - ps.length) .any))) : CalI P w K mg base (k + 1) x C (PmI C pre args ns out) := by
  obtain ⟨f, fd, F, M⟩ := T.ex
  refine ⟨f, fd, ps, ?_, M, T.g, F.binds hb⟩
  refine F.okX S (fun vs H Q E h => ?_) (fun cdv A outer s H vs Q E hr h => ?_)
  · obtain ⟨g, F1, H0, p, dx, vs', rfl, _, _, _, _, _, _, h1, _⟩ := h
    rw [List.length_cons, ← h1.len, hn]
  · obtain ⟨g, F1, H0, p, dx, vs', rfl, hp, hs, np, nd, hne, rfl, h1, q⟩ := h
    refine ⟨_, pss_ev, ?_⟩
    have hpl : ps.length ≤ N.length := by have := congrArg List.length S.pre; rw [List.length_take] at this; omega
    have up : Same H0 (upd (upd H0 dx (.own p)) p (.ins C dx [])) := (same_new nd).trans (same_new (by rw [upd_ne (Ne.symm hne)]; exact np))
    have en := en_start (N := N) (rs := rC (.ref p) :: args g) (vs := .ref p :: vs') (hs.trans up) (.cons rfl h1) (by rw [List.length_cons, hn]; exact hpl)
    rw [List.length_cons, hn, List.map_cons, List.cons_append] at en
    exact body _ rfl rfl rfl rfl rfl ⟨rfl, rfl, S.nd, hr, rfl, passes_of rfl⟩ (fun _ => rfl) g F1 H0 _ p dx Q E (takes_of rfl rfl rfl rfl) hp (hs.free np) np nd hne rfl up q F1 _ _ en
end
end DL

set_option Elab.async false
set_option linter.all false
set_option maxRecDepth 100000
set_option maxHeartbeats 4000000
/-! chains of comparisons, signs of texts, tuples of lists, what may be None -/
namespace DL
open PySem PySem.Spec PyProof.Rows L2
section
variable {X : Cx} {N : List Str} {sc : Scope} {k j : Nat} {Γ : List Sl} {a b c e tg it : Expr} {es rest : List Expr} {r ra rb rc r' r1 : Rep} {rs l l2 l3 : List Rep} {pos p p2 : Pos} {x : Str} {i : Nat} {u t : Bool} {F0 H0 : Hp} {st body : List Stmt} {D : Ends}
theorem dt_chain {o o' : CmpOp} {q q' : R2} (ho : OpR X (compareOp o) q) (h2 : B2 q ra rb (rBl t)) (ho' : OpR X (compareOp o') q') (h2' : B2 q' rb rc (rBl u)) (ha : DE X Γ a ra) (hb : DE X Γ b rb) (hc : t = true → DE X Γ c rc) (hm : lastMarks [o, o'] [b, c] = false := by rfl) : DT X Γ (.Compare a [o, o'] [b, c] pos) (t && u) := fun F0 H0 F H σ en Q q =>
  .of (pt_chain ho ho' pe_ev pe_ev pe_ev (hm := hm)) (ha F0 H0 F H σ en _ fun v F1 H1 g1 k1 => hb F0 H0 F1 H1 σ (en.grow g1) _ fun w F2 H2 g2 k2 => h2 F2 H2 v w g2.s (ra.mono g2.f k1) k2 _ fun z F3 H3 g3 k3 => ⟨t, k3, by
    cases t with
    | false => exact ⟨false, rfl, q F3 H3 ((g1.trans g2).trans g3)⟩
    | true =>
      rw [if_pos rfl]
      exact hc rfl F0 H0 F3 H3 σ (((en.grow g1).grow g2).grow g3) _ fun y F4 H4 g4 k4 => h2' F4 H4 w y g4.s (rb.mono (g3.f.trans g4.f) k2) k4 _ fun z F5 H5 g5 k5 => ⟨u, k5, q F5 H5 ((((g1.trans g2).trans g3).trans g4).trans g5)⟩⟩)
/-! signs of a text -/
def sgn (z : Str) (i : Nat) : Str := ⟨#[z.cps.toList.getD i 0]⟩
theorem de_ixStr {z : Str} {n : Int} (hz : z.length ≤ sizeLine) (h0 : 0 ≤ n) (h1 : n.toNat < z.cps.toList.length) (ha : DE X Γ a (rStr z)) (hb : DE X Γ b (rInt n)) (hs : PlainIx b := by exact fun _ _ => rfl) : DE X Γ (.Subscript a b pos) (rStr (sgn z n.toNat)) :=
  de_ixr ix_seq (fun F H x y s h1' h2 Q q => by
    cases h1'
    cases h2
    refine .inr (.inr ⟨z, n, z.cps.toList.getD n.toNat 0, rfl, rfl, hz, ?_, q _ F H (.refl s) rfl⟩)
    obtain ⟨m, rfl⟩ : ∃ m : Nat, n = m := ⟨n.toNat, by omega⟩
    refine atI_nat ?_
    rw [Int.toNat_natCast] at h1 ⊢
    rw [List.getElem?_eq_getElem h1, List.getD_eq_getElem?_getD, List.getElem?_eq_getElem h1]
    rfl) ha hb hs
theorem b2_sign {c : Nat} {z : Str} : B2 (fun x y H Q => ∃ (c : Nat) (z : Str), x = .str ⟨#[c]⟩ ∧ y = .str z ∧ Q (.bl (decide (c ∈ z.cps.toList))) H) (rStr ⟨#[c]⟩) (rStr z) (rBl (decide (c ∈ z.cps.toList))) := fun F H x y s h1 h2 Q q => by
  cases h1; cases h2
  exact ⟨c, z, rfl, rfl, q _ F H (.refl s) rfl⟩
theorem b2_nosign {c : Nat} {z : Str} : B2 (fun x y H Q => ∃ (c : Nat) (z : Str), x = .str ⟨#[c]⟩ ∧ y = .str z ∧ Q (.bl (!decide (c ∈ z.cps.toList))) H) (rStr ⟨#[c]⟩) (rStr z) (rBl (!decide (c ∈ z.cps.toList))) := fun F H x y s h1 h2 Q q => by
  cases h1; cases h2
  exact ⟨c, z, rfl, rfl, q _ F H (.refl s) rfl⟩
theorem de_inSg {y z : Str} {m : Nat} (ha : DE X Γ a (rStr (sgn y m))) (hb : DE X Γ b (rStr z)) (hm : behindInMarks .In b = false := by rfl) : DE X Γ (.Compare a [.In] [b] pos) (rBl (decide (y.cps.toList.getD m 0 ∈ z.cps.toList))) := de_cmp op_in_sign b2_sign ha hb hm
theorem dt_notInSg {y z : Str} {m : Nat} (ha : DE X Γ a (rStr (sgn y m))) (hb : DE X Γ b (rStr z)) (hm : behindInMarks .NotIn b = false := by rfl) : DT X Γ (.Compare a [.NotIn] [b] pos) (!decide (y.cps.toList.getD m 0 ∈ z.cps.toList)) := dt_cmp op_notIn_sign b2_nosign ha hb hm
theorem sr_str {z : Str} (h : DE X Γ it (rStr z)) : SR X Γ tg it z.cps.toList.length (fun i => rStr (sgn z i)) := fun F0 H0 F H σ en R q =>
  .of (pi_str pe_ev) (h F0 H0 F H σ en _ fun v F1 H1 g hv => by
    cases hv
    refine ⟨z, rfl, q _ F1 H1 g ⟨fun i H2 s hi => ?_, fun i H2 s hi => ?_, fun i F2 H2 x H' s s2 hi hy => ?_⟩⟩
    · show z.cps.size ≤ i
      rw [← Array.length_toList]; exact hi
    · show i < z.cps.size
      rw [← Array.length_toList]; exact hi
    · obtain ⟨rfl, c, hc, rfl⟩ := hy
      refine ⟨F2, .refl s2, ?_⟩
      show V.str _ = V.str _
      rw [sgn, List.getD_eq_getElem?_getD, Array.getElem?_toList, hc]
      rfl)
/-! tuples -/
theorem de_tupS (hm : X.mg "tuple" = none) (B : BX X N sc k) (h : DE X Γ e (rSeq X.K l)) (hg : sc.names.lookup ("tuple" : Str) = some NameKind.globalImplicit) (he : starEach [e] X.env = (false, eval e X.env) :: starEach [] X.env := by rfl) : DE X Γ (.Call (.Name "tuple" p) [e] [] pos) (rTup X.K l) := fun F0 H0 F H σ en Q q => by
  have hgl : Gl X "tuple" := by
    show X.env.scope.names.lookup _ = _
    rw [B.hsc]
    exact hg
  refine .of (pe_tupleOf hgl hm pe_ev he) (h F0 H0 F H σ en _ fun v F1 H1 g hv => ?_)
  obtain ⟨pp, vs, rfl, k1, k2⟩ := hv
  rcases k1 with k1 | k1
  · exact .inl ⟨pp, vs, rfl, g.s.seq k1, fun q' hq => q _ _ _ (g.trans (.new g.s hq)) ⟨q', vs, rfl, SqT.of upd_same, k2.mono (same_new (g.s.free hq))⟩⟩
  · exact .inr ⟨pp, vs, rfl, sqt_mono g.s k1, q _ F1 H1 g ⟨pp, vs, rfl, k1, k2⟩⟩
/-- list(range(n)) -/
theorem dl_listRg {n : Int} (B : BX X N sc k) (hl : X.mg "list" = none) (hr : X.mg "range" = none) (h0 : 0 ≤ n) (h1 : n ≤ 16777216) (h : DE X Γ e (rInt n)) (hgl : sc.names.lookup ("list" : Str) = some NameKind.globalImplicit) (hgr : sc.names.lookup ("range" : Str) = some NameKind.globalImplicit)
    (he : starEach [e] X.env = (false, eval e X.env) :: starEach [] X.env := by rfl) (he2 : starEach [Expr.Call (.Name "range" p2) [e] [] p] X.env = (false, eval (.Call (.Name "range" p2) [e] [] p) X.env) :: starEach [] X.env := by rfl) {p3 : Pos} :
    DL X Γ (.Call (.Name "list" p3) [.Call (.Name "range" p2) [e] [] p] [] pos) ((List.range n.toNat).map fun i : Nat => rInt (i : Nat)) := fun F0 H0 F H σ en Q q => by
  have g1 : Gl X "list" := by
    show X.env.scope.names.lookup _ = _
    rw [B.hsc]
    exact hgl
  have g2 : Gl X "range" := by
    show X.env.scope.names.lookup _ = _
    rw [B.hsc]
    exact hgr
  refine .of (pe_listRg B.calm g1 hl (prg_1 g2 hr pe_ev he) he2) (h F0 H0 F H σ en _ fun v F1 H1 g hv => ?_)
  cases hv
  refine ⟨n, rfl, RgOk.of_le (by decide) h1 (by decide) h0, fun q' hq => q q' _ F1 _ (g.trans (.newOwn g.s hq)) (g.h.free hq) (g.s.free hq) upd_same ?_⟩
  have : ∀ m : Nat, RL F1 ((List.range m).map fun i : Nat => rInt (i : Nat)) ((List.range m).map fun i => V.int (0 + (i : Nat))) := fun m => by
    induction m with
    | zero => exact .nil
    | succ m ih =>
      rw [List.range_succ, List.map_append, List.map_append]
      exact ih.app (.cons (by show V.int _ = V.int _; rw [Int.zero_add]) .nil)
  have z := this n.toNat
  unfold rgV
  rw [Int.sub_zero]
  exact z
/-- [..] * n -/
theorem dl_rep {n : Int} (ha : DL X Γ a l) (hb : DE X Γ b (rInt n)) (h0 : -(2 ^ 63) ≤ n) (h1 : n < 2 ^ 63) (h2 : l.length * n.toNat ≤ sizeLine) : DL X Γ (.BinOp a .Mult b pos) (List.replicate n.toNat l).flatten := fun F0 H0 F H σ en Q q =>
  .of (pe_op op_rep pe_ev pe_ev) (ha F0 H0 F H σ en _ fun pp vs F1 H1 g1 n1 f1 k1 r1 => hb F0 H0 F1 H1 σ (en.grow g1) _ fun w F2 H2 g2 k2 => by
    cases k2
    refine ⟨pp, n, vs, rfl, rfl, g2.h _ _ k1, h0, h1, by rw [← r1.len]; exact h2, fun q' hq => ?_⟩
    have g := g1.trans g2
    refine q q' _ F2 _ (g.trans (.newOwn g.s hq)) (g.h.free hq) (g.s.free hq) upd_same ?_
    have r2 := r1.mono g2.f
    have : ∀ m : Nat, RL F2 (List.replicate m l).flatten (List.replicate m vs).flatten := fun m => by
      induction m with
      | zero => exact .nil
      | succ m ih =>
        rw [List.replicate_succ, List.replicate_succ, List.flatten_cons, List.flatten_cons]
        exact r2.app ih
    exact this _)
theorem de_min3 {m n o : Int} (B : BX X N sc k) (hm : X.mg "min" = none) (ha : DE X Γ a (rInt m)) (hb : DE X Γ b (rInt n)) (hc : DE X Γ c (rInt o)) (hg : sc.names.lookup ("min" : Str) = some NameKind.globalImplicit)
    (he : starEach (a :: [b, c]) X.env = (false, eval a X.env) :: starEach [b, c] X.env := by rfl) (he2 : starEach (b :: [c]) X.env = (false, eval b X.env) :: starEach [c] X.env := by rfl) (he3 : starEach (c :: []) X.env = (false, eval c X.env) :: starEach [] X.env := by rfl) (hpl : (backTo pos (starEach [b, c] X.env)).any (·.1) = false := by rfl) : DE X Γ (.Call (.Name "min" p) [a, b, c] [] pos) (rInt (min (min m n) o)) :=
  de_blt B (call_min3Nu B.calm) (fun F H vs s hv Q q => by
    cases hv with
    | cons k1 t =>
      obtain ⟨v, w, rfl, k2, k3⟩ := rl2 t
      cases k1; cases k2; cases k3
      refine ⟨_, _, _, .int (min (min m n) o), rfl, ?_, q _ F H (.refl s) rfl⟩
      have e : ∀ i j : Int, nuMin2 (.int i) (.int j) = some (V.int (min i j)) := fun i j => by
        show some (if decide (j < i) = true then V.int j else V.int i) = _
        by_cases h : j < i
        · rw [if_pos (decide_eq_true h)]; congr 2; omega
        · rw [if_neg (by simp [h])]; congr 2; omega
      show (nuMin2 (.int m) (.int n)).bind (fun q => nuMin2 q (.int o)) = _
      rw [e]
      exact e _ _) hm (by decide +kernel) (da_cons ha (da_cons hb (da_cons hc da_nil he3) he2) he) hg (he := he) (hpl := hpl)
theorem de_intB (B : BX X N sc k) (hm : X.mg "int" = none) (ha : DE X Γ a (rBl u)) (hg : sc.names.lookup ("int" : Str) = some NameKind.globalImplicit)
    (he : starEach (a :: []) X.env = (false, eval a X.env) :: starEach [] X.env := by rfl) : DE X Γ (.Call (.Name "int" p) [a] [] pos) (rInt (if u = true then 1 else 0)) :=
  de_bty B call_int1 (fun F H vs s hv Q q => by
    obtain ⟨v, rfl, k1⟩ := rl1 hv
    cases k1
    exact .inr ⟨u, rfl, q _ F H (.refl s) rfl⟩) hm (by decide +kernel) (da_cons ha da_nil he) hg (he := he)
/-! what may be None -/
def rOp {α : Type} (R : α → Rep) : Option α → Rep
  | none => rNon
  | some a => R a
variable {α : Type} {R : α → Rep} {o : Option α}
theorem de_oN (h : DE X Γ e rNon) : DE X Γ e (rOp R none) := h
theorem de_oS {v : α} (h : DE X Γ e (R v)) : DE X Γ e (rOp R (some v)) := h
theorem de_oU (d : α) (ho : o.isNone = false) (h : DE X Γ e (rOp R o)) : DE X Γ e (R (o.getD d)) := by
  cases o with
  | none => cases ho
  | some v => exact h
theorem dt_oIs {jj : Nat} (hn : ∀ v, NotNon (R v)) (h : DE X Γ a (rOp R o)) : DT X Γ (.Compare a [.Is] [.Constant .none jj p] pos) o.isNone := by
  cases o with
  | none => exact dt_isN h
  | some v => exact dt_isN0 (hn v) h
theorem de_oIs {jj : Nat} (hn : ∀ v, NotNon (R v)) (h : DE X Γ a (rOp R o)) : DE X Γ (.Compare a [.Is] [.Constant .none jj p] pos) (rBl o.isNone) := by
  cases o with
  | none => exact de_isN h
  | some v => exact de_isN0 (hn v) h
theorem dt_oNot {jj : Nat} (hn : ∀ v, NotNon (R v)) (h : DE X Γ a (rOp R o)) : DT X Γ (.Compare a [.IsNot] [.Constant .none jj p] pos) (!o.isNone) := by
  cases o with
  | none => exact dt_notN h
  | some v => exact dt_notN0 (hn v) h
/-! three lists at once -/
theorem go_par3 {i1 i2 i3 : Nat} {x1 x2 x3 : Str} {px py pz pt : Pos} {kt k2 : Nat} {pt2 : Pos} (B : BX X N sc k) (ha : DL X Γ a l) (hb : DL X Γ b l2) (hc : DL X Γ c l3) (h1 : N[i1]? = some x1) (h2 : N[i2]? = some x2) (h3 : N[i3]? = some x3) (h12 : i1 ≠ i2) (h13 : i1 ≠ i3) (h23 : i2 ≠ i3)
    (hx : sc.names.lookup x1 = some .local) (hy : sc.names.lookup x2 = some .local) (hz : sc.names.lookup x3 = some .local) (h : GO X F0 H0 st D (((Γ.set i1 (.ow l)).set i2 (.ow l2)).set i3 (.ow l3)))
    (hw : ∀ env : Env, env.scope = sc → swappedStores [.Tuple [.Name x1 px, .Name x2 py, .Name x3 pz] kt pt] (.Tuple [a, b, c] k2 pt2) env = pure (some [x1, x2, x3]))
    (hs : swapsWithSole [.Tuple [.Name x1 px, .Name x2 py, .Name x3 pz] kt pt] (.Tuple [a, b, c] k2 pt2) pos.line X.env = pure false := by rfl)
    (e1 : starEach [a, b, c] X.env = (false, eval a X.env) :: starEach [b, c] X.env := by rfl) (e2 : starEach [b, c] X.env = (false, eval b X.env) :: starEach [c] X.env := by rfl) (e3 : starEach [c] X.env = (false, eval c X.env) :: starEach [] X.env := by rfl) :
    GO X F0 H0 (.Assign [.Tuple [.Name x1 px, .Name x2 py, .Name x3 pz] kt pt] (.Tuple [a, b, c] k2 pt2) pos :: st) D Γ := fun F H σ en => by
  refine .of (pss_cons (ps_par3 (i := i1) (j := i2) (l := i3) B.calm (by rw [B.hN]; exact B.nd) (by rw [B.hN]; exact h1) (by rw [B.hN]; exact h2) (by rw [B.hN]; exact h3) h12 h13 h23 (by rw [B.hsc]; exact hx) (by rw [B.hsc]; exact hy) (by rw [B.hsc]; exact hz) (pa_cons pe_ev (pa_cons pe_ev (pa_cons pe_ev pa_nil e3) e2) e1) (hw X.env B.hsc) hs) pss_ev) ?_
  refine ha F0 H0 F H σ en _ fun p1 v1 F1 H1 g1 n1 f1 k1 r1 => hb F0 H0 F1 H1 σ (en.grow g1) _ fun p2 v2 F2 H2 g2 n2 f2 k2 r2 => hc F0 H0 F2 H2 σ ((en.grow g1).grow g2) _ fun p3 v3 F3 H3 g3 n3 f3 k3 r3 => ⟨_, _, _, rfl, ?_⟩
  have g12 := g1.trans g2
  have g123 := g12.trans g3
  have g23 := g2.trans g3
  have en3 := en.grow g123
  have no : ∀ {q : Addr}, H q = none → ∀ (j : Nat) (l' : List Rep), Γ[j]? = some (.ow l') → σ[j]? ≠ some (some (.ref q)) := fun {q} hq j l' a1 a2 => by
    obtain ⟨p', vs', b1, b2, b3, b4, b5⟩ := en.ow a1
    rw [b1] at a2
    have e2 : p' = q := V.ref.inj (Option.some.inj (Option.some.inj a2))
    rw [e2, hq] at b3
    cases b3
  have m1 : H3 p1 = some (.lst v1) := g23.h _ _ k1
  have m2 : H3 p2 = some (.lst v2) := g3.h _ _ k2
  have q1 : F3 p1 = none := g23.n p1 (by rw [k1]; exact nofun) f1
  have q2 : F3 p2 = none := g3.n p2 (by rw [k2]; exact nofun) f2
  have z2 : H p2 = none := g1.h.free n2
  have z3 : H p3 = none := g12.h.free n3
  have d12 : p1 ≠ p2 := fun z => by rw [← z, k1] at n2; cases n2
  have d13 : p1 ≠ p3 := fun z => by rw [← z, g2.h _ _ k1] at n3; cases n3
  have d23 : p2 ≠ p3 := fun z => by rw [← z, k2] at n3; cases n3
  have s1 := en3.setOw (i := i1) q1 m1 (r1.mono g23.f) (en.gr.h.free n1) (no n1)
  have no2 : ∀ {q : Addr} {i : Nat} {pp : Addr} {Γ' : List Sl} {σ' : L2.St} {ll : List Rep}, pp ≠ q → (∀ (j : Nat) (l' : List Rep), Γ'[j]? = some (.ow l') → σ'[j]? ≠ some (some (.ref q))) → ∀ (j : Nat) (l' : List Rep), (Γ'.set i (.ow ll))[j]? = some (.ow l') → (σ'.set i (some (.ref pp)))[j]? ≠ some (some (.ref q)) := fun {q i pp Γ' σ' ll} hne h j l' a1 a2 => by
    rcases get_set a2 with ⟨rfl, e⟩ | ⟨n, a2⟩
    · exact hne (V.ref.inj (Option.some.inj e)).symm
    · rcases get_set a1 with ⟨e, _⟩ | ⟨_, a1⟩
      · exact n e
      · exact h j l' a1 a2
  have s2 := s1.setOw (i := i2) q2 m2 (r2.mono g3.f) (en.gr.h.free z2) (no2 d12 (no z2))
  have s3 := s2.setOw (i := i3) f3 k3 r3 (en.gr.h.free z3) (no2 d23 (no2 d13 (no z3)))
  exact h F3 H3 _ s3
end
end DL

set_option Elab.async false
set_option linter.all false
set_option maxRecDepth 100000
set_option maxHeartbeats 4000000
/-! classmethods that make an object -/
namespace DL
open PySem PySem.Spec PyProof.Rows L2
theorem fnR_of {P : Program} {w : World} {K : PySem.W.Frag} {mg : Str → Option Value} {base : Heap} {CX : CXT} {k : Nat} {f : Addr} {fd : FuncData} {ps : List Str} {sp : Sp} (F : FnOk P w K mg base CX k f fd ps sp) (hK : ∀ {A outer s H}, Env0 P w K mg base A outer s H → K.In s.heap) (hb : Binds K fd ps []) : FnR P w K mg base CX k f sp := fun A outer s H us vs Q E hr e0 rv hs => by
  have hl : (us ++ []).length = ps.length := by rw [List.append_nil, ← rv.length]; exact F.len _ _ _ _ hs
  have b := hb s us (hK e0) hl
  rw [List.append_nil] at b
  exact F.run A outer s H ⟨us, []⟩ us vs Q E hr e0 b rv hs
section
variable {X : Cx} {N : List Str} {sc : Scope} {k j : Nat} {Γ : List Sl} {e : Expr} {es : List Expr} {pos p apos : Pos} {x m : Str} {i : Nat} {C : Addr} {ns : List Str} {ι : Type} {pre : ι → Prop} {args : ι → List Rep} {out : ι → OutI}
/-- cls(..), the class in a slot -/
theorem pe_makeL {CX : CXT} {fa : Addr} {fd : FuncData} {ps : List Str} {sp : Sp} {dvs : List V} {ds : List Value} {E : XK} {t : TA} (M : Mk X.K C fa) (F : FnOk X.prog X.w X.K X.mg X.base CX j fa fd ps sp) (hr : Room (j + 1) X.A) (hN : X.N[i]? = some x) (hv : Vis X.env.scope x) (hb : Binds X.K fd ps ds) (hd : Vals dvs ds) (hx : Passes CX X E)
    (ha : PA X (e :: es) t) (hdb : (x == ("__debug__" : Str)) = false := by decide) (hcd : (x == ("__classdict__" : Str)) = false := by decide) (he : starEach (e :: es) X.env = (false, eval e X.env) :: starEach es X.env := by rfl) (hpl : (backTo pos (starEach es X.env)).any (·.1) = false := by rfl) :
    PE X (.Call (.Name x p) (e :: es) [] pos) (fun σ H Q => σ[i]? = some (some (.ref C)) ∧ tMake C sp dvs E t σ H Q) := by
  refine ⟨fun pins s σ H Q I ⟨hs, ht⟩ => wpAny_Call_Name_kw (thn ((pe_var (pos := p) hN hv hdb hcd).run pins s σ H (fun v H1 => v = .ref C ∧ H1 = H) I ⟨.ref C, hs, rfl, rfl⟩) fun u s1 ⟨v, H1, I1, r1, q1⟩ => ?_)⟩
  obtain ⟨rfl, rfl⟩ := q1
  cases r1
  exact PySem.W.callWith_K (h₀ := X.base) I.ok.mod.kin M.kp (thn (ha.run pos pins s1 σ _ _ I1 ht) fun us s2 ⟨vs, H2, I2, r, q⟩ => ⟨I2.kIn, run_make M F hr hb hd hx I2 r q⟩) he hpl
theorem de_makeL (okr : ι → List Rep) (B : BX X N sc k) (G : CalI X.prog X.w X.K X.mg X.base j m C (PmI C pre args ns out)) (hk : j + 1 ≤ k) (g : ι) (hp : pre g) (ho : out g = .ok (okr g)) (hl : ns.length = (okr g).length) (hΓ : Γ[i]? = some (.im (rC (.ref C)))) (hN : N[i]? = some x) (hv : Vis sc x) (ha : DA X Γ (e :: es) (args g))
    (hdb : (x == ("__debug__" : Str)) = false := by decide) (hcd : (x == ("__classdict__" : Str)) = false := by decide) (he : starEach (e :: es) X.env = (false, eval e X.env) :: starEach es X.env := by rfl) (hpl : (backTo pos (starEach es X.env)).any (·.1) = false := by rfl) :
    DE X Γ (.Call (.Name x p) (e :: es) [] pos) (rIns X.K C (ns.zip (okr g))) := fun F0 H0 F H σ en Q q => by
  obtain ⟨f, fd, ps, G, M, hm, hb⟩ := G.ex
  obtain ⟨u, h1, h2⟩ := en.im hΓ
  cases h2
  refine .of (pe_makeL (E := E0) M G (B.room.mono hk) (B.hN ▸ hN) (B.hsc ▸ hv) hb .nil passL pa_ev hdb hcd he hpl) ⟨h1, ?_⟩
  refine ha F0 H0 F H σ en _ fun vs F1 H1 g1 h1 => fun p dx np ndx hne => ?_
  rw [List.append_nil]
  refine ⟨g, F1, H1, p, dx, vs, rfl, hp, g1.s, np, ndx, hne, rfl, h1, ?_⟩
  rw [ho]
  refine fun F' H' ws g2 nf hp' hr => ⟨rfl, ?_⟩
  have g3 := gr_made np g2 nf hp'
  have n1 : ((ns.zip (okr g)).map Prod.fst) = ns := List.map_fst_zip (by omega)
  have n2 : ((ns.zip (okr g)).map Prod.snd) = okr g := List.map_snd_zip (by omega)
  exact q _ _ _ (g1.trans g3) ⟨p, dx, ws, rfl, by rw [n1]; exact upd_same, by rw [n2]; exact hr.mono (same_new nf)⟩
/-- a classmethod, by the class's name -/
structure TC (K : PySem.W.Frag) (C : Addr) (m q : Str) (st : Stmt) : Prop where
  ex : ∃ mc p g fd, ClX.CRead K C mc ∧ ClX.CMet K C mc m p g ∧ Fun K m q st g fd
structure CalC (P : Program) (w : World) (K : PySem.W.Frag) (mg : Str → Option Value) (base : Heap) (k : Nat) (C : Addr) (m : Str) (sp : Sp) : Prop where
  ex : ∃ mc p g, ClX.CRead K C mc ∧ ClX.CMet K C mc m p g ∧ FnR P w K mg base (L2.CX P w) k g sp
variable {res : ι → Ret}
theorem ca_cmeth {pl : Sem Bool} (B : BX X N sc k) (G : CalC X.prog X.w X.K X.mg X.base j C m (Pm pre args res)) (hk : j ≤ k) (g : ι) (hp : pre g) (hm : X.mg x = some (.ref C)) (hg : sc.names.lookup x = some .globalImplicit) {as : List Rep} (e1 : args g = rC (.ref C) :: as) (ha : DA X Γ (e :: es) as)
    (hdb : (x == ("__debug__" : Str)) = false := by decide) (hst : starEach (e :: es) X.env = (false, eval e X.env) :: starEach es X.env := by rfl) (hpl : (backTo pos (starEach es X.env)).any (·.1) = false := by rfl)
    (ht : eval (.Call (.Attribute (.Name x p) m apos) (e :: es) [] pos) X.env = (do
      let ov ← eval (.Name x p) X.env
      standAt apos.atName
      let (f, first) ← holding [ov] (getMethod ov m pl)
      callWith pos f first (backTo pos (starEach (e :: es) X.env)) (backToKw pos (keywordEach [] X.env))) := by rfl) :
    CA X Γ (.Call (.Attribute (.Name x p) m apos) (e :: es) [] pos) (res g) := fun F0 H0 F H σ en Q q => by
  obtain ⟨mc, pp, gg, r, c, Fm⟩ := G.ex
  have hgl : Gl X x := by
    show X.env.scope.names.lookup x = _
    rw [B.hsc]
    exact hg
  refine .of (ClX.pe_cmeth (E := E0) (pe_glob (v := .ref C) hgl hm rfl hdb) r c Fm (B.room.mono hk) passL pa_ev hst hpl ht) ⟨rfl, ?_⟩
  refine ha F0 H0 F H σ en _ fun vs F1 H1 g1 h1 => ?_
  exact ⟨g, F1, hp, g1.s, by rw [e1]; exact .cons rfl h1, fun v F' H' g2 hv => q v F' H' F1 H1 g1 g2 hv⟩
end
section
variable {P : Program} {w : World} {K : PySem.W.Frag} {mg : Str → Option Value} {base : Heap} {k : Nat} {m q : Str} {st : Stmt} {N ps : List Str} {C : Addr} {ι : Type} {pre : ι → Prop} {args : ι → List Rep} {res : ι → Ret}
theorem cal_okC (T : TC K C m q st) (S : FnScope N ps (defScope st)) (hn : ∀ g, (args g).length = ps.length)
    (hb : ∀ (kV doc pm : Value) (an : Option Addr) (cdv ct : Value) (us : List Value), us.length = ps.length → bindArgs (PySem.W.fnOf m q (defArgs st) (defBody st) (defScope st) .none kV doc pm an cdv ct) ⟨us, []⟩ = pure (ps.zip us))
    (body : ∀ (X : Cx), X.prog = P → X.w = w → X.K = K → X.mg = mg → X.base = base → BX X N (defScope st) k → (∀ x : Str, X.fn x = true) → ∀ (g : ι) (F0 H0 : Hp) (D : Ends), pre g → RT F0 H0 (res g) D → (∀ σ H', D.nx σ H' = D.rt .non H') →
      GO X F0 H0 (defBody st) D ((args g).map Sl.im ++ List.replicate (N.length - ps.length) .any)) : CalC P w K mg base (k + 1) C m (Pm pre args res) := by
  obtain ⟨mc, pp, g, fd, r, c, F⟩ := T.ex
  refine ⟨mc, pp, g, r, c, fnR_of (FnOk.wide (F.ok S (fun vs H Q E h => ?_) (fun cdv A outer s H vs Q E hr h => ?_))) ?_ (F.binds hb)⟩
  · obtain ⟨g, F1, _, _, h1, _⟩ := h
    rw [← h1.len, hn]
  · obtain ⟨g, F1, hp, hs, h1, q⟩ := h
    refine ⟨_, pss_ev, ?_⟩
    have hpl : ps.length ≤ N.length := by have := congrArg List.length S.pre; rw [List.length_take] at this; omega
    have en := en_start (N := N) hs h1 (by rw [hn]; exact hpl)
    rw [hn] at en
    exact body _ rfl rfl rfl rfl rfl ⟨rfl, rfl, S.nd, hr, rfl, PassesOwn.never⟩ (fun _ => rfl) g F1 H { nx := fun _ H' => Q .non H', rt := Q } hp q (fun _ _ => rfl) F1 H _ en
  · exact fun {A outer s H} e0 a o l => (e0.bs a o (e0.mod.kin a o l)).1
end
end DL

set_option Elab.async false
set_option linter.all false
set_option maxRecDepth 100000
set_option maxHeartbeats 4000000
/-! tuples whose first item is a new list; errors within expressions; books -/
namespace DL
open PySem PySem.Spec PyProof.Rows L2
section
variable {X : Cx} {N : List Str} {sc : Scope} {k j : Nat} {Γ : List Sl} {a b c e tg it : Expr} {es rest : List Expr} {r ra rb rc r' : Rep} {rs l l2 : List Rep} {pos p p2 : Pos} {x : Str} {i : Nat} {F0 H0 : Hp} {st body : List Stmt} {D : Ends} {C : Addr} {W : WX} {fs : List (Str × V)}
/-! a tuple (new list, ..) -/
theorem go_retT {x1} (B : BX X N sc k) (R : RT F0 H0 (.tfr X.K l rs) D) (hΓ : Γ[i]? = some (.ow l)) (ha : DA X Γ es rs) (hN : N[i]? = some x) (hv : Vis sc x) (hl : rs.length + 1 ≤ sizeLine) (hd : (x == ("__debug__" : Str)) = false := by decide) (hcd : (x == ("__classdict__" : Str)) = false := by decide)
    (hs : starEach (.Name x p :: es) X.env = (false, eval (.Name x p) X.env) :: starEach es X.env := by rfl) : GO X F0 H0 (.Return (some (.Tuple (.Name x p :: es) x1 p2)) pos :: st) D Γ := fun F H σ en => by
  obtain ⟨q, vs, h1, h2, h3, h4, h5⟩ := en.ow hΓ
  refine .of (pss_cons (ps_ret (pe_tup (pa_cons (pe_var (i := i) (B.hN ▸ hN) (B.hsc ▸ hv) hd hcd) pa_ev hs))) (pss_ev (st := st))) ⟨_, h1, ?_⟩
  refine ha F0 H0 F H σ en _ fun ws F1 H1 g k1 => ⟨by rw [List.length_cons, ← k1.len]; exact hl, fun t ht => ?_⟩
  have q1 : F1 q = none := g.n q (by rw [h3]; exact nofun) h2
  have q2 : H1 q = some (.lst vs) := g.h _ _ h3
  have qt : q ≠ t := fun z => by rw [← z, q2] at ht; cases ht
  have sn : Same F1 (upd F1 t (.tup (.ref q :: ws))) := same_new (g.s.free ht)
  exact R _ _ _ (en.gr.trans (g.trans (.new g.s ht))) ⟨t, q, vs, ws, rfl, SqT.of upd_same, h5, by rw [upd_ne qt]; exact q1, by rw [upd_ne qt]; exact q2, (h4.mono g.f).mono sn, k1.mono sn⟩
theorem go_retTP (R : RT F0 H0 (.tfr X.K l rs) D) (h : CA X Γ e (.tfr X.K l rs)) : GO X F0 H0 (.Return (some e) pos :: st) D Γ := fun F H σ en =>
  .of (pss_cons (ps_ret pe_ev) (pss_ev (st := st))) (h F0 H0 F H σ en _ fun v F' H' F1 H1 g1 g2 hv => by
    obtain ⟨t, q, us, vs, e1, e2, e3, e4⟩ := hv
    exact R v F' H' ((en.gr.trans g1).trans g2) ⟨t, q, us, vs, e1, e2, (en.gr.trans g1).h.free e3, e4⟩)
theorem CA.tup (h : CA X Γ e (.tfr X.K l rs)) : DE X Γ e (rTup X.K (rLst X.K l :: rs)) := fun F0 H0 F H σ en Q q => h F0 H0 F H σ en Q fun v F' H' F1 H1 g1 g2 hv => by
  obtain ⟨t, pp, us, vs, rfl, e2, e3, e4, e5, e6, e7⟩ := hv
  have hn : H pp = none := g1.h.free e3
  have g := g1.trans g2
  have sn : Same F' (upd F' pp (.lst us)) := same_new e4
  refine q _ (upd F' pp (.lst us)) H' ⟨g.f.trans sn, g.h, fun b o z => ?_, fun a ha z => ?_⟩ ⟨t, _, rfl, sqt_mono sn e2, .cons ⟨pp, us, rfl, SqL.of upd_same, e6.mono sn⟩ (e7.mono sn)⟩
  · by_cases hb : b = pp
    · subst hb
      rw [upd_same] at z
      rw [e5, ← z]
    · rw [upd_ne hb] at z
      exact g.s b o z
  · have : a ≠ pp := fun y => ha (y ▸ hn)
    rw [upd_ne this]
    exact g.n a ha z
/-- f(..)[0], that list -/
theorem dl_fst {jj : Nat} {p3 : Pos} (h : CA X Γ e (.tfr X.K l rs)) (hs : PlainIx (.Constant (.int 0) jj p3) := by exact fun _ _ => rfl) : DL X Γ (.Subscript e (.Constant (.int 0) jj p3) pos) l := fun F0 H0 F H σ en Q q => by
  refine .of (pe_ix ix_tup pe_ev pe_ev hs) ?_
  refine h F0 H0 F H σ en _ fun v F' H' F1 H1 g1 g2 hv => ?_
  obtain ⟨t, pp, us, vs, rfl, e2, e3, e4, e5, e6, e7⟩ := hv
  have g := g1.trans g2
  refine de_int F0 H0 F' H' σ (en.grow g) _ fun w F3 H3 g3 hw => ?_
  cases hw
  have z4 : F3 pp = none := g3.n pp (by rw [e5]; exact nofun) e4
  exact ⟨t, .ref pp :: vs, 0, .ref pp, rfl, rfl, sqt_mono (g3.f.trans g3.s) e2, (show atI (V.ref pp :: vs) ((0 : Nat) : Int) = some (.ref pp) from atI_nat (j := 0) rfl), q pp us F3 H3 (g.trans g3) (g1.h.free e3) z4 (g3.h _ _ e5) (e6.mono g3.f)⟩
/-! errors within expressions -/
theorem exf_blt {id : String} {f : List V → Hp → VK → Prop} (B : BX X N sc k) (hc : CallR X (.builtin id) f) (hm : X.mg x = none) (hv : bootBuiltins x = some (.builtin id)) (h : EXF X Γ e C fs W) (hg : sc.names.lookup x = some .globalImplicit) (hn : x ≠ "__name__" := by decide) (hdb : (x == ("__debug__" : Str)) = false := by decide)
    (he : starEach (e :: []) X.env = (false, eval e X.env) :: starEach [] X.env := by rfl) : EXF X Γ (.Call (.Name x p) [e] [] pos) C fs W := fun F0 H0 F H σ en w Q => by
  have hgl : Gl X x := by
    show X.env.scope.names.lookup x = _
    rw [B.hsc]
    exact hg
  exact .of (pe_callB hc hgl hm hv (pa_cons pe_ev pa_nil he) hn hdb (he := he)) (h F0 H0 F H σ en w _)
theorem exf_ix (h : EXF X Γ e C fs W) (hs : PlainIx b := by exact fun _ _ => rfl) : EXF X Γ (.Subscript e b pos) C fs W := fun F0 H0 F H σ en w Q => .of (pe_ix ix_seq pe_ev pe_ev hs) (h F0 H0 F H σ en w _)
theorem go_setF {tpos : Pos} (B : BX X N sc k) (he : EXF X Γ e C fs W) (hN : N[i]? = some x) (hx : LocX X sc x) (h : ∀ F H σ, En F0 H0 F H σ Γ → ∀ H' d, Same H H' → H d = none → H' d = some (.xd fs) → W (.ref C) (some d) σ H') (hs : swapsWith e (some (.Name x tpos)) pos.line X.env = pure false := by rfl) :
    GO X F0 H0 (.Assign [.Name x tpos] e pos :: st) D Γ := fun F H σ en => by
  have hf : X.fn x = true ∨ X.env.scope.names.lookup x = some .local := by
    rcases hx with hx | hx
    · exact .inr (by rw [B.hsc]; exact hx)
    · exact .inl hx.2
  have hx : Loc sc x := hx.elim .inl fun z => .inr z.1
  exact .of (pss_cons (ps_set (i := i) (by rw [B.hN]; exact B.nd) (by rw [B.hN]; exact hN) (by rw [B.hsc]; exact hx) pe_ev hs hf) (pss_ev (st := st))) (he F0 H0 F H σ en (h F H σ en) _)
theorem go_asgF {tt : TG} (he : EXF X Γ e C fs W) (hg : PG X tg tt) (h : ∀ F H σ, En F0 H0 F H σ Γ → ∀ H' d, Same H H' → H d = none → H' d = some (.xd fs) → W (.ref C) (some d) σ H') (hs : swapsWithSole [tg] e pos.line X.env = pure false := by rfl) (hw : swappedStores [tg] e X.env = pure none := by rfl)
    (h1 : (assignEach [tg] X.env).map (·.2) = [assign tg X.env] := by rfl) : GO X F0 H0 (.Assign [tg] e pos :: st) D Γ := fun F H σ en =>
  .of (pss_cons (ps_asg pe_ev hg hs hw h1) (pss_ev (st := st))) (he F0 H0 F H σ en (h F H σ en) _)
end
/-! rows by a map -/
theorem rl_sub {F : Hp} {α : Type} {R R' : α → Rep} (h : ∀ a, Sub (R a) (R' a)) : ∀ {xs : List α} {vs : List V}, RL F (xs.map R) vs → RL F (xs.map R') vs
  | [], _, .nil => .nil
  | _ :: _, _, .cons a t => .cons (h _ F _ a) (rl_sub h t)
theorem sub_lstM {K : PySem.W.Frag} {α : Type} {R R' : α → Rep} (h : ∀ a, Sub (R a) (R' a)) {xs : List α} : Sub (rLst K (xs.map R)) (rLst K (xs.map R')) := fun F v ⟨a, vs, e, q, r⟩ => ⟨a, vs, e, q, rl_sub h r⟩
theorem sub_tupM {K : PySem.W.Frag} {α : Type} {R R' : α → Rep} (h : ∀ a, Sub (R a) (R' a)) {xs : List α} : Sub (rTup K (xs.map R)) (rTup K (xs.map R')) := fun F v ⟨a, vs, e, q, r⟩ => ⟨a, vs, e, q, rl_sub h r⟩
section
variable {X : Cx} {N : List Str} {sc : Scope} {k j : Nat} {Γ : List Sl} {a b c e tg it it2 : Expr} {es rest : List Expr} {pos p p2 : Pos} {x : Str} {i : Nat} {α β : Type} {R : α → Rep} {R2 : β → Rep} {xs : List α} {ys : List β}
theorem de_ixAM {n : Int} (d : α) (h0 : 0 ≤ n) (h1 : n < xs.length) (ha : DE X Γ a (rSeq X.K (xs.map R))) (hb : DE X Γ b (rInt n)) (hs : PlainIx b := by exact fun _ _ => rfl) : DE X Γ (.Subscript a b pos) (R (xs.getD n.toNat d)) := de_ixA (atI_map d h0 h1) ha hb hs
theorem sr_zipS_M {jj : Nat} {tpos : Pos} (d : α) (d2 : β) (B : BX X N sc k) (hm : X.mg "zip" = none) (h : DE X Γ it (rSeq X.K (xs.map R))) (h2 : DE X Γ it2 (rSeq X.K (ys.map R2))) (hg : sc.names.lookup ("zip" : Str) = some NameKind.globalImplicit)
    (hs : starEach [it, it2] X.env = (false, eval it X.env) :: starEach [it2] X.env := by rfl) (hs2 : starEach [it2] X.env = (false, eval it2 X.env) :: starEach [] X.env := by rfl) (hpl : (backTo pos (starEach [it2] X.env)).any (·.1) = false := by rfl) :
    SR X Γ (.Tuple es jj tpos) (.Call (.Name "zip" p) [it, it2] [] pos) (min xs.length ys.length) (fun i => rTup X.K [R (xs.getD i d), R2 (ys.getD i d2)]) := by
  have z := sr_zipS (es := es) (jj := jj) (tpos := tpos) (p := p) (pos := pos) B hm h h2 hg hs hs2 hpl
  rw [List.length_map, List.length_map] at z
  exact z.to fun i hi => by rw [getD_map d (by omega), getD_map d2 (by omega)]
end
/-! pairs -/
def rP {α β : Type} (K : PySem.W.Frag) (R : α → Rep) (R2 : β → Rep) (p : α × β) : Rep := rTup K [R p.1, R2 p.2]
/-! books -/
structure Bk where
  names : List Str
  frame : List (List Int)
def Bk.size (b : Bk) : Nat := b.names.length
abbrev rRowT (K : PySem.W.Frag) (l : List Int) : Rep := rTup K (l.map rInt)
abbrev rRowS (K : PySem.W.Frag) (l : List Int) : Rep := rSeq K (l.map rInt)
def rBook (K : PySem.W.Frag) (C : Addr) (b : Bk) : Rep := rIns K C [("names", rTup K (b.names.map rStr)), ("size", rInt (b.size : Nat)), ("frame", rTup K (b.frame.map (rRowT K)))]
section
variable {X : Cx} {Γ : List Sl} {e a b : Expr} {pos : Pos} {C : Addr} {k' : Bk} {N : List Str} {sc : Scope} {k : Nat} {α : Type} [DecidableEq α] {R : α → Rep} {d : α → PyData} {n : Nat} {u : α}
theorem de_bkS (O : OCls X.K C ["names", "size", "frame"]) (h : DE X Γ e (rBook X.K C k')) (hb : attributeBase e "size" X.env (eval e X.env) = eval e X.env := by rfl) : DE X Γ (.Attribute e "size" pos) (rInt (k'.size : Nat)) := de_fld O h rfl (hb := hb)
theorem de_bkF (O : OCls X.K C ["names", "size", "frame"]) (h : DE X Γ e (rBook X.K C k')) (hb : attributeBase e "frame" X.env (eval e X.env) = eval e X.env := by rfl) : DE X Γ (.Attribute e "frame" pos) (rTup X.K (k'.frame.map (rRowT X.K))) := de_fld O h rfl (hb := hb)
end
section
variable {X : Cx} {N : List Str} {sc : Scope} {k : Nat} {Γ : List Sl} {b : Expr} {pos p : Pos} {x : Str} {i : Nat} {l l2 : List Rep}
/-- x + [..], x a list of one's own -/
theorem dl_catOv (B : BX X N sc k) (hΓ : Γ[i]? = some (.ow l)) (hN : N[i]? = some x) (hv : Vis sc x) (hb : DL X Γ b l2) (hl : l.length + l2.length ≤ sizeLine) (hd : (x == ("__debug__" : Str)) = false := by decide) (hcd : (x == ("__classdict__" : Str)) = false := by decide) : DL X Γ (.BinOp (.Name x p) .Add b pos) (l ++ l2) := fun F0 H0 F H σ en Q q => by
  obtain ⟨a, vs, h1, h2, h3, h4, h5⟩ := en.ow hΓ
  refine .of (pe_op op_cat (pe_var (i := i) (B.hN ▸ hN) (B.hsc ▸ hv) hd hcd) pe_ev) ⟨_, h1, ?_⟩
  exact hb F0 H0 F H σ en _ fun p2 vs2 F2 H2 g2 b1 b2 b3 b4 => ⟨a, p2, vs, vs2, rfl, rfl, g2.h _ _ h3, b3, by rw [← h4.len, ← b4.len]; exact hl, fun q' hq => q q' _ F2 _ (g2.trans (.newOwn g2.s hq)) (g2.h.free hq) (g2.s.free hq) upd_same ((h4.mono g2.f).app b4)⟩
end
theorem pg_never {X : Cx} {tg : Expr} : PG X tg (fun _ _ _ _ => False) := ⟨fun _ _ _ _ _ _ _ _ _ h => h.elim⟩
end DL

set_option Elab.async false
set_option linter.all false
set_option maxRecDepth 100000
set_option maxHeartbeats 4000000
/-! what == tells of pairs, of None or something, of texts -/
namespace DL
open PySem PySem.Spec PyProof.Rows L2
theorem BS.gl {Y : Cx} {N : List Str} {sc : Scope} {x : Str} (B : BS Y N sc) (h : sc.names.lookup x = some .globalImplicit) : Gl Y x := by
  show Y.env.scope.names.lookup x = _
  rw [B.hsc]
  exact h
section
variable {K : PySem.W.Frag} {α β : Type} [DecidableEq α] [DecidableEq β] {R : α → Rep} {R2 : β → Rep} {d : α → PyData} {d2 : β → PyData} {n n2 : Nat}
def opD (d : α → PyData) : Option α → PyData
  | none => .none
  | some a => d a
theorem dat_o (D : Dat K R d n) (hne : ∀ a, PyData.eqv .none (d a) = false ∧ PyData.eqv (d a) .none = false) : Dat K (rOp R) (opD d) n := ⟨fun o => by
    cases o with
    | none => exact dpl_non
    | some a => exact D.dp a, fun o => by
    cases o with
    | none => rfl
    | some a => exact D.lay a, fun o => by
    cases o with
    | none => exact Nat.zero_le _
    | some a => exact D.dep a, fun o p => by
    cases o with
    | none =>
      cases p with
      | none => rfl
      | some b => exact (hne b).1
    | some a =>
      cases p with
      | none => exact (hne a).2
      | some b => exact (D.eq a b).trans (by by_cases h : a = b <;> simp [h])⟩
theorem dat_p (D : Dat K R d n) (D2 : Dat K R2 d2 n2) : Dat K (rP K R R2) (fun p => .tuple [d p.1, d2 p.2]) (max n n2 + 1) := ⟨fun p => dpl_tup2 (D.dp p.1) (D2.dp p.2), fun p => by
    show (PyData.canLay0 (d p.1) && (PyData.canLay0 (d2 p.2) && true)) = true
    rw [D.lay p.1, D2.lay p.2]; rfl, fun p => by
    show max (PyData.depth (d p.1)) (max (PyData.depth (d2 p.2)) 0) + 1 ≤ max n n2 + 1
    have := D.dep p.1
    have := D2.dep p.2
    omega, fun p q => by
    show (PyData.eqv (d p.1) (d q.1) && (PyData.eqv (d2 p.2) (d2 q.2) && true)) = _
    rw [D.eq, D2.eq]
    by_cases h1 : p.1 = q.1 <;> by_cases h2 : p.2 = q.2 <;> simp [h1, h2, Prod.ext_iff]⟩
end
end DL

set_option Elab.async false
set_option linter.all false
set_option maxRecDepth 100000
set_option maxHeartbeats 4000000
/-! sums of multiples of rows -/
namespace DL
abbrev Vc := Nat → Rat
/-- x is a sum of multiples of the rows -/
def Sp : List Vc → Vc → Prop
  | [], x => ∀ j, x j = 0
  | r :: R, x => ∃ c : Rat, Sp R (fun j => x j - c * r j)
theorem Sp.to {R : List Vc} {x y : Vc} (h : Sp R x) (e : ∀ j, x j = y j) : Sp R y := by rw [← funext e]; exact h
theorem sp_zero : ∀ {R : List Vc} {x : Vc}, (∀ j, x j = 0) → Sp R x
  | [], _, h => h
  | r :: R, x, h => ⟨0, sp_zero (R := R) fun j => by rw [h j]; grind⟩
theorem sp_add : ∀ {R : List Vc} {x y : Vc}, Sp R x → Sp R y → Sp R (fun j => x j + y j)
  | [], x, y, h, k => fun j => by show x j + y j = 0; rw [h j, k j]; grind
  | r :: R, x, y, ⟨c, h⟩, ⟨d, k⟩ => ⟨c + d, (sp_add h k).to fun j => by grind⟩
theorem sp_mul : ∀ {R : List Vc} {x : Vc} (a : Rat), Sp R x → Sp R (fun j => a * x j)
  | [], x, a, h => fun j => by show a * x j = 0; rw [h j]; grind
  | r :: R, x, a, ⟨c, h⟩ => ⟨a * c, (sp_mul a h).to fun j => by grind⟩
theorem sp_sub {R : List Vc} {x y : Vc} (h : Sp R x) (k : Sp R y) : Sp R (fun j => x j - y j) := (sp_add h (sp_mul (-1) k)).to fun j => by grind
theorem sp_cons {R : List Vc} {r x : Vc} (h : Sp R x) : Sp (r :: R) x := ⟨0, h.to fun j => by grind⟩
theorem sp_head {R : List Vc} {r : Vc} : Sp (r :: R) r := ⟨1, sp_zero fun j => by grind⟩
theorem sp_mem : ∀ {R : List Vc} {r : Vc}, r ∈ R → Sp R r
  | _ :: R, r, h => by
    rcases List.mem_cons.mp h with e | e
    · subst e; exact sp_head
    · exact sp_cons (sp_mem e)
theorem sp_le : ∀ {R S : List Vc} {x : Vc}, (∀ r ∈ R, Sp S r) → Sp R x → Sp S x
  | [], S, x, _, h => sp_zero h
  | r :: R, S, x, k, ⟨c, h⟩ => by
    have h1 := sp_le (fun r' hr => k r' (List.mem_cons_of_mem _ hr)) h
    exact (sp_add h1 (sp_mul c (k r (List.mem_cons_self ..)))).to fun j => by grind
theorem sp_sub_of {R S : List Vc} {x : Vc} (h : ∀ r ∈ R, r ∈ S) (k : Sp R x) : Sp S x := sp_le (fun r hr => sp_mem (h r hr)) k
theorem sp_perm {R S : List Vc} {x : Vc} (h : ∀ r, r ∈ R ↔ r ∈ S) : Sp R x ↔ Sp S x := ⟨sp_sub_of fun r => (h r).mp, sp_sub_of fun r => (h r).mpr⟩
theorem sp_app {R S : List Vc} {x : Vc} : Sp (R ++ S) x ↔ ∃ y z, Sp R y ∧ Sp S z ∧ ∀ j, x j = y j + z j := by
  induction R generalizing x with
  | nil =>
    constructor
    · exact fun h => ⟨fun _ => 0, x, fun _ => rfl, h, fun j => by grind⟩
    · rintro ⟨y, z, h, k, e⟩
      exact k.to fun j => by rw [e, h j]; grind
  | cons r R ih =>
    constructor
    · rintro ⟨c, h⟩
      obtain ⟨y, z, h1, h2, e⟩ := ih.mp h
      exact ⟨fun j => y j + c * r j, z, ⟨c, h1.to fun j => by grind⟩, h2, fun j => by have := e j; grind⟩
    · rintro ⟨y, z, ⟨c, h1⟩, h2, e⟩
      exact ⟨c, ih.mpr ⟨_, z, h1, h2, fun j => by have := e j; grind⟩⟩
/-- what holds of every row and of sums and multiples holds of all -/
theorem sp_ind {R : List Vc} {P : Vc → Prop} (h0 : P fun _ => 0) (hr : ∀ r ∈ R, ∀ (c : Rat) (y : Vc), P y → P fun j => y j + c * r j) (he : ∀ x y : Vc, (∀ j, x j = y j) → P x → P y) : ∀ {x : Vc}, Sp R x → P x := by
  induction R with
  | nil => exact fun {x} h => he _ x (fun j => (h j).symm) h0
  | cons r R ih =>
    rintro x ⟨c, h⟩
    have := ih (fun r' hr' => hr r' (List.mem_cons_of_mem _ hr')) h
    exact he _ x (fun j => by grind) (hr r (List.mem_cons_self ..) c _ this)
/-! ### cells at which a new table begins -/
def Piv (V : Vc → Prop) (prev : List Nat) (c : Nat) : Prop := ∃ x, V x ∧ (∀ d ∈ prev, x d = 0) ∧ x c ≠ 0
noncomputable instance pivDec (V : Vc → Prop) (p : List Nat) (c : Nat) : Decidable (Piv V p c) := Classical.propDecidable _
noncomputable def gre (V : Vc → Prop) : List Nat → List Nat → List Nat
  | _, [] => []
  | prev, c :: cs => if Piv V prev c then c :: gre V (prev ++ [c]) cs else gre V (prev ++ [c]) cs
theorem gre_snoc (V : Vc → Prop) (c : Nat) : ∀ (cs prev : List Nat), gre V prev (cs ++ [c]) = gre V prev cs ++ (if Piv V (prev ++ cs) c then [c] else [])
  | [], prev => by
    rw [List.nil_append, List.append_nil]
    show (if Piv V prev c then c :: gre V (prev ++ [c]) [] else gre V (prev ++ [c]) []) = [] ++ _
    split <;> rfl
  | d :: cs, prev => by
    show (if Piv V prev d then d :: gre V (prev ++ [d]) (cs ++ [c]) else gre V (prev ++ [d]) (cs ++ [c])) = (if Piv V prev d then d :: gre V (prev ++ [d]) cs else gre V (prev ++ [d]) cs) ++ _
    have ih := gre_snoc V c cs (prev ++ [d])
    rw [List.append_assoc] at ih
    have e : [d] ++ cs = d :: cs := rfl
    rw [e] at ih
    by_cases h : Piv V prev d
    · rw [if_pos h, if_pos h, ih]; rfl
    · rw [if_neg h, if_neg h, ih]
theorem piv_congr {V V' : Vc → Prop} {p p' : List Nat} {c : Nat} (h : ∀ x, V x ↔ V' x) (hp : ∀ d, d ∈ p ↔ d ∈ p') : Piv V p c ↔ Piv V' p' c :=
  ⟨fun ⟨x, a, b, e⟩ => ⟨x, (h x).mp a, fun d hd => b d ((hp d).mpr hd), e⟩, fun ⟨x, a, b, e⟩ => ⟨x, (h x).mpr a, fun d hd => b d ((hp d).mp hd), e⟩⟩
theorem gre_congr {V V' : Vc → Prop} (h : ∀ x, V x ↔ V' x) : ∀ (cs : List Nat) {p p' : List Nat}, (∀ d, d ∈ p ↔ d ∈ p') → gre V p cs = gre V' p' cs
  | [], _, _, _ => rfl
  | c :: cs, p, p', hp => by
    have ih := gre_congr h cs (p := p ++ [c]) (p' := p' ++ [c]) fun d => by rw [List.mem_append, List.mem_append, hp]
    show (if Piv V p c then _ else _) = (if Piv V' p' c then _ else _)
    by_cases k : Piv V p c
    · rw [if_pos k, if_pos ((piv_congr h hp).mp k), ih]
    · rw [if_neg k, if_neg fun z => k ((piv_congr h hp).mpr z), ih]
theorem gre_sub (V : Vc → Prop) : ∀ (cs prev : List Nat), ∀ c ∈ gre V prev cs, c ∈ cs
  | [], _, c, h => h
  | d :: cs, prev, c, h => by
    have h : c ∈ (if Piv V prev d then d :: gre V (prev ++ [d]) cs else gre V (prev ++ [d]) cs) := h
    split at h
    · rcases List.mem_cons.mp h with e | e
      · exact e ▸ List.mem_cons_self ..
      · exact List.mem_cons_of_mem _ (gre_sub V cs _ c e)
    · exact List.mem_cons_of_mem _ (gre_sub V cs _ c h)
theorem gre_len (V : Vc → Prop) : ∀ (cs prev : List Nat), (gre V prev cs).length ≤ cs.length
  | [], _ => Nat.le_refl _
  | d :: cs, prev => by
    show (if Piv V prev d then d :: gre V (prev ++ [d]) cs else gre V (prev ++ [d]) cs).length ≤ _
    have := gre_len V cs (prev ++ [d])
    split <;> simp <;> omega
/-- a table that is 0 at the kept cells, and at those before, is 0 at all that were gone through -/
theorem gre_zero {V : Vc → Prop} {x : Vc} (hx : V x) : ∀ (cs prev : List Nat), (∀ d ∈ prev, x d = 0) → (∀ d ∈ gre V prev cs, x d = 0) → ∀ d ∈ cs, x d = 0
  | [], _, _, _, d, h => by cases h
  | c :: cs, prev, hp, hk, d, h => by
    have e : gre V prev (c :: cs) = if Piv V prev c then c :: gre V (prev ++ [c]) cs else gre V (prev ++ [c]) cs := rfl
    have hc : x c = 0 := by
      by_cases k : Piv V prev c
      · rw [e, if_pos k] at hk
        exact hk c (List.mem_cons_self ..)
      · exact Classical.byContradiction fun z => k ⟨x, hx, hp, z⟩
    have hk2 : ∀ d ∈ gre V (prev ++ [c]) cs, x d = 0 := fun d hd => hk d (by
      rw [e]
      split
      · exact List.mem_cons_of_mem _ hd
      · exact hd)
    rcases List.mem_cons.mp h with z | z
    · exact z ▸ hc
    · exact gre_zero hx cs (prev ++ [c]) (fun d hd => (List.mem_append.mp hd).elim (hp d) fun y => by rw [List.mem_singleton.mp y]; exact hc) hk2 d z
/-- only the kept ones of those before matter -/
theorem piv_kept {V : Vc → Prop} {cs : List Nat} {c : Nat} : Piv V (gre V [] cs) c ↔ Piv V cs c :=
  ⟨fun ⟨x, a, b, e⟩ => ⟨x, a, gre_zero a cs [] (fun d h => by cases h) b, e⟩, fun ⟨x, a, b, e⟩ => ⟨x, a, fun d hd => b d (gre_sub V cs [] d hd), e⟩⟩
/-- the kept ones are kept again -/
theorem gre_again {V : Vc → Prop} (cs : List Nat) : gre V [] (gre V [] cs) = gre V [] cs := by
  induction cs using snoc_ind with
  | nil => rfl
  | snoc cs c ih =>
    rw [gre_snoc, List.nil_append]
    by_cases k : Piv V cs c
    · rw [if_pos k, gre_snoc, List.nil_append, ih, if_pos (piv_kept.mpr k)]
    · rw [if_neg k, List.append_nil, ih]
theorem gre_one {V : Vc → Prop} (cs : List Nat) (c : Nat) : gre V [] (gre V [] cs ++ [c]) = gre V [] cs ++ (if Piv V cs c then [c] else []) := by
  rw [gre_snoc, List.nil_append, gre_again]
  by_cases k : Piv V cs c
  · rw [if_pos k, if_pos (piv_kept.mpr k)]
  · rw [if_neg k, if_neg fun z => k (piv_kept.mp z)]
end DL

set_option Elab.async false
set_option linter.all false
set_option maxRecDepth 100000
set_option maxHeartbeats 4000000
/-! small whole factors: more rows than cells have a sum of small multiples that is 0 at the cells -/
namespace DL
theorem pigeon {α β : Type} [DecidableEq α] [DecidableEq β] {f : α → β} {T : List β} : ∀ {L : List α}, L.Nodup → (∀ a ∈ L, f a ∈ T) → T.length < L.length → ∃ a b, a ∈ L ∧ b ∈ L ∧ a ≠ b ∧ f a = f b := by
  intro L hn ht hl
  refine Classical.byContradiction fun no => ?_
  have inj : ∀ a b, a ∈ L → b ∈ L → f a = f b → a = b := fun a b ha hb e => Classical.byContradiction fun z => no ⟨a, b, ha, hb, z, e⟩
  have nd : (L.map f).Nodup := by
    refine List.pairwise_map.mpr (hn.imp_of_mem fun ha hb h e => h (inj _ _ ha hb e))
  have := nodup_sub nd fun y hy => by
    obtain ⟨a, ha, rfl⟩ := List.mem_map.mp hy
    exact ht a ha
  rw [List.length_map] at this
  omega
def boxL (lo : Int) (m : Nat) : Nat → List (List Int)
  | 0 => [[]]
  | n + 1 => (List.range (m + 1)).flatMap fun x : Nat => (boxL lo m n).map fun l => (lo + (x : Int)) :: l
theorem boxL_mem {lo : Int} {m : Nat} : ∀ {n : Nat} {l : List Int}, l ∈ boxL lo m n ↔ l.length = n ∧ ∀ x ∈ l, lo ≤ x ∧ x ≤ lo + m
  | 0, l => by
    show l ∈ [[]] ↔ _
    rw [List.mem_singleton]
    constructor
    · rintro rfl
      exact ⟨rfl, fun x h => by cases h⟩
    · exact fun h => List.eq_nil_of_length_eq_zero h.1
  | n + 1, l => by
    show l ∈ (List.range (m + 1)).flatMap _ ↔ _
    rw [List.mem_flatMap]
    constructor
    · rintro ⟨x, hx, h⟩
      obtain ⟨l', h', rfl⟩ := List.mem_map.mp h
      obtain ⟨e, k⟩ := boxL_mem.mp h'
      have := List.mem_range.mp hx
      refine ⟨by rw [List.length_cons, e], fun y hy => ?_⟩
      rcases List.mem_cons.mp hy with z | z
      · omega
      · exact k y z
    · rintro ⟨e, k⟩
      cases l with
      | nil => cases e
      | cons y l =>
        have hy := k y (List.mem_cons_self ..)
        refine ⟨(y - lo).toNat, List.mem_range.mpr (by omega), List.mem_map.mpr ⟨l, boxL_mem.mpr ⟨by simpa using e, fun z hz => k z (List.mem_cons_of_mem _ hz)⟩, ?_⟩⟩
        have : lo + ((y - lo).toNat : Int) = y := by omega
        rw [this]
theorem boxL_len {lo : Int} {m : Nat} : ∀ n : Nat, (boxL lo m n).length = (m + 1) ^ n
  | 0 => rfl
  | n + 1 => by
    have ih := boxL_len (lo := lo) (m := m) n
    show ((List.range (m + 1)).flatMap _).length = _
    have : ∀ k : Nat, ((List.range k).flatMap fun x : Nat => (boxL lo m n).map fun l => (lo + (x : Int)) :: l).length = k * (m + 1) ^ n := fun k => by
      induction k with
      | zero => simp
      | succ k ihk => rw [List.range_succ, List.flatMap_append, List.length_append, ihk]; simp [ih]; rw [Nat.add_mul]; omega
    rw [this, Nat.pow_succ, Nat.mul_comm]
theorem boxL_nodup {lo : Int} {m : Nat} : ∀ n : Nat, (boxL lo m n).Nodup
  | 0 => by show [[]].Nodup; simp
  | n + 1 => by
    have ih := boxL_nodup (lo := lo) (m := m) n
    show ((List.range (m + 1)).flatMap _).Nodup
    have : ∀ k : Nat, ((List.range k).flatMap fun x : Nat => (boxL lo m n).map fun l => (lo + (x : Int)) :: l).Nodup := fun k => by
      induction k with
      | zero => simp
      | succ k ihk =>
        rw [List.range_succ, List.flatMap_append]
        refine List.nodup_append.mpr ⟨ihk, ?_, ?_⟩
        · simp only [List.flatMap_cons, List.flatMap_nil, List.append_nil]
          exact List.pairwise_map.mpr (ih.imp fun h e => h (List.cons.inj e).2)
        · intro a ha b hb e
          subst e
          obtain ⟨x, hx, h1⟩ := List.mem_flatMap.mp ha
          obtain ⟨l1, _, e1⟩ := List.mem_map.mp h1
          simp only [List.flatMap_cons, List.flatMap_nil, List.append_nil] at hb
          obtain ⟨l2, _, e2⟩ := List.mem_map.mp hb
          have := List.mem_range.mp hx
          rw [← e1] at e2
          have := (List.cons.inj e2).1
          omega
    exact this _
/-- sums of whole multiples -/
def cmb : List Int → List (List Int) → Nat → Int
  | c :: cs, t :: ts, j => c * t.getD j 0 + cmb cs ts j
  | _, _, _ => 0
theorem cmb_sub : ∀ (a b : List Int) (T : List (List Int)) (j : Nat), a.length = T.length → b.length = T.length → cmb (List.zipWith (· - ·) a b) T j = cmb a T j - cmb b T j
  | [], [], [], j, _, _ => rfl
  | x :: a, y :: b, t :: T, j, h, k => by
    have ih := cmb_sub a b T j (by simpa using h) (by simpa using k)
    show (x - y) * t.getD j 0 + cmb (List.zipWith (· - ·) a b) T j = (x * t.getD j 0 + cmb a T j) - (y * t.getD j 0 + cmb b T j)
    rw [ih, Int.sub_mul]
    omega
  | [], _, _ :: _, _, h, _ => by cases h
  | _ :: _, _, [], _, h, _ => by cases h
  | _, [], _ :: _, _, _, h => by cases h
  | _, _ :: _, [], _, _, h => by cases h
theorem cmb_bound {B M : Nat} {j : Nat} : ∀ (c : List Int) (T : List (List Int)), (∀ x ∈ c, x.natAbs ≤ B) → (∀ t ∈ T, (t.getD j 0).natAbs ≤ M) → (cmb c T j).natAbs ≤ T.length * (B * M)
  | [], T, _, _ => by cases T <;> exact Nat.zero_le _
  | _ :: _, [], _, _ => Nat.zero_le _
  | x :: c, t :: T, h, k => by
    have ih := cmb_bound c T (fun y hy => h y (List.mem_cons_of_mem _ hy)) fun y hy => k y (List.mem_cons_of_mem _ hy)
    have h1 := h x (List.mem_cons_self ..)
    have h2 := k t (List.mem_cons_self ..)
    have h3 : (x * t.getD j 0).natAbs ≤ B * M := by rw [Int.natAbs_mul]; exact Nat.mul_le_mul h1 h2
    show (x * t.getD j 0 + cmb c T j).natAbs ≤ _
    rw [List.length_cons, Nat.add_mul]
    omega
theorem zip_sub_mem : ∀ {a b : List Int} {x : Int}, x ∈ List.zipWith (· - ·) a b → ∃ y z, y ∈ a ∧ z ∈ b ∧ x = y - z
  | y :: a, z :: b, x, h => by
    rcases List.mem_cons.mp h with e | e
    · exact ⟨y, z, List.mem_cons_self .., List.mem_cons_self .., e⟩
    · obtain ⟨y', z', h1, h2, e⟩ := zip_sub_mem e
      exact ⟨y', z', List.mem_cons_of_mem _ h1, List.mem_cons_of_mem _ h2, e⟩
theorem zip_sub_ne : ∀ {a b : List Int}, a.length = b.length → a ≠ b → ∃ x ∈ List.zipWith (· - ·) a b, x ≠ 0
  | [], [], _, h => absurd rfl h
  | y :: a, z :: b, l, h => by
    by_cases e : y = z
    · obtain ⟨x, hx, n⟩ := zip_sub_ne (a := a) (b := b) (by simpa using l) (fun q => h (by rw [e, q]))
      exact ⟨x, List.mem_cons_of_mem _ hx, n⟩
    · exact ⟨y - z, List.mem_cons_self .., by omega⟩
theorem siegel {T : List (List Int)} {ps : List Nat} {M : Nat} (hM : ∀ t ∈ T, ∀ p ∈ ps, (t.getD p 0).natAbs ≤ M) (hn : ps.length < T.length) :
    ∃ c : List Int, c.length = T.length ∧ (∃ x ∈ c, x ≠ 0) ∧ (∀ x ∈ c, x.natAbs ≤ (2 * T.length * M + 1) ^ ps.length) ∧ ∀ p ∈ ps, cmb c T p = 0 := by
  let n := T.length
  let q := 2 * T.length * M + 1
  let B := q ^ ps.length
  let m := 2 * (T.length * (B * M))
  have key : (boxL (-(T.length * (B * M) : Nat)) m ps.length).length < (boxL 0 B n).length := by
    rw [boxL_len, boxL_len]
    have h1 : m + 1 ≤ q * (B + 1) := by
      show 2 * (T.length * (B * M)) + 1 ≤ (2 * T.length * M + 1) * (B + 1)
      have e : 2 * (T.length * (B * M)) = 2 * T.length * M * B := by
        rw [← Nat.mul_assoc, ← Nat.mul_assoc, Nat.mul_right_comm (2 * T.length) B M]
      rw [e, Nat.add_mul, Nat.mul_add]
      omega
    have h2 : (m + 1) ^ ps.length ≤ q ^ ps.length * (B + 1) ^ ps.length := by
      rw [← Nat.mul_pow]
      exact Nat.pow_le_pow_left h1 _
    have h3 : q ^ ps.length * (B + 1) ^ ps.length < (B + 1) * (B + 1) ^ ps.length := Nat.mul_lt_mul_of_pos_right (Nat.lt_succ_self _) (Nat.pow_pos (Nat.succ_pos _))
    have h4 : (B + 1) * (B + 1) ^ ps.length ≤ (B + 1) ^ n := by
      rw [Nat.mul_comm, ← Nat.pow_succ]
      exact Nat.pow_le_pow_right (Nat.succ_pos _) hn
    exact Nat.lt_of_le_of_lt h2 (Nat.lt_of_lt_of_le h3 h4)
  obtain ⟨a, b, ha, hb, ne, e⟩ := pigeon (f := fun c => ps.map fun p => cmb c T p) (boxL_nodup n) (fun a ha => by
    obtain ⟨l, k⟩ := boxL_mem.mp ha
    refine boxL_mem.mpr ⟨List.length_map _, fun x hx => ?_⟩
    obtain ⟨p, hp, rfl⟩ := List.mem_map.mp hx
    have := cmb_bound (B := B) (M := M) (j := p) a T (fun y hy => by have := k y hy; omega) fun t ht => hM t ht p hp
    show -((T.length * (B * M) : Nat) : Int) ≤ cmb a T p ∧ cmb a T p ≤ -((T.length * (B * M) : Nat) : Int) + ((2 * (T.length * (B * M)) : Nat) : Int)
    omega) key
  obtain ⟨la, ka⟩ := boxL_mem.mp ha
  obtain ⟨lb, kb⟩ := boxL_mem.mp hb
  refine ⟨List.zipWith (· - ·) a b, by rw [List.length_zipWith, la, lb]; exact Nat.min_self _, zip_sub_ne (la.trans lb.symm) ne, fun x hx => ?_, fun p hp => ?_⟩
  · obtain ⟨y, z, hy, hz, rfl⟩ := zip_sub_mem hx
    have h1 := ka y hy
    have h2 := kb z hz
    show (y - z).natAbs ≤ B
    omega
  · rw [cmb_sub a b T p la lb]
    have := List.map_inj_left.mp e p hp
    have h : cmb a T p = cmb b T p := this
    omega
end DL

set_option Elab.async false
set_option linter.all false
set_option maxRecDepth 100000
set_option maxHeartbeats 4000000
/-! clearing rows, cell by cell: what stands still -/
namespace DL
open PySem L2
def vi (l : List Int) : Vc := fun j => ((l.getD j 0 : Int) : Rat)
theorem vi_zero {l : List Int} {j : Nat} : vi l j = 0 ↔ l.getD j 0 = 0 := by
  unfold vi
  exact ⟨fun h => by exact_mod_cast h, fun h => by rw [h]; rfl⟩
theorem sp_cmb : ∀ (c : List Int) (T : List (List Int)), Sp (T.map vi) (fun j => ((cmb c T j : Int) : Rat))
  | [], T => sp_zero fun j => by cases T <;> rfl
  | _ :: _, [] => fun j => rfl
  | x :: c, t :: T => ⟨(x : Rat), (sp_cmb c T).to fun j => by
      show ((cmb c T j : Int) : Rat) = ((x * t.getD j 0 + cmb c T j : Int) : Rat) - (x : Rat) * vi t j
      unfold vi
      rw [Rat.intCast_add, Rat.intCast_mul]
      grind⟩
/-- no sum of whole multiples is 0 but that without any -/
def Ind (S : List (List Int)) : Prop := ∀ c : List Int, c.length = S.length → (∀ j, cmb c S j = 0) → ∀ x ∈ c, x = 0
theorem ind_nil : Ind [] := fun c h _ x hx => by rw [List.eq_nil_of_length_eq_zero h] at hx; cases hx
theorem cmb_snoc : ∀ (c : List Int) (S : List (List Int)) (d : Int) (o : List Int) (j : Nat), c.length = S.length → cmb (c ++ [d]) (S ++ [o]) j = cmb c S j + d * o.getD j 0
  | [], [], d, o, j, _ => by show d * o.getD j 0 + 0 = 0 + _; omega
  | x :: c, s :: S, d, o, j, h => by
    have := cmb_snoc c S d o j (by simpa using h)
    show x * s.getD j 0 + cmb (c ++ [d]) (S ++ [o]) j = x * s.getD j 0 + cmb c S j + _
    rw [this]
    omega
  | [], _ :: _, _, _, _, h => by cases h
  | _ :: _, [], _, _, _, h => by cases h
theorem ind_snoc {S : List (List Int)} {o : List Int} (h : Ind S) (n : ¬ Sp (S.map vi) (vi o)) : Ind (S ++ [o]) := fun c hl hz => by
  rcases List.eq_nil_or_concat c with rfl | ⟨c', d, rfl⟩
  · exact fun x hx => by cases hx
  · rw [List.concat_eq_append] at hl hz ⊢
    have l2 : c'.length = S.length := by simpa using hl
    have hz2 : ∀ j, cmb c' S j + d * o.getD j 0 = 0 := fun j => by rw [← cmb_snoc c' S d o j l2]; exact hz j
    by_cases hd : d = 0
    · subst hd
      have := h c' l2 fun j => by have := hz2 j; omega
      intro x hx
      rcases List.mem_append.mp hx with e | e
      · exact this x e
      · exact List.mem_singleton.mp e
    · refine absurd ?_ n
      have q := sp_mul (-(1 / (d : Rat))) (sp_cmb c' S)
      refine q.to fun j => ?_
      have hj := hz2 j
      have hq : ((cmb c' S j : Int) : Rat) + (d : Rat) * ((o.getD j 0 : Int) : Rat) = 0 := by rw [← Rat.intCast_mul, ← Rat.intCast_add, hj]; rfl
      have dq : (d : Rat) ≠ 0 := fun z => hd (by exact_mod_cast z)
      show -(1 / (d : Rat)) * ((cmb c' S j : Int) : Rat) = ((o.getD j 0 : Int) : Rat)
      grind
/-- rows and cells in pairs: each row is not 0 at its own cell alone -/
def Dg : List Vc → List Nat → Prop
  | [], [] => True
  | l :: L, k :: K => l k ≠ 0 ∧ (∀ m ∈ L, m k = 0) ∧ (∀ d ∈ K, l d = 0) ∧ Dg L K
  | _, _ => False
theorem sp_at {R : List Vc} {d : Nat} (h : ∀ r ∈ R, r d = 0) {x : Vc} (hx : Sp R x) : x d = 0 :=
  sp_ind (P := fun x => x d = 0) rfl (fun r hr c y hy => by show y d + c * r d = 0; rw [hy, h r hr]; grind) (fun x y e hx => by rw [← e]; exact hx) hx
theorem dg_zero : ∀ {L : List Vc} {K : List Nat} {y : Vc}, Dg L K → Sp L y → (∀ k ∈ K, y k = 0) → ∀ j, y j = 0
  | [], [], _, _, h, _ => h
  | l :: L, k :: K, y, ⟨h1, h2, h3, h4⟩, ⟨c, hs⟩, hk => by
    have e1 := sp_at h2 hs
    have e2 := hk k (List.mem_cons_self ..)
    have hc : c = 0 := by
      have : c * l k = 0 := by grind
      rcases Rat.mul_eq_zero.mp this with z | z
      · exact z
      · exact absurd z h1
    subst hc
    have hs2 : Sp L y := hs.to fun j => by grind
    exact dg_zero h4 hs2 fun d hd => hk d (List.mem_cons_of_mem _ hd)
  | [], _ :: _, _, h, _, _ => h.elim
  | _ :: _, [], _, h, _, _ => h.elim
theorem dg_snoc : ∀ {L : List Vc} {K : List Nat} {l : Vc} {k : Nat}, Dg L K → (∀ m ∈ L, m k = 0) → l k ≠ 0 → (∀ d ∈ K, l d = 0) → Dg (L ++ [l]) (K ++ [k])
  | [], [], l, k, _, _, h, _ => by
    show l k ≠ 0 ∧ (∀ m ∈ ([] : List Vc), m k = 0) ∧ (∀ d ∈ ([] : List Nat), l d = 0) ∧ True
    exact ⟨h, fun m hm => (List.not_mem_nil hm).elim, fun d hd => (List.not_mem_nil hd).elim, trivial⟩
  | m :: L, d :: K, l, k, ⟨a, b, c, e⟩, h1, h2, h3 => by
    refine ⟨a, fun x hx => ?_, fun x hx => ?_, dg_snoc e (fun x hx => h1 x (List.mem_cons_of_mem _ hx)) h2 fun x hx => h3 x (List.mem_cons_of_mem _ hx)⟩
    · rcases List.mem_append.mp hx with z | z
      · exact b x z
      · rw [List.mem_singleton.mp z]; exact h3 d (List.mem_cons_self ..)
    · rcases List.mem_append.mp hx with z | z
      · exact c x z
      · rw [List.mem_singleton.mp z]; exact h1 m (List.mem_cons_self ..)
  | [], _ :: _, _, _, h, _, _, _ => h.elim
  | _ :: _, [], _, _, h, _, _, _ => h.elim
/-- a multiple of a row and a multiple of the lead, 0 at the cell -/
def Red (l : Vc) (c : Nat) (r r' : Vc) : Prop := (∃ a b : Rat, a ≠ 0 ∧ ∀ j, r' j = a * r j - b * l j) ∧ r' c = 0
theorem dg_red {l : Vc} {c : Nat} : ∀ {L L' : List Vc} {K : List Nat}, Paired (Red l c) L L' → (∀ d ∈ K, l d = 0) → Dg L K → Dg L' K
  | _, _, [], .nil, _, h => h
  | _, _, k :: K, .cons (a := m) (b := m') (l₁ := L) (l₂ := L') ⟨⟨a, b, ha, e⟩, _⟩ t, hl, ⟨h1, h2, h3, h4⟩ => by
    have hk := hl k (List.mem_cons_self ..)
    refine ⟨fun z => ?_, fun m2 hm2 => ?_, fun d hd => ?_, dg_red t (fun d hd => hl d (List.mem_cons_of_mem _ hd)) h4⟩
    · rw [e, hk] at z
      have : a * m k = 0 := by grind
      rcases Rat.mul_eq_zero.mp this with y | y
      · exact ha y
      · exact h1 y
    · have : ∀ {A A' : List Vc}, Paired (Red l c) A A' → (∀ x ∈ A, x k = 0) → ∀ x ∈ A', x k = 0 := by
        intro A A' hp
        induction hp with
        | nil => exact fun _ x hx => by cases hx
        | cons h t ih =>
          obtain ⟨⟨a, b, ha, e⟩, _⟩ := h
          intro hA x hx
          rcases List.mem_cons.mp hx with z | z
          · rw [z, e, hk, hA _ (List.mem_cons_self ..)]; grind
          · exact ih (fun y hy => hA y (List.mem_cons_of_mem _ hy)) x z
      exact this t h2 m2 hm2
    · rw [e, hl d (List.mem_cons_of_mem _ hd), h3 d hd]; grind
  | _, _, [], .cons .., _, h => h.elim
  | _, _, _ :: _, .nil, _, h => h.elim
end DL

set_option Elab.async false
set_option linter.all false
set_option maxRecDepth 100000
set_option maxHeartbeats 4000000
/-! clearing rows: the state after each cell -/
namespace DL
open PySem L2
/-- o leads to r, but for a multiple other than 0 and a sum of leads -/
def Fr (L : List Vc) (r o : List Int) : Prop := ∃ (c : Rat) (y : Vc), c ≠ 0 ∧ Sp L y ∧ ∀ j, vi r j = c * vi o j + y j
structure CI (rows : List (List Int)) (done K : List Nat) (L : List Vc) (R S O : List (List Int)) : Prop where
  dg : Dg L K
  ro : Paired (Fr L) R O
  span : ∀ x, Sp (L ++ R.map vi) x ↔ Sp (rows.map vi) x
  spS : ∀ x, Sp L x ↔ Sp (S.map vi) x
  ks : S.length = K.length
  zero : ∀ r ∈ R, ∀ d ∈ done, r.getD d 0 = 0
  sub : ∀ k ∈ K, k ∈ done
  ind : Ind S
  mS : ∀ s ∈ S, s ∈ rows
  mO : ∀ o ∈ O, o ∈ rows
  gr : K = gre (Sp (rows.map vi)) [] done
theorem paired_mono {α β : Type} {F G : α → β → Prop} (h : ∀ a b, F a b → G a b) : ∀ {l : List α} {m : List β}, Paired F l m → Paired G l m
  | _, _, .nil => .nil
  | _, _, .cons a t => .cons (h _ _ a) (paired_mono h t)
theorem paired_split {α β : Type} {F : α → β → Prop} {r : α} : ∀ {R1 R2 : List α} {O : List β}, Paired F (R1 ++ r :: R2) O → ∃ O1 o O2, O = O1 ++ o :: O2 ∧ Paired F R1 O1 ∧ F r o ∧ Paired F R2 O2
  | [], R2, _, .cons h t => ⟨[], _, _, rfl, .nil, h, t⟩
  | x :: R1, R2, _, .cons h t => by
    obtain ⟨O1, o, O2, e, a, b, c⟩ := paired_split (R1 := R1) t
    exact ⟨_ :: O1, o, O2, by rw [e]; rfl, .cons h a, b, c⟩
theorem paired_app {α β : Type} {F : α → β → Prop} : ∀ {l l2 : List α} {m m2 : List β}, Paired F l m → Paired F l2 m2 → Paired F (l ++ l2) (m ++ m2)
  | _, _, _, _, .nil, k => k
  | _, _, _, _, .cons h t, k => .cons h (paired_app t k)
theorem paired_mem {α β : Type} {F : α → β → Prop} : ∀ {l : List α} {m : List β}, Paired F l m → ∀ b ∈ m, ∃ a ∈ l, F a b
  | _, _, .cons h t, b, hb => by
    rcases List.mem_cons.mp hb with e | e
    · exact ⟨_, List.mem_cons_self .., e ▸ h⟩
    · obtain ⟨a, ha, k⟩ := paired_mem t b e
      exact ⟨a, List.mem_cons_of_mem _ ha, k⟩
theorem paired_memL {α β : Type} {F : α → β → Prop} : ∀ {l : List α} {m : List β}, Paired F l m → ∀ a ∈ l, ∃ b ∈ m, F a b
  | _, _, .cons h t, a, ha => by
    rcases List.mem_cons.mp ha with e | e
    · exact ⟨_, List.mem_cons_self .., e ▸ h⟩
    · obtain ⟨b, hb, k⟩ := paired_memL t a e
      exact ⟨b, List.mem_cons_of_mem _ hb, k⟩
theorem ci_start {rows : List (List Int)} : CI rows [] [] [] rows [] rows where
  dg := trivial
  ro := by
    have : ∀ l : List (List Int), Paired (Fr []) l l := fun l => by
      induction l with
      | nil => exact .nil
      | cons a l ih => exact .cons ⟨1, fun _ => 0, by decide, fun _ => rfl, fun j => by grind⟩ ih
    exact this rows
  span := fun x => Iff.rfl
  spS := fun x => Iff.rfl
  ks := rfl
  zero := fun r _ d h => (List.not_mem_nil h).elim
  sub := fun k h => (List.not_mem_nil h).elim
  ind := ind_nil
  mS := fun s h => (List.not_mem_nil h).elim
  mO := fun _ h => h
  gr := rfl
section
variable {rows : List (List Int)} {done K : List Nat} {L L' : List Vc} {R S O R1 R2 R' : List (List Int)} {c : Nat} {l : List Int}
theorem CI.inV (I : CI rows done K L R S O) {x : Vc} (h : Sp (rows.map vi) x) (hz : ∀ d ∈ done, x d = 0) : Sp (R.map vi) x := by
  obtain ⟨y, z, hy, hz', e⟩ := sp_app.mp ((I.span x).mpr h)
  have z0 : ∀ d ∈ done, z d = 0 := fun d hd => sp_at (fun r hr => by
    obtain ⟨r', h', rfl⟩ := List.mem_map.mp hr
    exact vi_zero.mpr (I.zero r' h' d hd)) hz'
  have y0 := dg_zero I.dg hy fun k hk => by
    have h1 := hz k (I.sub k hk)
    have h2 := z0 k (I.sub k hk)
    have h3 := e k
    grind
  exact hz'.to fun j => by have := e j; have := y0 j; grind
theorem ci_skip (I : CI rows done K L R S O) (h : ∀ r ∈ R, r.getD c 0 = 0) : CI rows (done ++ [c]) K L R S O where
  dg := I.dg
  ro := I.ro
  span := I.span
  spS := I.spS
  ks := I.ks
  zero := fun r hr d hd => (List.mem_append.mp hd).elim (I.zero r hr d) fun z => by rw [List.mem_singleton.mp z]; exact h r hr
  sub := fun k hk => List.mem_append_left _ (I.sub k hk)
  ind := I.ind
  mS := I.mS
  mO := I.mO
  gr := by
    rw [gre_snoc, List.nil_append, ← I.gr, if_neg, List.append_nil]
    rintro ⟨x, h1, h2, h3⟩
    exact h3 (sp_at (fun r hr => by
      obtain ⟨r', h', rfl⟩ := List.mem_map.mp hr
      exact vi_zero.mpr (h r' h')) (I.inV h1 h2))
theorem red_span {l : Vc} {c : Nat} : ∀ {A A' : List Vc}, Paired (Red l c) A A' → ∀ x, Sp (A' ++ [l]) x ↔ Sp (A ++ [l]) x
  | _, _, .nil, _ => Iff.rfl
  | _, _, .cons (a := r) (b := r') (l₁ := A) (l₂ := A') ⟨⟨a, b, ha, e⟩, _⟩ t, x => by
    have ih := red_span t
    have ml : ∀ {B : List Vc}, Sp (B ++ [l]) l := fun {B} => sp_mem (List.mem_append_right _ (List.mem_singleton.mpr rfl))
    constructor
    · refine fun h => sp_le (fun q hq => ?_) h
      rcases List.mem_cons.mp hq with z | z
      · rw [z]
        exact (sp_sub (sp_mul a (sp_head (R := A ++ [l]) (r := r))) (sp_mul b (sp_cons ml))).to fun j => (e j).symm
      · exact sp_cons ((ih q).mp (sp_mem z))
    · refine fun h => sp_le (fun q hq => ?_) h
      rcases List.mem_cons.mp hq with z | z
      · rw [z]
        exact (sp_mul (1 / a) (sp_add (sp_head (R := A' ++ [l]) (r := r')) (sp_mul b (sp_cons ml)))).to fun j => by
          show 1 / a * (r' j + b * l j) = r j
          rw [e j]
          grind
      · exact sp_cons ((ih q).mpr (sp_mem z))
theorem red_fr {L' : List Vc} {r r' o l : List Int} {c : Nat} (hl : Sp L' (vi l)) (h : Red (vi l) c (vi r) (vi r')) (k : Fr L' r o) : Fr L' r' o := by
  obtain ⟨⟨a, b, ha, e⟩, _⟩ := h
  obtain ⟨d, y, hd, hy, e2⟩ := k
  exact ⟨a * d, fun j => a * y j - b * vi l j, fun z => (Rat.mul_eq_zero.mp z).elim ha hd, sp_sub (sp_mul a hy) (sp_mul b hl), fun j => by rw [e, e2]; grind⟩
theorem ci_take (I : CI rows done K L (R1 ++ l :: R2) S O) (hc : l.getD c 0 ≠ 0) (hL : Paired (Red (vi l) c) L L') (hR : Paired (fun r r' => Red (vi l) c (vi r) (vi r')) (R1 ++ R2) R') :
    ∃ o O', o ∈ rows ∧ CI rows (done ++ [c]) (K ++ [c]) (L' ++ [vi l]) R' (S ++ [o]) O' := by
  obtain ⟨O1, o, O2, rfl, p1, po, p2⟩ := paired_split I.ro
  have lz : ∀ d ∈ done, vi l d = 0 := fun d hd => vi_zero.mpr (I.zero l (List.mem_append_right _ (List.mem_cons_self ..)) d hd)
  have lc : vi l c ≠ 0 := fun z => hc (vi_zero.mp z)
  have hK : ∀ d ∈ K, vi l d = 0 := fun d hd => lz d (I.sub d hd)
  have sL : ∀ x, Sp (L' ++ [vi l]) x ↔ Sp (L ++ [vi l]) x := red_span hL
  have mem1 : Sp (L' ++ [vi l]) (vi l) := sp_mem (List.mem_append_right _ (List.mem_singleton.mpr rfl))
  have up : ∀ {x}, Sp L x → Sp (L' ++ [vi l]) x := fun {x} h => (sL x).mpr (sp_sub_of (fun r hr => List.mem_append_left _ hr) h)
  have frup : ∀ r o', Fr L r o' → Fr (L' ++ [vi l]) r o' := fun r o' ⟨d, y, h1, h2, h3⟩ => ⟨d, y, h1, up h2, h3⟩
  obtain ⟨d, y, hd, hy, e⟩ := po
  have oS : Sp (L ++ [vi l]) (vi o) := by
    have h1 : Sp (L ++ [vi l]) (vi l) := sp_mem (List.mem_append_right _ (List.mem_singleton.mpr rfl))
    have h2 : Sp (L ++ [vi l]) y := sp_sub_of (fun r hr => List.mem_append_left _ hr) hy
    exact (sp_mul (1 / d) (sp_sub h1 h2)).to fun j => by
      show 1 / d * (vi l j - y j) = vi o j
      rw [e j]
      grind
  have no : ¬ Sp (S.map vi) (vi o) := fun z => by
    have z1 := (I.spS _).mpr z
    have z2 : Sp L (vi l) := (sp_add (sp_mul d z1) hy).to fun j => (e j).symm
    exact lc (dg_zero I.dg z2 hK c)
  refine ⟨o, O1 ++ O2, I.mO o (List.mem_append_right _ (List.mem_cons_self ..)), ?_⟩
  have L'0 : ∀ m ∈ L', m c = 0 := fun m hm => by
    obtain ⟨r, _, h⟩ := paired_mem hL m hm
    exact h.2
  exact {
    dg := dg_snoc (dg_red hL hK I.dg) L'0 lc hK
    ro := by
      have q : Paired (Fr (L' ++ [vi l])) (R1 ++ R2) (O1 ++ O2) := paired_app (paired_mono frup p1) (paired_mono frup p2)
      have : ∀ {A B : List (List Int)} {A' : List (List Int)}, Paired (fun r r' => Red (vi l) c (vi r) (vi r')) A A' → Paired (Fr (L' ++ [vi l])) A B → Paired (Fr (L' ++ [vi l])) A' B := by
        intro A B A' h1
        induction h1 generalizing B with
        | nil => exact fun h => h
        | cons a t ih =>
          intro h
          cases h with
          | cons b t2 => exact .cons (red_fr mem1 a b) (ih t2)
      exact this hR q
    span := fun x => by
      have hR2 : Paired (Red (vi l) c) ((R1 ++ R2).map vi) (R'.map vi) := by
        have : ∀ {A A' : List (List Int)}, Paired (fun r r' => Red (vi l) c (vi r) (vi r')) A A' → Paired (Red (vi l) c) (A.map vi) (A'.map vi) := by
          intro A A' h
          induction h with
          | nil => exact .nil
          | cons a t ih => exact .cons a ih
        exact this hR
      have e1 := red_span (paired_app hL hR2) x
      rw [← I.span x]
      refine Iff.trans ?_ (e1.trans ?_)
      · exact sp_perm fun r => by simp only [List.mem_append, List.mem_singleton]; exact ⟨fun h => by rcases h with (h | h) | h <;> simp [h], fun h => by rcases h with (h | h) | h <;> simp [h]⟩
      · exact sp_perm fun r => by
          simp only [List.mem_append, List.map_append, List.map_cons, List.mem_cons, List.not_mem_nil, or_false]
          grind
    spS := fun x => by
      rw [sL, List.map_append]
      constructor
      · refine fun h => sp_le (fun q hq => ?_) h
        rcases List.mem_append.mp hq with z | z
        · exact sp_sub_of (fun r hr => List.mem_append_left _ hr) ((I.spS q).mp (sp_mem z))
        · rw [List.mem_singleton.mp z]
          have h1 : Sp (S.map vi ++ [o].map vi) (vi o) := sp_mem (List.mem_append_right _ (List.mem_singleton.mpr rfl))
          have h2 : Sp (S.map vi ++ [o].map vi) y := sp_sub_of (fun r hr => List.mem_append_left _ hr) ((I.spS y).mp hy)
          exact (sp_add (sp_mul d h1) h2).to fun j => (e j).symm
      · refine fun h => sp_le (fun q hq => ?_) h
        rcases List.mem_append.mp hq with z | z
        · exact sp_sub_of (fun r hr => List.mem_append_left _ hr) ((I.spS q).mpr (sp_mem z))
        · rw [show q = vi o from by simpa using z]
          exact oS
    ks := by rw [List.length_append, List.length_append, I.ks]; rfl
    zero := fun r hr d hd => by
      obtain ⟨r0, h0, ⟨⟨a, b, ha, er⟩, hz⟩⟩ := paired_mem hR r hr
      have h0' : r0 ∈ R1 ++ l :: R2 := (List.mem_append.mp h0).elim (fun z => List.mem_append_left _ z) fun z => List.mem_append_right _ (List.mem_cons_of_mem _ z)
      rcases List.mem_append.mp hd with z | z
      · refine vi_zero.mp ?_
        rw [er, vi_zero.mpr (I.zero r0 h0' d z), lz d z]
        grind
      · rw [List.mem_singleton.mp z]
        exact vi_zero.mp hz
    sub := fun k hk => (List.mem_append.mp hk).elim (fun z => List.mem_append_left _ (I.sub k z)) fun z => List.mem_append_right _ z
    ind := ind_snoc I.ind no
    mS := fun s hs => (List.mem_append.mp hs).elim (I.mS s) fun z => by rw [List.mem_singleton.mp z]; exact I.mO o (List.mem_append_right _ (List.mem_cons_self ..))
    mO := fun q hq => I.mO q ((List.mem_append.mp hq).elim (fun z => List.mem_append_left _ z) fun z => List.mem_append_right _ (List.mem_cons_of_mem _ z))
    gr := by
      rw [gre_snoc, List.nil_append, ← I.gr, if_pos]
      refine ⟨vi l, (I.span _).mp (sp_mem (List.mem_append_right _ (List.mem_map.mpr ⟨l, List.mem_append_right _ (List.mem_cons_self ..), rfl⟩))), lz, lc⟩ }
end
/-! ### how large the numbers are -/
def bnd (n M : Nat) : Nat := n * ((2 * n * M + 1) ^ (n - 1) * M)
theorem small_of {T : List (List Int)} {ps : List Nat} {M : Nat} {v : List Int} (hM : ∀ t ∈ T, ∀ j, (t.getD j 0).natAbs ≤ M) (hn : ps.length < T.length) (hi : Ind T) (hv : gl v = 1) (h1 : ∀ x, Sp (T.map vi) x → (∀ p ∈ ps, x p = 0) → ∃ m : Rat, ∀ j, x j = m * vi v j) (j : Nat) :
    (v.getD j 0).natAbs ≤ bnd T.length M := by
  obtain ⟨c, l1, ⟨x0, hx0, nx0⟩, hB, hz⟩ := siegel (T := T) (ps := ps) (M := M) (fun t ht p _ => hM t ht p) hn
  have nz : ∃ i, cmb c T i ≠ 0 := Classical.byContradiction fun z => nx0 (hi c l1 (fun i => Classical.byContradiction fun y => z ⟨i, y⟩) x0 hx0)
  obtain ⟨i0, hi0⟩ := nz
  obtain ⟨m, hm⟩ := h1 _ (sp_cmb c T) fun p hp => by
    show ((cmb c T p : Int) : Rat) = 0
    rw [hz p hp]; rfl
  have hm' : ∀ i, ((cmb c T i : Int) : Rat) = m * ((v.getD i 0 : Int) : Rat) := hm
  have m0 : m ≠ 0 := fun z => hi0 (by
    have := hm' i0
    rw [z] at this
    have h : ((cmb c T i0 : Int) : Rat) = 0 := by rw [this]; grind
    exact_mod_cast h)
  have mult : ∀ i, m.num * v.getD i 0 = cmb c T i * (m.den : Int) := fun i => by
    have h := hm' i
    have hd : ((m.den : Int) : Rat) ≠ 0 := by
      have := m.den_nz
      exact_mod_cast this
    have e : m * ((m.den : Int) : Rat) = (m.num : Rat) := by
      have := Rat.mkRat_eq_div m.num m.den
      rw [Rat.mkRat_self] at this
      have hd2 : (m.den : Rat) ≠ 0 := by exact_mod_cast m.den_nz
      have e3 : ((m.den : Int) : Rat) = (m.den : Rat) := rfl
      rw [e3]
      generalize (m.num : Rat) = A at this ⊢
      generalize (m.den : Rat) = D at this hd2 ⊢
      rw [this]
      grind
    have : (m.num : Rat) * ((v.getD i 0 : Int) : Rat) = ((cmb c T i : Int) : Rat) * ((m.den : Int) : Rat) := by
      rw [h, ← e]
      grind
    exact_mod_cast this
  have den1 : m.den = 1 := by
    have : m.den ∣ gl v := gl_dvd.mpr fun x hx => by
      obtain ⟨i, hi, rfl⟩ := List.mem_iff_getElem.mp hx
      have h := mult i
      rw [List.getD_eq_getElem?_getD, List.getElem?_eq_getElem hi, Option.getD_some] at h
      have hdv : (m.den : Int) ∣ m.num * v[i] := ⟨cmb c T i, by rw [h, Int.mul_comm]⟩
      have cop : Int.gcd (m.den : Int) m.num = 1 := by
        have := m.reduced
        rw [Int.gcd_comm]
        exact this
      have h3 := Int.dvd_gcd_mul_iff_dvd_mul.mpr hdv
      rw [cop] at h3
      simpa using h3
    rw [hv] at this
    exact Nat.dvd_one.mp this
  have fin := mult j
  rw [den1] at fin
  have n0 : m.num ≠ 0 := fun z => m0 (Rat.num_eq_zero.mp z)
  have h2 : (v.getD j 0).natAbs ≤ (cmb c T j).natAbs := by
    have : cmb c T j = m.num * v.getD j 0 := by rw [fin]; simp
    rw [this, Int.natAbs_mul]
    exact Nat.le_mul_of_pos_left _ (by omega)
  refine Nat.le_trans h2 (Nat.le_trans (cmb_bound c T hB fun t ht => hM t ht j) ?_)
  unfold bnd
  refine Nat.mul_le_mul_left _ (Nat.mul_le_mul_right _ (Nat.pow_le_pow_right (Nat.succ_pos _) (by omega)))
end DL

set_option Elab.async false
set_option linter.all false
set_option maxRecDepth 100000
set_option maxHeartbeats 4000000
/-! what the program's clearing gives -/
namespace DL
open PySem L2
/-- without a common divisor, the first number above 0; or zeros -/
def Lw (r : List Int) : Prop := (gl r = 1 ∧ ∃ z, fnz r = some z ∧ 0 < z) ∨ fnz r = none
theorem fnz_zero {r : List Int} (h : fnz r = none) (j : Nat) : r.getD j 0 = 0 := by
  rw [List.getD_eq_getElem?_getD]
  cases e : r[j]? with
  | none => rfl
  | some x => exact fnz_none h x (List.mem_of_getElem? e)
theorem lw_lowest (ns : List Int) : Lw (lowest ns) := by
  cases h : fnz ns with
  | none =>
    have : lowest ns = ns := by unfold lowest; rw [h]
    exact .inr (by rw [this, h])
  | some z =>
    obtain ⟨L, _⟩ := low_lowest h
    exact .inl ⟨L.one, L.pos⟩
theorem getD_mapZ {f : Int → Int} (hf : f 0 = 0) (l : List Int) (j : Nat) : (l.map f).getD j 0 = f (l.getD j 0) := by
  rw [List.getD_eq_getElem?_getD, List.getD_eq_getElem?_getD, List.getElem?_map]
  cases l[j]? with
  | none => exact hf.symm
  | some x => rfl
theorem lowest_mul (ns : List Int) : ∃ a : Rat, a ≠ 0 ∧ ∀ j, vi (lowest ns) j = a * vi ns j := by
  cases h : fnz ns with
  | none =>
    have : lowest ns = ns := by unfold lowest; rw [h]
    exact ⟨1, by decide, fun j => by rw [this]; grind⟩
  | some z =>
    obtain ⟨L, _⟩ := low_lowest h
    obtain ⟨d, hd, e⟩ := L.ex
    have dq : (d : Rat) ≠ 0 := fun y => hd (by exact_mod_cast y)
    refine ⟨1 / (d : Rat), fun y => ?_, fun j => ?_⟩
    · have : (1 : Rat) = 0 := by grind
      exact absurd this (by decide)
    · have : vi ns j = (d : Rat) * vi (lowest ns) j := by
        unfold vi
        rw [← Rat.intCast_mul]
        have h2 : ns.getD j 0 = ((lowest ns).map fun x => d * x).getD j 0 := by rw [← e]
        rw [h2, getD_mapZ (Int.mul_zero d)]
      rw [this]
      grind
def crs (row lead : List Int) (c : Nat) : List Int := (List.range (min row.length lead.length)).map fun i => row.getD i 0 * lead.getD c 0 - lead.getD i 0 * row.getD c 0
def lowd (row lead : List Int) (c : Nat) : List Int := lowest (crs row lead c)
theorem crs_len (row lead : List Int) (c : Nat) : (crs row lead c).length = min row.length lead.length := by unfold crs; rw [List.length_map, List.length_range]
theorem getD_ge {l : List Int} {j : Nat} (h : l.length ≤ j) : l.getD j 0 = 0 := by rw [List.getD_eq_getElem?_getD, List.getElem?_eq_none h]; rfl
theorem crs_at {row lead : List Int} {c n : Nat} (h1 : row.length = n) (h2 : lead.length = n) (j : Nat) : (crs row lead c).getD j 0 = row.getD j 0 * lead.getD c 0 - lead.getD j 0 * row.getD c 0 := by
  by_cases hj : j < n
  · unfold crs
    rw [h1, h2, Nat.min_self, List.getD_eq_getElem?_getD, List.getElem?_map, List.getElem?_range hj]
    rfl
  · rw [getD_ge (by rw [crs_len, h1, h2]; simp; omega), getD_ge (l := row) (j := j) (by omega), getD_ge (l := lead) (j := j) (by omega), Int.zero_mul, Int.zero_mul]
    rfl
theorem lowd_len {row lead : List Int} {c n : Nat} (h1 : row.length = n) (h2 : lead.length = n) : (lowd row lead c).length = n := by
  unfold lowd
  rw [lowest_len, crs_len, h1, h2, Nat.min_self]
theorem lowd_red {row lead : List Int} {c n : Nat} (h1 : row.length = n) (h2 : lead.length = n) (hc : lead.getD c 0 ≠ 0) : Red (vi lead) c (vi row) (vi (lowd row lead c)) := by
  obtain ⟨a, ha, e⟩ := lowest_mul (crs row lead c)
  have up : vi lead c ≠ 0 := fun z => hc (vi_zero.mp z)
  have at' : ∀ j, vi (lowd row lead c) j = a * vi lead c * vi row j - a * vi row c * vi lead j := fun j => by
    unfold lowd
    rw [e]
    have : vi (crs row lead c) j = vi row j * vi lead c - vi lead j * vi row c := by
      unfold vi
      rw [crs_at h1 h2, Rat.intCast_sub, Rat.intCast_mul, Rat.intCast_mul]
    rw [this]
    grind
  exact ⟨⟨a * vi lead c, a * vi row c, fun z => (Rat.mul_eq_zero.mp z).elim ha up, at'⟩, by rw [at']; grind⟩
def wout (rows : List (List Int)) (lead : List Int) (c : Nat) : List (List Int) := rows.map fun row => if row.getD c 0 = 0 then row else lowd row lead c
theorem wout_red {lead : List Int} {c n : Nat} (h2 : lead.length = n) (hc : lead.getD c 0 ≠ 0) : ∀ {rows : List (List Int)}, (∀ r ∈ rows, r.length = n) → Paired (fun r r' => Red (vi lead) c (vi r) (vi r')) rows (wout rows lead c)
  | [], _ => .nil
  | r :: rows, h => by
    refine .cons ?_ (wout_red h2 hc fun q hq => h q (List.mem_cons_of_mem _ hq))
    show Red (vi lead) c (vi r) (vi (if r.getD c 0 = 0 then r else lowd r lead c))
    split
    · rename_i z
      exact ⟨⟨1, 0, by decide, fun j => by grind⟩, vi_zero.mpr z⟩
    · exact lowd_red (h r (List.mem_cons_self ..)) h2 hc
def leadAt : List (List Int) → Nat → Option Nat
  | [], _ => none
  | r :: rs, c => if r.getD c 0 ≠ 0 then some 0 else (leadAt rs c).map (· + 1)
theorem leadAt_some : ∀ {rows : List (List Int)} {c k : Nat}, leadAt rows c = some k → k < rows.length ∧ (rows.getD k []).getD c 0 ≠ 0 ∧ rows = rows.take k ++ rows.getD k [] :: rows.drop (k + 1)
  | [], _, _, h => by cases h
  | r :: rs, c, k, h => by
    have h : (if r.getD c 0 ≠ 0 then some 0 else (leadAt rs c).map (· + 1)) = some k := h
    split at h
    · rename_i hr
      cases h
      exact ⟨Nat.succ_pos _, hr, rfl⟩
    · cases e : leadAt rs c with
      | none => rw [e] at h; cases h
      | some m =>
        rw [e] at h
        cases h
        obtain ⟨a, b, d⟩ := leadAt_some e
        exact ⟨Nat.succ_lt_succ a, b, congrArg (r :: ·) d⟩
theorem leadAt_none : ∀ {rows : List (List Int)} {c : Nat}, leadAt rows c = none → ∀ r ∈ rows, r.getD c 0 = 0
  | [], _, _, r, h => by cases h
  | r :: rs, c, h, q, hq => by
    have h : (if r.getD c 0 ≠ 0 then some 0 else (leadAt rs c).map (· + 1)) = none := h
    split at h
    · cases h
    · rename_i hr
      rcases List.mem_cons.mp hq with z | z
      · rw [z]; exact Classical.byContradiction hr
      · exact leadAt_none (by cases e : leadAt rs c with | none => rfl | some m => rw [e] at h; cases h) q z
theorem leadAt_at : ∀ {rows : List (List Int)} {c k : Nat}, k < rows.length → (∀ j, j < k → (rows.getD j []).getD c 0 = 0) → (rows.getD k []).getD c 0 ≠ 0 → leadAt rows c = some k
  | [], _, _, h, _, _ => absurd h (Nat.not_lt_zero _)
  | r :: rs, c, 0, _, _, h => if_pos h
  | r :: rs, c, k + 1, h1, h2, h3 => by
    show (if r.getD c 0 ≠ 0 then some 0 else (leadAt rs c).map (· + 1)) = _
    rw [if_neg (fun z => z (h2 0 (Nat.succ_pos _))), leadAt_at (k := k) (by simpa using h1) (fun j hj => h2 (j + 1) (by omega)) h3]
    rfl
theorem leadAt_all : ∀ {rows : List (List Int)} {c : Nat}, (∀ j, j < rows.length → (rows.getD j []).getD c 0 = 0) → leadAt rows c = none
  | [], _, _ => rfl
  | r :: rs, c, h => by
    show (if r.getD c 0 ≠ 0 then some 0 else (leadAt rs c).map (· + 1)) = _
    rw [if_neg (fun z => z (h 0 (Nat.succ_pos _))), leadAt_all fun j hj => h (j + 1) (Nat.succ_lt_succ hj)]
    rfl
structure Cst where
  K : List Int
  L : List (List Int)
  R : List (List Int)
def clStep (s : Cst) (c : Int) : Cst := match leadAt s.R c.toNat with
  | none => s
  | some k => ⟨s.K ++ [c], wout s.L (s.R.getD k []) c.toNat ++ [s.R.getD k []], wout (s.R.take k ++ s.R.drop (k + 1)) (s.R.getD k []) c.toNat⟩
def clr (rows : List (List Int)) (cells : List Int) : Cst := cells.foldl clStep ⟨[], [], rows⟩
theorem clr_snoc (rows : List (List Int)) (cells : List Int) (c : Int) : clr rows (cells ++ [c]) = clStep (clr rows cells) c := by
  unfold clr
  rw [List.foldl_append]
  rfl
structure CO (rows : List (List Int)) (n : Nat) (cells : List Int) (s : Cst) (S O : List (List Int)) : Prop where
  ci : CI rows (cells.map Int.toNat) (s.K.map Int.toNat) (s.L.map vi) s.R S O
  len : ∀ r ∈ s.L ++ s.R, r.length = n
  lw : ∀ r ∈ s.L ++ s.R, Lw r
  cnt : s.R.length + s.K.length = rows.length
  kl : s.L.length = s.K.length
  ksub : ∀ k ∈ s.K, k ∈ cells
theorem wout_mem {rows : List (List Int)} {lead : List Int} {c n : Nat} (h1 : ∀ r ∈ rows, r.length = n) (h2 : lead.length = n) (h3 : ∀ r ∈ rows, Lw r) : ∀ r ∈ wout rows lead c, r.length = n ∧ Lw r := fun r hr => by
  obtain ⟨q, hq, rfl⟩ := List.mem_map.mp hr
  split
  · exact ⟨h1 q hq, h3 q hq⟩
  · exact ⟨lowd_len (h1 q hq) h2, lw_lowest _⟩
theorem clr_co {rows : List (List Int)} {n : Nat} (hl : ∀ r ∈ rows, r.length = n) (hw : ∀ r ∈ rows, Lw r) (cells : List Int) : ∃ S O, CO rows n cells (clr rows cells) S O := by
  induction cells using snoc_ind with
  | nil => exact ⟨[], rows, ci_start, by simpa [clr] using hl, by simpa [clr] using hw, by simp [clr], rfl, fun k h => (List.not_mem_nil h).elim⟩
  | snoc cells c ih =>
    obtain ⟨S, O, C⟩ := ih
    rw [clr_snoc]
    generalize clr rows cells = s at C ⊢
    have em : (cells ++ [c]).map Int.toNat = cells.map Int.toNat ++ [c.toNat] := by rw [List.map_append]; rfl
    unfold clStep
    split
    · rename_i h
      exact ⟨S, O, by rw [em]; exact ci_skip C.ci (leadAt_none h), C.len, C.lw, C.cnt, C.kl, fun k hk => List.mem_append_left _ (C.ksub k hk)⟩
    · rename_i k h
      obtain ⟨h1, h2, h3⟩ := leadAt_some h
      generalize hld : s.R.getD k [] = lead at h2 h3 ⊢
      generalize hA : s.R.take k = A at h3 ⊢
      generalize hB : s.R.drop (k + 1) = B at h3 ⊢
      have mR : ∀ r ∈ A ++ B, r ∈ s.R := fun r hr => by
        rw [h3]
        exact (List.mem_append.mp hr).elim (fun z => List.mem_append_left _ z) fun z => List.mem_append_right _ (List.mem_cons_of_mem _ z)
      have mR' : ∀ r ∈ A ++ B, r ∈ s.L ++ s.R := fun r hr => List.mem_append_right _ (mR r hr)
      have ml : lead ∈ s.L ++ s.R := List.mem_append_right _ (by rw [h3]; exact List.mem_append_right _ (List.mem_cons_self ..))
      have ll := C.len lead ml
      have C' := C.ci
      rw [h3] at C'
      have rL : Paired (Red (vi lead) c.toNat) (s.L.map vi) ((wout s.L lead c.toNat).map vi) := by
        have : ∀ {P Q : List (List Int)}, Paired (fun r r' => Red (vi lead) c.toNat (vi r) (vi r')) P Q → Paired (Red (vi lead) c.toNat) (P.map vi) (Q.map vi) := by
          intro P Q h
          induction h with
          | nil => exact .nil
          | cons a t ih => exact .cons a ih
        exact this (wout_red ll h2 fun r hr => C.len r (List.mem_append_left _ hr))
      obtain ⟨o, O', ho, I⟩ := ci_take C' h2 rL (wout_red ll h2 fun r hr => C.len r (mR' r hr))
      have lA := congrArg List.length h3
      rw [List.length_append, List.length_cons] at lA
      have m1 := wout_mem (rows := s.L) (c := c.toNat) (fun r hr => C.len r (List.mem_append_left _ hr)) ll fun r hr => C.lw r (List.mem_append_left _ hr)
      have m2 := wout_mem (rows := A ++ B) (c := c.toNat) (fun r hr => C.len r (mR' r hr)) ll fun r hr => C.lw r (mR' r hr)
      have all : ∀ r ∈ (wout s.L lead c.toNat ++ [lead]) ++ wout (A ++ B) lead c.toNat, r.length = n ∧ Lw r := fun r hr => by
        rcases List.mem_append.mp hr with z | z
        · rcases List.mem_append.mp z with y | y
          · exact m1 r y
          · rw [List.mem_singleton.mp y]; exact ⟨ll, C.lw lead ml⟩
        · exact m2 r z
      refine ⟨S ++ [o], O', ?_, fun r hr => (all r hr).1, fun r hr => (all r hr).2, ?_, ?_, fun q hq => ?_⟩
      · show CI rows ((cells ++ [c]).map Int.toNat) ((s.K ++ [c]).map Int.toNat) ((wout s.L lead c.toNat ++ [lead]).map vi) _ _ _
        rw [em, List.map_append, List.map_append]
        exact I
      · show (wout (A ++ B) lead c.toNat).length + (s.K ++ [c]).length = _
        have := C.cnt
        unfold wout
        rw [List.length_map, List.length_append, List.length_append, List.length_singleton]
        omega
      · show (wout s.L lead c.toNat ++ [lead]).length = (s.K ++ [c]).length
        unfold wout
        rw [List.length_append, List.length_map, List.length_append, C.kl]
        rfl
      · rcases List.mem_append.mp hq with z | z
        · exact List.mem_append_left _ (C.ksub q z)
        · exact List.mem_append_right _ z
/-! ### sizes -/
theorem bnd_mono {n m M : Nat} (h : n ≤ m) : bnd n M ≤ bnd m M := by
  unfold bnd
  refine Nat.mul_le_mul h (Nat.mul_le_mul_right _ ?_)
  refine Nat.le_trans (Nat.pow_le_pow_left (m := 2 * m * M + 1) (by have := Nat.mul_le_mul_right M (Nat.mul_le_mul_left 2 h); omega) _) (Nat.pow_le_pow_right (Nat.succ_pos _) (by omega))
theorem dg_one : ∀ {L : List Vc} {K : List Nat} {l : Vc}, Dg L K → l ∈ L → ∃ ps : List Nat, ps.length + 1 = K.length ∧ ∀ x, Sp L x → (∀ p ∈ ps, x p = 0) → ∃ m : Rat, ∀ j, x j = m * l j
  | l0 :: L, k :: K, l, ⟨h1, h2, h3, h4⟩, h => by
    by_cases e : l = l0
    · subst e
      refine ⟨K, rfl, fun x ⟨c, hs⟩ hz => ⟨c, fun j => ?_⟩⟩
      have := dg_zero h4 hs fun d hd => by
        show x d - c * l d = 0
        rw [hz d hd, h3 d hd]; grind
      have := this j
      grind
    · obtain ⟨ps, hl, hp⟩ := dg_one h4 ((List.mem_cons.mp h).resolve_left e)
      refine ⟨k :: ps, by rw [List.length_cons, List.length_cons, hl], fun x ⟨c, hs⟩ hz => ?_⟩
      have e1 := sp_at h2 hs
      have e2 := hz k (List.mem_cons_self ..)
      have hc : c = 0 := by
        have : c * l0 k = 0 := by grind
        exact (Rat.mul_eq_zero.mp this).resolve_right h1
      subst hc
      exact hp x (hs.to fun j => by grind) fun p hp' => hz p (List.mem_cons_of_mem _ hp')
  | [], _, _, _, h => (List.not_mem_nil h).elim
  | _ :: _, [], _, h, _ => h.elim
section
variable {rows : List (List Int)} {done K : List Nat} {L : List Vc} {R S O : List (List Int)} {M n : Nat}
theorem small_rest (I : CI rows done K L R S O) (hM : ∀ t ∈ rows, ∀ j, (t.getD j 0).natAbs ≤ M) {r : List Int} (hr : r ∈ R) (hg : gl r = 1) (j : Nat) : (r.getD j 0).natAbs ≤ bnd (K.length + 1) M := by
  obtain ⟨o, ho, c, y, hc, hy, e⟩ := paired_memL I.ro r hr
  have rK : ∀ k ∈ K, vi r k = 0 := fun k hk => vi_zero.mpr (I.zero r hr k (I.sub k hk))
  have nz : ¬ Sp (S.map vi) (vi o) := fun z => by
    have z1 : Sp L (vi r) := (sp_add (sp_mul c ((I.spS _).mpr z)) hy).to fun j => (e j).symm
    have z2 := dg_zero I.dg z1 rK
    have : gl r = 0 := by
      have h0 : ∀ x ∈ r, x = 0 := fun x hx => by
        obtain ⟨i, hi, rfl⟩ := List.mem_iff_getElem.mp hx
        have := vi_zero.mp (z2 i)
        rwa [List.getD_eq_getElem?_getD, List.getElem?_eq_getElem hi, Option.getD_some] at this
      have : (0 : Nat) ∣ gl r := gl_dvd.mpr fun x hx => by rw [h0 x hx]; exact Int.dvd_refl _
      exact Nat.zero_dvd.mp this
    omega
  have iT := ind_snoc I.ind nz
  have lT : (S ++ [o]).length = K.length + 1 := by rw [List.length_append, I.ks]; rfl
  have := small_of (T := S ++ [o]) (ps := K) (M := M) (v := r) (fun t ht => hM t ((List.mem_append.mp ht).elim (I.mS t) fun z => by rw [List.mem_singleton.mp z]; exact I.mO o ho)) (by rw [lT]; exact Nat.lt_succ_self _) iT hg (fun x hx hz => by
    rw [List.map_append] at hx
    obtain ⟨a, b, ha, hb, ex⟩ := sp_app.mp hx
    obtain ⟨d, hd⟩ := hb
    have hb' : ∀ i, b i = d * vi o i := fun i => by have := hd i; grind
    have inL : Sp L (fun i => x i - d / c * vi r i) := (sp_sub ((I.spS a).mpr ha) (sp_mul (d / c) hy)).to fun i => by
      rw [ex i, hb' i, e i]; grind
    have z := dg_zero I.dg inL fun k hk => by
      show x k - d / c * vi r k = 0
      rw [hz k hk, rK k hk]; grind
    exact ⟨d / c, fun i => by have := z i; grind⟩) j
  rwa [lT] at this
theorem small_lead (I : CI rows done K L R S O) (hM : ∀ t ∈ rows, ∀ j, (t.getD j 0).natAbs ≤ M) {l : List Int} (hl : vi l ∈ L) (hg : gl l = 1) (j : Nat) : (l.getD j 0).natAbs ≤ bnd K.length M := by
  obtain ⟨ps, h1, h2⟩ := dg_one I.dg hl
  have := small_of (T := S) (ps := ps) (M := M) (v := l) (fun t ht => hM t (I.mS t ht)) (by rw [I.ks]; omega) I.ind hg (fun x hx hz => h2 x ((I.spS x).mpr hx) hz) j
  rwa [I.ks] at this
theorem small_all {cells : List Int} {s : Cst} (C : CO rows n cells s S O) (hM : ∀ t ∈ rows, ∀ j, (t.getD j 0).natAbs ≤ M) : ∀ r ∈ s.L ++ s.R, ∀ j, (r.getD j 0).natAbs ≤ bnd rows.length M := fun r hr j => by
  rcases C.lw r hr with ⟨hg, _⟩ | hz
  · have cn := C.cnt
    rcases List.mem_append.mp hr with h | h
    · exact Nat.le_trans (small_lead C.ci hM (List.mem_map.mpr ⟨r, h, rfl⟩) hg j) (bnd_mono (by rw [List.length_map]; omega))
    · have := List.length_pos_of_mem h
      exact Nat.le_trans (small_rest C.ci hM h hg j) (bnd_mono (by rw [List.length_map]; omega))
  · rw [fnz_zero hz j]
    exact Nat.zero_le _
end
end DL

set_option Elab.async false
set_option linter.all false
set_option maxRecDepth 100000
set_option maxHeartbeats 4000000
/-! frames; what the law's own clearing counts -/
namespace DL
open PySem L2
def vq (l : List Rat) : Vc := fun j => l.getD j 0
theorem getD_mapQ (l : List Int) (j : Nat) : (l.map fun n : Int => (n : Rat)).getD j 0 = ((l.getD j 0 : Int) : Rat) := by
  rw [List.getD_eq_getElem?_getD, List.getD_eq_getElem?_getD, List.getElem?_map]
  cases l[j]? with
  | none => rfl
  | some x => rfl
theorem vq_int (l : List Int) : vq (l.map fun n : Int => (n : Rat)) = vi l := funext fun j => getD_mapQ l j
theorem tops_mul (qs : List Rat) : ∃ a : Rat, a ≠ 0 ∧ ∀ j, vi (tops qs) j = a * vq qs j := by
  refine ⟨(((lcmD qs : Nat) : Int) : Rat), lcmQ_ne qs, fun j => ?_⟩
  unfold vi vq
  by_cases hj : j < qs.length
  · rw [tops_at hj, topq_is (lcmD_dvd (by rw [List.getD_eq_getElem?_getD, List.getElem?_eq_getElem hj]; exact List.getElem_mem _))]
    grind
  · rw [getD_ge (by rw [tops_len]; omega), List.getD_eq_getElem?_getD, List.getElem?_eq_none (by omega)]
    show ((0 : Int) : Rat) = _ * (0 : Rat)
    grind
theorem prim_mul (qs : List Rat) : ∃ a : Rat, a ≠ 0 ∧ ∀ j, vi (prim qs) j = a * vq qs j := by
  obtain ⟨a, ha, h1⟩ := lowest_mul (tops qs)
  obtain ⟨b, hb, h2⟩ := tops_mul qs
  exact ⟨a * b, fun z => (Rat.mul_eq_zero.mp z).elim ha hb, fun j => by
    unfold prim
    rw [h1, h2]; grind⟩
theorem prim_span (rows : List (List Rat)) (x : Vc) : Sp ((rows.map prim).map vi) x ↔ Sp (rows.map vq) x := by
  constructor
  · refine sp_le fun r hr => ?_
    obtain ⟨q, hq, rfl⟩ := List.mem_map.mp hr
    obtain ⟨l, hl, rfl⟩ := List.mem_map.mp hq
    obtain ⟨a, ha, e⟩ := prim_mul l
    exact (sp_mul a (sp_mem (List.mem_map.mpr ⟨l, hl, rfl⟩))).to fun j => (e j).symm
  · refine sp_le fun r hr => ?_
    obtain ⟨l, hl, rfl⟩ := List.mem_map.mp hr
    obtain ⟨a, ha, e⟩ := prim_mul l
    exact (sp_mul (1 / a) (sp_mem (List.mem_map.mpr ⟨prim l, List.mem_map.mpr ⟨l, hl, rfl⟩, rfl⟩))).to fun j => by
      show 1 / a * vi (prim l) j = vq l j
      rw [e j]
      grind
theorem lw_prim (qs : List Rat) : Lw (prim qs) := lw_lowest _
/-- the cells 0, 1, .. -/
def upto (n : Nat) : List Int := (List.range n).map fun i : Nat => (i : Int)
theorem upto_nat (n : Nat) : (upto n).map Int.toNat = List.range n := by
  unfold upto
  rw [List.map_map]
  exact (List.map_congr_left fun i _ => rfl).trans (List.map_id _)
def frameZ (rows : List (List Int)) (n : Nat) : List (List Int) := (clr rows (upto n)).L
def frameQ (rows : List (List Rat)) (n : Nat) : List (List Int) := frameZ (rows.map prim) n
/-- a frame of the tables V of n cells -/
structure FO (F : List (List Int)) (n : Nat) (V : Vc → Prop) : Prop where
  len : ∀ r ∈ F, r.length = n
  lw : ∀ r ∈ F, Lw r
  dg : Dg (F.map vi) (gre V [] (List.range n))
  span : ∀ x, Sp (F.map vi) x ↔ V x
theorem zero_len {R : List (List Int)} {n : Nat} (hl : ∀ r ∈ R, r.length = n) (hz : ∀ r ∈ R, ∀ d ∈ List.range n, r.getD d 0 = 0) : ∀ r ∈ R, ∀ j, vi r j = 0 := fun r hr j => vi_zero.mpr (by
  by_cases h : j < n
  · exact hz r hr j (List.mem_range.mpr h)
  · exact getD_ge (by rw [hl r hr]; omega))
theorem frameZ_fo {rows : List (List Int)} {n : Nat} (hl : ∀ r ∈ rows, r.length = n) (hw : ∀ r ∈ rows, Lw r) : FO (frameZ rows n) n (Sp (rows.map vi)) := by
  obtain ⟨S, O, C⟩ := clr_co hl hw (upto n)
  have I := C.ci
  rw [upto_nat] at I
  refine ⟨fun r hr => C.len r (List.mem_append_left _ hr), fun r hr => C.lw r (List.mem_append_left _ hr), ?_, fun x => ?_⟩
  · have := I.dg
    rwa [I.gr] at this
  · rw [← I.span x]
    refine ⟨fun h => sp_sub_of (fun r hr => List.mem_append_left _ hr) h, fun h => ?_⟩
    refine sp_le (fun r hr => ?_) h
    rcases List.mem_append.mp hr with z | z
    · exact sp_mem z
    · obtain ⟨q, hq, rfl⟩ := List.mem_map.mp z
      exact sp_zero (zero_len (fun r hr => C.len r (List.mem_append_right _ hr)) I.zero q hq)
theorem FO.congr {F : List (List Int)} {n : Nat} {V V' : Vc → Prop} (h : FO F n V) (e : ∀ x, V x ↔ V' x) : FO F n V' :=
  ⟨h.len, h.lw, by rw [← gre_congr e (List.range n) (p := []) (p' := []) fun _ => Iff.rfl]; exact h.dg, fun x => (h.span x).trans (e x)⟩
theorem frameQ_fo {rows : List (List Rat)} {n : Nat} (hl : ∀ r ∈ rows, r.length = n) : FO (frameQ rows n) n (Sp (rows.map vq)) :=
  (frameZ_fo (rows := rows.map prim) (fun r hr => by obtain ⟨q, hq, rfl⟩ := List.mem_map.mp hr; rw [prim_len]; exact hl q hq) (fun r hr => by obtain ⟨q, hq, rfl⟩ := List.mem_map.mp hr; exact lw_prim q)).congr (prim_span rows)
theorem frameZ_small {rows : List (List Int)} {n M : Nat} (hl : ∀ r ∈ rows, r.length = n) (hw : ∀ r ∈ rows, Lw r) (hM : ∀ t ∈ rows, ∀ j, (t.getD j 0).natAbs ≤ M) : ∀ r ∈ frameZ rows n, ∀ j, (r.getD j 0).natAbs ≤ bnd rows.length M := fun r hr => by
  obtain ⟨S, O, C⟩ := clr_co hl hw (upto n)
  exact small_all C hM r (List.mem_append_left _ hr)
theorem frameZ_count {rows : List (List Int)} {n : Nat} (hl : ∀ r ∈ rows, r.length = n) (hw : ∀ r ∈ rows, Lw r) : (frameZ rows n).length ≤ rows.length ∧ (frameZ rows n).length ≤ n := by
  obtain ⟨S, O, C⟩ := clr_co hl hw (upto n)
  have h1 := C.cnt
  have h2 := C.kl
  have h3 := congrArg List.length C.ci.gr
  rw [List.length_map, upto_nat] at h3
  have h4 := gre_len (Sp (rows.map vi)) (List.range n) []
  rw [List.length_range] at h4
  unfold frameZ
  omega
/-! ### the law's own clearing -/
def lcl (row lead : List Int) (c : Nat) : List Int :=
  let made := (List.range row.length).map fun k => row.getD k 0 * lead.getD c 0 - lead.getD k 0 * row.getD c 0
  if gl made = 0 then made else made.map fun x => x.fdiv (gl made : Nat)
def lmade (row lead : List Int) (c : Nat) : List Int := (List.range row.length).map fun k => row.getD k 0 * lead.getD c 0 - lead.getD k 0 * row.getD c 0
theorem lmade_at {row lead : List Int} {c n : Nat} (h1 : row.length = n) (h2 : lead.length = n) (j : Nat) : (lmade row lead c).getD j 0 = row.getD j 0 * lead.getD c 0 - lead.getD j 0 * row.getD c 0 := by
  have : lmade row lead c = crs row lead c := by unfold lmade crs; rw [h1, h2, Nat.min_self]
  rw [this]
  exact crs_at h1 h2 j
theorem lcl_len (row lead : List Int) (c : Nat) : (lcl row lead c).length = row.length := by
  unfold lcl
  dsimp only
  split <;> simp
theorem gl_div {ns : List Int} (h : gl ns ≠ 0) : (∀ j, vi (ns.map fun x => x.fdiv (gl ns : Nat)) j = 1 / (((gl ns : Nat) : Int) : Rat) * vi ns j) ∧ gl (ns.map fun x => x.fdiv (gl ns : Nat)) = 1 := by
  have hg : ((gl ns : Nat) : Int) ≠ 0 := by omega
  have e2 : ns = (ns.map fun x => x.fdiv (gl ns : Nat)).map fun x => ((gl ns : Nat) : Int) * x := by
    rw [List.map_map]
    refine (List.map_id ns).symm.trans (List.map_congr_left fun x hx => ?_)
    obtain ⟨t, ht⟩ := (gl_dvd (d := gl ns) (ns := ns)).mp (Nat.dvd_refl _) x hx
    show x = ((gl ns : Nat) : Int) * x.fdiv (gl ns : Nat)
    rw [ht, Int.mul_fdiv_cancel_left _ hg]
  have hq : (((gl ns : Nat) : Int) : Rat) ≠ 0 := fun z => hg (by exact_mod_cast z)
  constructor
  · intro j
    have : vi ns j = (((gl ns : Nat) : Int) : Rat) * vi (ns.map fun x => x.fdiv (gl ns : Nat)) j := by
      unfold vi
      rw [← Rat.intCast_mul]
      have h2 : ns.getD j 0 = ((ns.map fun x => x.fdiv (gl ns : Nat)).map fun x => ((gl ns : Nat) : Int) * x).getD j 0 := by rw [← e2]
      rw [h2, getD_mapZ (f := fun x => ((gl ns : Nat) : Int) * x) (Int.mul_zero _)]
    rw [this]
    grind
  · have h3 := gl_mulI (k := ((gl ns : Nat) : Int)) (ns := ns.map fun x => x.fdiv (gl ns : Nat))
    rw [← e2] at h3
    have h4 : (((gl ns : Nat) : Int)).natAbs = gl ns := by omega
    rw [h4] at h3
    exact (Nat.eq_of_mul_eq_mul_left (by omega : 0 < gl ns) (by rw [Nat.mul_one]; exact h3)).symm
theorem gl_zero {ns : List Int} (h : gl ns = 0) (j : Nat) : ns.getD j 0 = 0 := by
  rw [List.getD_eq_getElem?_getD]
  cases e : ns[j]? with
  | none => rfl
  | some x =>
    have := (gl_dvd (d := gl ns) (ns := ns)).mp (Nat.dvd_refl _) x (List.mem_of_getElem? e)
    rw [h] at this
    exact Int.zero_dvd.mp this
theorem lcl_red {row lead : List Int} {c n : Nat} (h1 : row.length = n) (h2 : lead.length = n) (hc : lead.getD c 0 ≠ 0) : Red (vi lead) c (vi row) (vi (lcl row lead c)) ∧ (gl (lcl row lead c) = 1 ∨ ∀ j, (lcl row lead c).getD j 0 = 0) := by
  have up : vi lead c ≠ 0 := fun z => hc (vi_zero.mp z)
  have hm : ∀ j, vi (lmade row lead c) j = vi row j * vi lead c - vi lead j * vi row c := fun j => by
    unfold vi
    rw [lmade_at h1 h2, Rat.intCast_sub, Rat.intCast_mul, Rat.intCast_mul]
  have e : lcl row lead c = if gl (lmade row lead c) = 0 then lmade row lead c else (lmade row lead c).map fun x => x.fdiv (gl (lmade row lead c) : Nat) := rfl
  rw [e]
  by_cases hg : gl (lmade row lead c) = 0
  · rw [if_pos hg]
    exact ⟨⟨⟨vi lead c, vi row c, up, fun j => by rw [hm]; grind⟩, by rw [hm]; grind⟩, .inr fun j => gl_zero hg j⟩
  · rw [if_neg hg]
    obtain ⟨k1, k2⟩ := gl_div hg
    have hq : (1 : Rat) / (((gl (lmade row lead c) : Nat) : Int) : Rat) ≠ 0 := fun z => by
      have hq : (((gl (lmade row lead c) : Nat) : Int) : Rat) ≠ 0 := fun z => hg (by exact_mod_cast z)
      have : (1 : Rat) = 0 := by grind
      exact absurd this (by decide)
    generalize (1 : Rat) / (((gl (lmade row lead c) : Nat) : Int) : Rat) = g at k1 hq
    exact ⟨⟨⟨g * vi lead c, g * vi row c, fun z => (Rat.mul_eq_zero.mp z).elim hq up, fun j => by rw [k1, hm]; grind⟩, by rw [k1, hm]; grind⟩, .inl k2⟩
/-- the law's state: how many, the rows left -/
def lkStep (s : Nat × List (List Int)) (c : Nat) : Nat × List (List Int) := match leadAt s.2 c with
  | none => s
  | some k => (s.1 + 1, (s.2.take k ++ s.2.drop (k + 1)).map fun row => lcl row (s.2.getD k []) c)
def lk (rows : List (List Int)) (i : Nat) : Nat × List (List Int) := (List.range i).foldl lkStep (0, rows)
theorem lk_succ (rows : List (List Int)) (i : Nat) : lk rows (i + 1) = lkStep (lk rows i) i := by
  unfold lk
  rw [List.range_succ, List.foldl_append]
  rfl
structure LO (rows : List (List Int)) (n i : Nat) (s : Nat × List (List Int)) (K : List Nat) (L : List Vc) (S O : List (List Int)) : Prop where
  ci : CI rows (List.range i) K L s.2 S O
  k : s.1 = K.length
  len : ∀ r ∈ s.2, r.length = n
  lw : ∀ r ∈ s.2, gl r = 1 ∨ (∀ j, r.getD j 0 = 0) ∨ r ∈ rows
  cnt : s.2.length + K.length = rows.length
theorem lk_lo {rows : List (List Int)} {n : Nat} (hl : ∀ r ∈ rows, r.length = n) : ∀ i, ∃ K L S O, LO rows n i (lk rows i) K L S O
  | 0 => ⟨[], [], [], rows, ci_start, rfl, hl, fun r h => .inr (.inr h), rfl⟩
  | i + 1 => by
    obtain ⟨K, L, S, O, C⟩ := lk_lo hl i
    rw [lk_succ]
    generalize lk rows i = s at C ⊢
    unfold lkStep
    split
    · rename_i h
      exact ⟨K, L, S, O, by rw [List.range_succ]; exact ci_skip C.ci (leadAt_none h), C.k, C.len, C.lw, C.cnt⟩
    · rename_i k h
      obtain ⟨h1, h2, h3⟩ := leadAt_some h
      generalize hld : s.2.getD k [] = lead at h2 h3 ⊢
      generalize hA : s.2.take k = A at h3 ⊢
      generalize hB : s.2.drop (k + 1) = B at h3 ⊢
      have mR : ∀ r ∈ A ++ B, r ∈ s.2 := fun r hr => by
        rw [h3]
        exact (List.mem_append.mp hr).elim (fun z => List.mem_append_left _ z) fun z => List.mem_append_right _ (List.mem_cons_of_mem _ z)
      have ml : lead ∈ s.2 := by rw [h3]; exact List.mem_append_right _ (List.mem_cons_self ..)
      have ll := C.len lead ml
      have C' := C.ci
      rw [h3] at C'
      have rL : Paired (Red (vi lead) i) L (L.map fun m => fun j => vi lead i * m j - m i * vi lead j) := by
        have up : vi lead i ≠ 0 := fun z => h2 (vi_zero.mp z)
        have : ∀ P : List Vc, Paired (Red (vi lead) i) P (P.map fun m => fun j => vi lead i * m j - m i * vi lead j) := fun P => by
          induction P with
          | nil => exact .nil
          | cons m P ih => exact .cons ⟨⟨vi lead i, m i, up, fun j => rfl⟩, by show vi lead i * m i - m i * vi lead i = 0; grind⟩ ih
        exact this L
      have rR : Paired (fun r r' => Red (vi lead) i (vi r) (vi r')) (A ++ B) ((A ++ B).map fun row => lcl row lead i) := by
        have : ∀ P : List (List Int), (∀ r ∈ P, r.length = n) → Paired (fun r r' => Red (vi lead) i (vi r) (vi r')) P (P.map fun row => lcl row lead i) := fun P hP => by
          induction P with
          | nil => exact .nil
          | cons m P ih => exact .cons (lcl_red (hP m (List.mem_cons_self ..)) ll h2).1 (ih fun r hr => hP r (List.mem_cons_of_mem _ hr))
        exact this _ fun r hr => C.len r (mR r hr)
      obtain ⟨o, O', ho, I⟩ := ci_take C' h2 rL rR
      have lA := congrArg List.length h3
      rw [List.length_append, List.length_cons] at lA
      refine ⟨K ++ [i], _, S ++ [o], O', by rw [List.range_succ]; exact I, by rw [List.length_append, C.k]; rfl, fun r hr => ?_, fun r hr => ?_, ?_⟩
      · obtain ⟨q, hq, rfl⟩ := List.mem_map.mp hr
        rw [lcl_len]
        exact C.len q (mR q hq)
      · obtain ⟨q, hq, rfl⟩ := List.mem_map.mp hr
        rcases (lcl_red (C.len q (mR q hq)) ll h2).2 with z | z
        · exact .inl z
        · exact .inr (.inl z)
      · have := C.cnt
        show ((A ++ B).map _).length + (K ++ [i]).length = _
        rw [List.length_map, List.length_append, List.length_append, List.length_singleton]
        omega
theorem lk_small {rows : List (List Int)} {n i M : Nat} {s : Nat × List (List Int)} {K : List Nat} {L : List Vc} {S O : List (List Int)} (C : LO rows n i s K L S O) (hM : ∀ t ∈ rows, ∀ j, (t.getD j 0).natAbs ≤ M) : ∀ r ∈ s.2, ∀ j, (r.getD j 0).natAbs ≤ bnd rows.length M + M := fun r hr j => by
  rcases C.lw r hr with h | h | h
  · have := List.length_pos_of_mem hr
    have cn := C.cnt
    have := small_rest C.ci hM hr h j
    have := bnd_mono (n := K.length + 1) (m := rows.length) (M := M) (by omega)
    omega
  · rw [h j]; exact Nat.zero_le _
  · have := hM r h j
    omega
/-! rows cut down to some cells -/
def cutr (lot : List Nat) (r : List Int) : List Int := lot.map fun c => r.getD c 0
theorem cutr_at {lot : List Nat} {r : List Int} {i : Nat} (h : i < lot.length) : vi (cutr lot r) i = vi r (lot.getD i 0) := by
  unfold vi cutr
  rw [List.getD_eq_getElem?_getD, List.getElem?_map, List.getElem?_eq_getElem h, List.getD_eq_getElem?_getD (l := lot), List.getElem?_eq_getElem h]
  rfl
theorem cut_span {lot : List Nat} : ∀ {rows : List (List Int)} {y : Vc}, Sp ((rows.map (cutr lot)).map vi) y → ∃ x, Sp (rows.map vi) x ∧ ∀ i, i < lot.length → y i = x (lot.getD i 0)
  | [], y, h => ⟨fun _ => 0, fun _ => rfl, fun i _ => h i⟩
  | r :: rows, y, ⟨c, h⟩ => by
    obtain ⟨x, h1, h2⟩ := cut_span h
    refine ⟨fun j => x j + c * vi r j, ⟨c, h1.to fun j => by grind⟩, fun i hi => ?_⟩
    have := h2 i hi
    have e := cutr_at (r := r) hi
    grind
theorem span_cut {lot : List Nat} : ∀ {rows : List (List Int)} {x : Vc}, Sp (rows.map vi) x → ∃ y, Sp ((rows.map (cutr lot)).map vi) y ∧ ∀ i, i < lot.length → y i = x (lot.getD i 0)
  | [], x, h => ⟨fun _ => 0, fun _ => rfl, fun i _ => (h _).symm⟩
  | r :: rows, x, ⟨c, h⟩ => by
    obtain ⟨y, h1, h2⟩ := span_cut (lot := lot) h
    refine ⟨fun j => y j + c * vi (cutr lot r) j, ⟨c, h1.to fun j => by grind⟩, fun i hi => ?_⟩
    have := h2 i hi
    have e := cutr_at (r := r) hi
    grind
theorem piv_cut {lot : List Nat} {rows : List (List Int)} {i : Nat} (hi : i < lot.length) : Piv (Sp ((rows.map (cutr lot)).map vi)) (List.range i) i ↔ Piv (Sp (rows.map vi)) (lot.take i) (lot.getD i 0) := by
  have get : ∀ d ∈ lot.take i, ∃ m, m < i ∧ lot.getD m 0 = d := fun d hd => by
    obtain ⟨m, hm⟩ := List.mem_iff_getElem?.mp hd
    rw [List.getElem?_take] at hm
    by_cases h : m < i
    · rw [if_pos h] at hm
      exact ⟨m, h, by rw [List.getD_eq_getElem?_getD, hm]; rfl⟩
    · rw [if_neg h] at hm; cases hm
  have put : ∀ m, m < i → lot.getD m 0 ∈ lot.take i := fun m hm => List.mem_iff_getElem?.mpr ⟨m, by
    rw [List.getElem?_take, if_pos hm, List.getD_eq_getElem?_getD, List.getElem?_eq_getElem (by omega)]; rfl⟩
  constructor
  · rintro ⟨y, h1, h2, h3⟩
    obtain ⟨x, k1, k2⟩ := cut_span h1
    refine ⟨x, k1, fun d hd => ?_, by rw [← k2 i hi]; exact h3⟩
    obtain ⟨m, hm, rfl⟩ := get d hd
    rw [← k2 m (by omega)]
    exact h2 m (List.mem_range.mpr hm)
  · rintro ⟨x, h1, h2, h3⟩
    obtain ⟨y, k1, k2⟩ := span_cut (lot := lot) h1
    refine ⟨y, k1, fun d hd => ?_, by rw [k2 i hi]; exact h3⟩
    have hd := List.mem_range.mp hd
    rw [k2 d (by omega)]
    exact h2 _ (put d hd)
theorem gre_cut {lot : List Nat} {rows : List (List Int)} : ∀ i, i ≤ lot.length → (gre (Sp ((rows.map (cutr lot)).map vi)) [] (List.range i)).length = (gre (Sp (rows.map vi)) [] (lot.take i)).length
  | 0, _ => rfl
  | i + 1, h => by
    have ih := gre_cut (lot := lot) (rows := rows) i (by omega)
    have e : lot.take (i + 1) = lot.take i ++ [lot.getD i 0] := by
      rw [List.take_add_one, List.getElem?_eq_getElem (by omega), List.getD_eq_getElem?_getD, List.getElem?_eq_getElem (by omega)]
      rfl
    rw [List.range_succ, gre_snoc, e, gre_snoc, List.nil_append, List.nil_append, List.length_append, List.length_append, ih]
    by_cases k : Piv (Sp (rows.map vi)) (lot.take i) (lot.getD i 0)
    · rw [if_pos k, if_pos ((piv_cut (by omega)).mpr k)]; rfl
    · rw [if_neg k, if_neg fun z => k ((piv_cut (by omega)).mp z)]
/-- what the law counts -/
theorem lk_count {lot : List Nat} {rows : List (List Int)} : (lk (rows.map (cutr lot)) lot.length).1 = (gre (Sp (rows.map vi)) [] lot).length := by
  obtain ⟨K, L, S, O, C⟩ := lk_lo (rows := rows.map (cutr lot)) (n := lot.length) (fun r hr => by
    obtain ⟨q, _, rfl⟩ := List.mem_map.mp hr
    exact List.length_map _) lot.length
  have := gre_cut (lot := lot) (rows := rows) lot.length (Nat.le_refl _)
  rw [List.take_length] at this
  rw [C.k, C.ci.gr, this]
end DL

set_option Elab.async false
set_option linter.all false
set_option maxRecDepth 100000
set_option maxHeartbeats 4000000
/-! what the clearing's steps ask and give -/
namespace DL
open PySem L2
theorem getD_memI {l : List Int} {i : Nat} (h : i < l.length) : l.getD i 0 ∈ l := by rw [List.getD_eq_getElem?_getD, List.getElem?_eq_getElem h]; exact List.getElem_mem _
theorem getD_memL {α : Type} {l : List (List α)} {i : Nat} (h : i < l.length) : l.getD i [] ∈ l := by rw [List.getD_eq_getElem?_getD, List.getElem?_eq_getElem h]; exact List.getElem_mem _
theorem crs_lc {row lead : List Int} {c : Nat} : List.map (fun i : Nat => rInt (row.getD i 0 * lead.getD c 0 - lead.getD i 0 * row.getD c 0)) (List.filter (fun _ => true) (List.range (min row.length lead.length))) = List.map rInt (crs row lead c) := by
  rw [List.filter_eq_self.mpr (fun _ _ => rfl)]
  unfold crs
  rw [List.map_map]
  rfl
theorem low_m {x y : Int} (h : Lg x < 4000) (k : Lg y < 4000) : Lg x + Lg y < 1000000 := by omega
theorem crs_lg {row lead : List Int} {c : Nat} (h : ∀ x ∈ row, Lg x < 4000) (k : ∀ x ∈ lead, Lg x < 4000) : ∀ x ∈ crs row lead c, Lg x < 8990 := fun x hx => by
  have at0 : ∀ {l : List Int} {j : Nat}, (∀ x ∈ l, Lg x < 4000) → Lg (l.getD j 0) < 4000 := fun {l j} q => by
    by_cases hj : j < l.length
    · exact q _ (getD_memI hj)
    · rw [getD_ge (by omega)]; decide
  obtain ⟨i, _, rfl⟩ := List.mem_map.mp hx
  have a := at0 (j := i) h
  have b := at0 (j := c) h
  have d := at0 (j := i) k
  have e := at0 (j := c) k
  have m1 := lg_mul (row.getD i 0) (lead.getD c 0)
  have m2 := lg_mul (lead.getD i 0) (row.getD c 0)
  have := lg_sub (row.getD i 0 * lead.getD c 0) (lead.getD i 0 * row.getD c 0)
  omega
def RowOk (n : Nat) (r : List Int) : Prop := r.length = n ∧ ∀ x ∈ r, Lg x < 4000
def wo1 (lead : List Int) (c : Nat) (row : List Int) : List Int := if row.getD c 0 = 0 then row else lowd row lead c
theorem wo1_t {lead row : List Int} {c : Nat} (h : decide (row.getD c 0 = 0) = true) : row = wo1 lead c row := (if_pos (of_decide_eq_true h)).symm
theorem wo1_f {lead row : List Int} {c : Nat} (h : decide (row.getD c 0 = 0) = false) : lowd row lead c = wo1 lead c row := (if_neg (of_decide_eq_false h)).symm
theorem range_map_getD {α β : Type} {xs : List α} {d : α} {f : α → β} : (List.range xs.length).map (fun i => f (xs.getD i d)) = xs.map f := by
  apply List.ext_getElem?
  intro j
  rw [List.getElem?_map, List.getElem?_map]
  by_cases h : j < xs.length
  · rw [List.getElem?_range h, List.getElem?_eq_getElem h, Option.map_some, Option.map_some, List.getD_eq_getElem?_getD, List.getElem?_eq_getElem h]
    rfl
  · rw [List.getElem?_eq_none (by simp; omega), List.getElem?_eq_none (by omega)]
    rfl
theorem lc_map {α β : Type} {xs : List α} {d : α} {f : α → β} : List.map (fun i : Nat => f (xs.getD i d)) (List.filter (fun _ => true) (List.range xs.length)) = List.map f xs := by
  rw [List.filter_eq_self.mpr (fun _ _ => rfl)]
  exact range_map_getD
structure ClrOk (n : Nat) (rows : List (List Int)) (cells : List Int) : Prop where
  n1 : n ≤ 1000
  n2 : rows.length ≤ 1000
  n3 : cells.length ≤ 1000
  inn : ∀ c ∈ cells, 0 ≤ c ∧ c < n
  ok : ∀ i, i ≤ cells.length → ∀ r ∈ (clr rows (cells.take i)).L ++ (clr rows (cells.take i)).R, RowOk n r
  cnt : ∀ i, i ≤ cells.length → (clr rows (cells.take i)).L.length ≤ 1000 ∧ (clr rows (cells.take i)).R.length ≤ 1000 ∧ (clr rows (cells.take i)).K.length ≤ 1000
theorem clr_take {rows : List (List Int)} {cells : List Int} {i : Nat} (hi : i < cells.length) : clr rows (cells.take (i + 1)) = clStep (clr rows (cells.take i)) (cells.getD i 0) := by
  have e : cells.take (i + 1) = cells.take i ++ [cells.getD i 0] := by
    rw [List.take_add_one, List.getElem?_eq_getElem hi, List.getD_eq_getElem?_getD, List.getElem?_eq_getElem hi]
    rfl
  rw [e, clr_snoc]
theorem cl_f {rows : List (List Int)} {cells : List Int} {i : Nat} (hi : i < cells.length) (hn : (!((leadAt (clr rows (cells.take i)).R (cells.getD i 0).toNat).map fun k : Nat => (k : Int)).isNone) = false) : clr rows (cells.take (i + 1)) = clr rows (cells.take i) := by
  rw [clr_take hi]
  generalize clr rows (cells.take i) = s at hn ⊢
  unfold clStep
  cases h : leadAt s.R (cells.getD i 0).toNat with
  | none => rfl
  | some k => rw [h] at hn; cases hn
section
variable {rows : List (List Int)} {cells : List Int} {i n : Nat}
abbrev atO (s : Cst) (c : Int) : Option Int := (leadAt s.R c.toNat).map fun k : Nat => (k : Int)
theorem cl_t (hi : i < cells.length) (hn : (!(atO (clr rows (cells.take i)) (cells.getD i 0)).isNone) = true) :
    clr rows (cells.take (i + 1)) = ⟨(clr rows (cells.take i)).K ++ [cells.getD i 0], wout (clr rows (cells.take i)).L ((clr rows (cells.take i)).R.getD ((atO (clr rows (cells.take i)) (cells.getD i 0)).getD 0).toNat []) (cells.getD i 0).toNat ++ [(clr rows (cells.take i)).R.getD ((atO (clr rows (cells.take i)) (cells.getD i 0)).getD 0).toNat []],
      wout ((clr rows (cells.take i)).R.take ((atO (clr rows (cells.take i)) (cells.getD i 0)).getD 0).toNat ++ (clr rows (cells.take i)).R.drop ((atO (clr rows (cells.take i)) (cells.getD i 0)).getD 0 + 1).toNat) ((clr rows (cells.take i)).R.getD ((atO (clr rows (cells.take i)) (cells.getD i 0)).getD 0).toNat []) (cells.getD i 0).toNat⟩ := by
  rw [clr_take hi]
  generalize clr rows (cells.take i) = s at hn ⊢
  unfold atO at hn ⊢
  cases h : leadAt s.R (cells.getD i 0).toNat with
  | none => rw [h] at hn; cases hn
  | some k =>
    show clStep s (cells.getD i 0) = ⟨_, wout s.L (s.R.getD ((k : Int)).toNat []) _ ++ [s.R.getD ((k : Int)).toNat []], wout (s.R.take ((k : Int)).toNat ++ s.R.drop ((k : Int) + 1).toNat) (s.R.getD ((k : Int)).toNat []) _⟩
    have e1 : ((k : Int)).toNat = k := rfl
    have e2 : ((k : Int) + 1).toNat = k + 1 := by omega
    rw [e1, e2]
    unfold clStep
    rw [h]
/-- the index that was found -/
theorem at_lt {s : Cst} {c : Int} (hn : (!((leadAt s.R c.toNat).map fun k : Nat => (k : Int)).isNone) = true) : 0 ≤ ((leadAt s.R c.toNat).map fun k : Nat => (k : Int)).getD 0 ∧ (((leadAt s.R c.toNat).map fun k : Nat => (k : Int)).getD 0).toNat < s.R.length := by
  cases h : leadAt s.R c.toNat with
  | none => rw [h] at hn; cases hn
  | some k =>
    obtain ⟨h1, _⟩ := leadAt_some h
    exact ⟨Int.natCast_nonneg k, h1⟩
end
theorem la_more {rows : List (List Int)} {c i : Nat} (hj : ∀ j, j < i → (rows.getD j []).getD c 0 = 0) (h : (rows.getD i []).getD c 0 = 0) : ∀ j, j < i + 1 → (rows.getD j []).getD c 0 = 0 := fun j hj' => by
  by_cases e : j = i
  · rw [e]; exact h
  · exact hj j (by omega)
theorem nn_t {b : Bool} (h : (!b) = true) : b = false := by cases b <;> first | rfl | cases h
theorem wout_len (rows : List (List Int)) (lead : List Int) (c : Nat) : (wout rows lead c).length = rows.length := List.length_map _
theorem wout_lc {K : PySem.W.Frag} {rows : List (List Int)} {lead : List Int} {c : Nat} : List.map (fun i : Nat => rRowS K (wo1 lead c (rows.getD i []))) (List.filter (fun _ => true) (List.range rows.length)) = List.map (fun l => rSeq K (List.map rInt l)) (wout rows lead c) :=
  (lc_map (f := fun r => rRowS K (wo1 lead c r))).trans (by unfold wout; rw [List.map_map]; rfl)
theorem cl_w1 {n : Nat} {s : Cst} {c : Int} (hn : n ≤ 1000) (hin : 0 ≤ c ∧ c < n) (hok : ∀ r ∈ s.L ++ s.R, RowOk n r) (hct : s.L.length ≤ 1000 ∧ s.R.length ≤ 1000 ∧ s.K.length ≤ 1000) {k : Nat} (hk : k < s.R.length) : (0 ≤ c ∧ c < n ∧ n ≤ 1000) ∧ s.L.length ≤ 1000 ∧ (∀ r ∈ s.L, RowOk n r) ∧ RowOk n (s.R.getD k []) :=
  ⟨⟨hin.1, hin.2, hn⟩, hct.1, fun r hr => hok r (List.mem_append_left _ hr), hok _ (List.mem_append_right _ (getD_memL hk))⟩
theorem cl_w2 {n : Nat} {s : Cst} {c : Int} (hn : n ≤ 1000) (hin : 0 ≤ c ∧ c < n) (hok : ∀ r ∈ s.L ++ s.R, RowOk n r) (hct : s.L.length ≤ 1000 ∧ s.R.length ≤ 1000 ∧ s.K.length ≤ 1000) {k m : Nat} (hk : k < s.R.length) (hm : m = k + 1) : (0 ≤ c ∧ c < n ∧ n ≤ 1000) ∧ (s.R.take k ++ s.R.drop m).length ≤ 1000 ∧ (∀ r ∈ s.R.take k ++ s.R.drop m, RowOk n r) ∧ RowOk n (s.R.getD k []) :=
  ⟨⟨hin.1, hin.2, hn⟩, by rw [List.length_append, List.length_take, List.length_drop]; omega, fun r hr => hok r (List.mem_append_right _ ((List.mem_append.mp hr).elim List.mem_of_mem_take List.mem_of_mem_drop)), hok _ (List.mem_append_right _ (getD_memL hk))⟩
end DL

set_option Elab.async false
set_option linter.all false
set_option maxRecDepth 100000
set_option maxHeartbeats 4000000
/-! names, cells, frames as the program makes them -/
namespace DL
open PySem L2
def lettersT : Str := "abcdefghijklmnopqrstuvwxyz"
def digitsT : Str := "0123456789"
def nmS (c : Nat) : Bool := decide (c ∈ lettersT.cps.toList) || decide (c ∈ digitsT.cps.toList)
def isNm (x : Str) : Bool := decide (1 ≤ x.cps.toList.length) && decide (x.cps.toList.length ≤ 12) && decide (x.cps.toList.getD 0 0 ∈ lettersT.cps.toList) && x.cps.toList.all nmS
theorem strLen (x : Str) : (x.length : Nat) = x.cps.toList.length := (Array.length_toList ..).symm
theorem nm_f {x : Str} {b : Bool} (h : (!(decide ((1 : Int) ≤ (x.length : Nat)) && decide (((x.length : Nat) : Int) ≤ 12)) || b) = true) (hb : b = !decide (x.cps.toList.getD 0 0 ∈ lettersT.cps.toList)) : isNm x = false := by
  subst hb
  unfold isNm
  rw [strLen] at h
  generalize x.cps.toList = l at h ⊢
  by_cases h1 : 1 ≤ l.length
  · by_cases h2 : l.length ≤ 12
    · have a : decide ((1 : Int) ≤ (l.length : Nat)) = true := decide_eq_true (by omega)
      have c : decide (((l.length : Nat) : Int) ≤ 12) = true := decide_eq_true (by omega)
      rw [a, c] at h
      cases hd : decide (l.getD 0 0 ∈ lettersT.cps.toList) with
      | true => rw [hd] at h; cases h
      | false => rw [Bool.and_false, Bool.false_and]
    · rw [decide_eq_false h2, Bool.and_false, Bool.false_and, Bool.false_and]
  · rw [decide_eq_false h1, Bool.false_and, Bool.false_and, Bool.false_and]
theorem nm_t {x : Str} {b : Bool} (h : (!(decide ((1 : Int) ≤ (x.length : Nat)) && decide (((x.length : Nat) : Int) ≤ 12)) || b) = false) (hb : b = !decide (x.cps.toList.getD 0 0 ∈ lettersT.cps.toList)) : x.cps.toList.all nmS = isNm x := by
  subst hb
  unfold isNm
  rw [strLen] at h
  generalize x.cps.toList = l at h ⊢
  cases a : decide ((1 : Int) ≤ (l.length : Nat)) with
  | false => rw [a] at h; cases h
  | true =>
    cases c : decide (((l.length : Nat) : Int) ≤ 12) with
    | false => rw [a, c] at h; cases h
    | true =>
      cases hd : decide (l.getD 0 0 ∈ lettersT.cps.toList) with
      | false => rw [a, c, hd] at h; cases h
      | true =>
        have a2 := of_decide_eq_true a
        have c2 := of_decide_eq_true c
        rw [decide_eq_true (by omega : 1 ≤ l.length), decide_eq_true (by omega : l.length ≤ 12)]
        rfl
theorem nm_len {x : Str} (h : (decide ((1 : Int) ≤ (x.length : Nat)) && decide (((x.length : Nat) : Int) ≤ 12)) = true) : 1 ≤ x.cps.toList.length ∧ x.length ≤ 12 := by
  rw [Bool.and_eq_true] at h
  have a := of_decide_eq_true h.1
  have b := of_decide_eq_true h.2
  rw [← strLen]
  omega
theorem nm_lc {x : Str} : List.map (fun i : Nat => rBl (nmS (x.cps.toList.getD i 0))) (List.filter (fun _ => true) (List.range x.cps.toList.length)) = List.map rBl (x.cps.toList.map nmS) :=
  (lc_map (f := fun c => rBl (nmS c))).trans (by rw [List.map_map]; rfl)
theorem nm_all {x : Str} : (x.cps.toList.map nmS).all (fun b => b) = x.cps.toList.all nmS := by rw [List.all_map]; rfl
def namesOk (xs : List Str) : Bool := xs.all isNm && decide xs.Nodup
def badC (n : Nat) (cells : List Int) : Option Int := cells.find? fun c => !(decide (0 ≤ c) && decide (c < n))
theorem badC_no {n : Nat} {cells : List Int} (h : ∀ j, j < cells.length → 0 ≤ cells.getD j 0 ∧ cells.getD j 0 < n) : ¬ (badC n cells).isSome = true := fun z => by
  have : badC n cells = none := List.find?_eq_none.mpr fun x hx => by
    obtain ⟨i, hi, rfl⟩ := List.mem_iff_getElem.mp hx
    have := h i hi
    rw [List.getD_eq_getElem?_getD, List.getElem?_eq_getElem hi, Option.getD_some] at this
    simpa using this
  rw [this] at z
  cases z
theorem badC_at : ∀ {n : Nat} {cells : List Int} {i : Nat}, (∀ j, j < i → 0 ≤ cells.getD j 0 ∧ cells.getD j 0 < n) → i < cells.length → ¬ (0 ≤ cells.getD i 0 ∧ cells.getD i 0 < n) → badC n cells = some (cells.getD i 0)
  | n, [], i, _, h, _ => absurd h (Nat.not_lt_zero _)
  | n, c :: cells, 0, _, _, h => by
    have h : ¬ (0 ≤ c ∧ c < n) := h
    show List.find? _ (c :: cells) = some c
    rw [List.find?_cons_of_pos]
    by_cases a : 0 ≤ c <;> by_cases b : c < n <;> simp [a, b] <;> omega
  | n, c :: cells, i + 1, h1, h2, h3 => by
    have h : 0 ≤ c ∧ c < n := h1 0 (Nat.succ_pos _)
    show List.find? _ (c :: cells) = _
    rw [List.find?_cons_of_neg (by simp [h])]
    exact badC_at (fun j hj => h1 (j + 1) (by omega)) (by simpa using h2) h3
theorem badC_more {n : Nat} {cells : List Int} {i : Nat} (hj : ∀ j, j < i → 0 ≤ cells.getD j 0 ∧ cells.getD j 0 < n) (h : ¬ ¬ (0 ≤ cells.getD i 0 ∧ cells.getD i 0 < n)) : ∀ j, j < i + 1 → 0 ≤ cells.getD j 0 ∧ cells.getD j 0 < n := fun j hj' => by
  by_cases e : j = i
  · rw [e]; exact Classical.not_not.mp h
  · exact hj j (by omega)
theorem inC_f {c : Int} {n : Nat} (h : (!(decide (0 ≤ c) && decide (c < (n : Int)))) = true) : ¬ (0 ≤ c ∧ c < n) := fun z => by simp [z] at h
theorem inC_t {c : Int} {n : Nat} (h : (!(decide (0 ≤ c) && decide (c < (n : Int)))) = false) : 0 ≤ c ∧ c < n := by simpa using h
/-! frames -/
def PrimOk (qs : List Rat) : Prop := ∃ n, (∀ q ∈ qs, Sz n q) ∧ qs.length * (n + 1) + n < 8900 ∧ qs.length ≤ 1000
structure FrOk (n : Nat) (rows : List (List Rat)) : Prop where
  n1 : n ≤ 1000
  n2 : rows.length ≤ 1000
  pr : ∀ r ∈ rows, PrimOk r
  cl : ClrOk n (rows.map prim) (upto n)
theorem upto_lc {n : Nat} : List.map (fun i : Nat => rInt (i : Nat)) (List.range ((n : Int)).toNat) = List.map rInt (upto n) := by
  unfold upto
  rw [List.map_map]
  rfl
theorem prim_lc {K : PySem.W.Frag} {rows : List (List Rat)} : List.map (fun i : Nat => rLst K ((prim (rows.getD i [])).map rInt)) (List.filter (fun _ => true) (List.range rows.length)) = List.map (fun l => rLst K (List.map rInt l)) (rows.map prim) :=
  (lc_map (f := fun r => rLst K ((prim r).map rInt))).trans (by rw [List.map_map]; rfl)
def unitR (n c : Nat) : List Int := (List.replicate n 0).set c 1
theorem rep_flat {n : Nat} {r : Rep} : (List.replicate n [r]).flatten = List.replicate n r := by
  induction n with
  | zero => rfl
  | succ n ih => rw [List.replicate_succ, List.flatten_cons, ih, List.replicate_succ]; rfl
theorem unit_lc {n : Nat} : (List.replicate ((n : Int)).toNat [rInt 0]).flatten = List.map rInt (List.replicate n 0) := by
  rw [rep_flat, List.map_replicate]; rfl
def zeroAt (rows : List (List Int)) (c : Nat) : Bool := rows.all fun r => decide (r.getD c 0 = 0)
theorem zeroAt_lc {rows : List (List Int)} {c : Nat} : List.map (fun i : Nat => rBl (decide ((rows.getD i []).getD c 0 = 0))) (List.filter (fun _ => true) (List.range rows.length)) = List.map rBl (rows.map fun r => decide (r.getD c 0 = 0)) :=
  (lc_map (f := fun r : List Int => rBl (decide (r.getD c 0 = 0)))).trans (by rw [List.map_map]; rfl)
theorem zeroAt_is {rows : List (List Int)} {c : Nat} : (rows.map fun r => decide (r.getD c 0 = 0)).all (fun b => b) = zeroAt rows c := by
  unfold zeroAt
  rw [List.all_map]
  rfl
theorem zeroAt_iff {rows : List (List Int)} {c : Nat} : zeroAt rows c = true ↔ ∀ r ∈ rows, r.getD c 0 = 0 := by
  unfold zeroAt
  simp
def settledL (n : Nat) (R : List (List Int)) : List Int := (upto n).filter fun c => zeroAt R c.toNat
theorem settled_lc {n : Nat} {R : List (List Int)} : List.map (fun i : Nat => rInt (i : Nat)) (List.filter (fun i : Nat => zeroAt R ((i : Int)).toNat) (List.range ((n : Int)).toNat)) = List.map rInt (settledL n R) := by
  unfold settledL upto
  rw [List.filter_map, List.map_map]
  rfl
/-- the factors of a cell -/
def ruleL (K : List Int) (L : List (List Int)) (c : Nat) : List (Int × Rat) := ((List.range (min K.length L.length)).filter fun i => !decide ((L.getD i []).getD c 0 = 0)).map fun i => (K.getD i 0, (((L.getD i []).getD c 0 : Int) : Rat) / (((L.getD i []).getD (K.getD i 0).toNat 0 : Int) : Rat))
end DL

set_option Elab.async false
set_option linter.all false
set_option maxRecDepth 100000
set_option maxHeartbeats 4000000
namespace DL
open PySem L2
theorem nn_f {b : Bool} (h : (!b) = false) : b = true := by cases b <;> first | rfl | cases h
theorem nm_le {x : Str} {b : Bool} (h : (!(decide ((1 : Int) ≤ (x.length : Nat)) && decide (((x.length : Nat) : Int) ≤ 12)) || b) = false) : x.cps.toList.length ≤ 12 := by
  rw [← strLen]
  cases a : (decide ((1 : Int) ≤ (x.length : Nat)) && decide (((x.length : Nat) : Int) ≤ 12)) with
  | false => rw [a] at h; cases h
  | true => exact (nm_len a).2
theorem nmj_more {xs : List Str} {i : Nat} (hj : ∀ j, j < i → isNm (xs.getD j default) = true) (h : (!isNm (xs.getD i default)) = false) : ∀ j, j < i + 1 → isNm (xs.getD j default) = true := fun j hj' => by
  by_cases e : j = i
  · rw [e]; exact nn_f h
  · exact hj j (by omega)
theorem nm_scan {xs : List Str} (h : xs.length ≤ 1000) : xs.length + 1 < scanBound := by unfold scanBound; omega
theorem sc63 {xs : List Int} (h : xs.length < 63) : xs.length + 1 < scanBound := by unfold scanBound; omega
theorem nmo_a {xs : List Str} {i : Nat} (hi : i < xs.length) (h : (!isNm (xs.getD i default)) = true) : namesOk xs = false := by
  have h2 : isNm (xs.getD i default) = false := nn_t h
  unfold namesOk
  have : xs.all isNm = false := by
    cases e : xs.all isNm with
    | false => rfl
    | true =>
      have := List.all_eq_true.mp e _ (DL.getD_mem (d := (default : Str)) hi)
      rw [h2] at this
      cases this
  rw [this]; rfl
theorem nmo_b {xs : List Str} (h : ((dd xs).length : Int) < (xs.length : Nat)) : namesOk xs = false := by
  unfold namesOk
  rw [decide_eq_false (dd_lt.mp (by omega)), Bool.and_false]
theorem nmo_c {xs : List Str} (hj : ∀ j, j < xs.length → isNm (xs.getD j default) = true) (h : ¬ ((dd xs).length : Int) < (xs.length : Nat)) : ¬ namesOk xs = false := fun z => by
  unfold namesOk at z
  have a : xs.all isNm = true := List.all_eq_true.mpr fun x hx => by
    obtain ⟨i, hi, rfl⟩ := List.mem_iff_getElem.mp hx
    have := hj i hi
    rwa [List.getD_eq_getElem?_getD, List.getElem?_eq_getElem hi, Option.getD_some] at this
  have b : xs.Nodup := Classical.byContradiction fun n => h (by have := dd_lt.mpr n; omega)
  rw [a, decide_eq_true b] at z
  cases z
theorem fr_len {n : Nat} {rows : List (List Rat)} (h : FrOk n rows) : (frameQ rows n).length ≤ 1000 := by
  have := (h.cl.cnt (upto n).length (Nat.le_refl _)).1
  rwa [List.take_length] at this
section
variable {b : Bk} {cells : List Int} {c : Int}
theorem clr_all {n : Nat} {rows : List (List Int)} {cells : List Int} (h : ClrOk n rows cells) : (∀ r ∈ (clr rows cells).L ++ (clr rows cells).R, RowOk n r) ∧ (clr rows cells).L.length ≤ 1000 ∧ (clr rows cells).R.length ≤ 1000 ∧ (clr rows cells).K.length ≤ 1000 := by
  have a := h.ok cells.length (Nat.le_refl _)
  have b := h.cnt cells.length (Nat.le_refl _)
  rw [List.take_length] at a b
  exact ⟨a, b⟩
theorem za_ok {n : Nat} {rows : List (List Int)} (h : ClrOk n rows cells) (hc : 0 ≤ c ∧ c < (n : Int)) : (0 ≤ c ∧ ∀ r ∈ (clr rows cells).R, c < r.length) ∧ (clr rows cells).R.length ≤ 1000 := by
  obtain ⟨a, _, b, _⟩ := clr_all h
  exact ⟨⟨hc.1, fun r hr => by have := (a r (List.mem_append_right _ hr)).1; omega⟩, b⟩
theorem clr_K {rows : List (List Int)} : ∀ (cells : List Int), ∀ k ∈ (clr rows cells).K, k ∈ cells := fun cells => by
  induction cells using snoc_ind with
  | nil => exact fun k h => h
  | snoc cells c ih =>
    rw [clr_snoc]
    generalize clr rows cells = s at ih ⊢
    intro k hk
    unfold clStep at hk
    split at hk
    · exact List.mem_append_left _ (ih k hk)
    · rcases List.mem_append.mp hk with z | z
      · exact List.mem_append_left _ (ih k z)
      · exact List.mem_append_right _ z
/-- the leads' own numbers are not 0 -/
def RuleOk (b : Bk) (cells : List Int) : Prop := ¬ (badC b.size cells).isSome = true → ∀ i, i < min (clr b.frame (sset cells)).K.length (clr b.frame (sset cells)).L.length → ((clr b.frame (sset cells)).L.getD i []).getD ((clr b.frame (sset cells)).K.getD i 0).toNat 0 ≠ 0
def ruleO (b : Bk) (cells : List Int) (c : Int) : Option (List (Int × Rat)) := if zeroAt (clr b.frame (sset cells)).R c.toNat = true then some (ruleL (clr b.frame (sset cells)).K (clr b.frame (sset cells)).L c.toNat) else none
theorem ruleO_n (h : (!zeroAt (clr b.frame (sset cells)).R c.toNat) = true) : ruleO b cells c = none := if_neg (by rw [nn_t h]; exact Bool.false_ne_true)
theorem ruleO_s (h : zeroAt (clr b.frame (sset cells)).R c.toNat = true) : ruleO b cells c = some (ruleL (clr b.frame (sset cells)).K (clr b.frame (sset cells)).L c.toNat) := if_pos h
variable {n i : Nat} {rows : List (List Int)}
theorem rl_len (h : ClrOk n rows cells) : min (clr rows cells).K.length (clr rows cells).L.length ≤ 1000 := by have := (clr_all h).2.1; omega
theorem rl_in (h : ClrOk n rows cells) (hi : i < min (clr rows cells).K.length (clr rows cells).L.length) : (0 ≤ (clr rows cells).K.getD i 0 ∧ (clr rows cells).K.getD i 0 < n) ∧ RowOk n ((clr rows cells).L.getD i []) :=
  ⟨h.inn _ (clr_K cells _ (getD_memI (by omega))), (clr_all h).1 _ (List.mem_append_left _ (getD_memL (by omega)))⟩
theorem rl_k0 (h : ClrOk n rows cells) (hi : i < min (clr rows cells).K.length (clr rows cells).L.length) : 0 ≤ (clr rows cells).K.getD i 0 := (rl_in h hi).1.1
theorem rl_k (h : ClrOk n rows cells) (hi : i < min (clr rows cells).K.length (clr rows cells).L.length) : (clr rows cells).K.getD i 0 < ((clr rows cells).L.getD i []).length := by
  obtain ⟨⟨_, a⟩, b, _⟩ := rl_in h hi
  omega
theorem rl_c (h : ClrOk n rows cells) (hc : 0 ≤ c ∧ c < (n : Int)) (hi : i < min (clr rows cells).K.length (clr rows cells).L.length) : c < ((clr rows cells).L.getD i []).length := by
  obtain ⟨_, b, _⟩ := rl_in h hi
  omega
theorem rl_lg (h : ClrOk n rows cells) (hi : i < min (clr rows cells).K.length (clr rows cells).L.length) : Lg (((clr rows cells).L.getD i []).getD ((clr rows cells).K.getD i 0).toNat 0) < 9000 := by
  obtain ⟨⟨a0, a⟩, b, d⟩ := rl_in h hi
  exact Nat.lt_trans (d _ (getD_memI (by omega))) (by decide)
theorem rl_lc {K : PySem.W.Frag} {ks : List Int} {ls : List (List Int)} {c : Nat} : List.map (fun i : Nat => rP K rInt (rNum K) (ks.getD i 0, (((ls.getD i []).getD c 0 : Int) : Rat) / (((ls.getD i []).getD (ks.getD i 0).toNat 0 : Int) : Rat))) (List.filter (fun i => !decide ((ls.getD i []).getD c 0 = 0)) (List.range (min ks.length ls.length))) = List.map (rP K rInt (rNum K)) (ruleL ks ls c) := by
  unfold ruleL
  rw [List.map_map]
  rfl
end
end DL

set_option Elab.async false
set_option linter.all false
set_option maxRecDepth 100000
set_option maxHeartbeats 4000000
/-! books are made -/
namespace DL
open PySem PySem.Spec PyProof.Rows L2
def lensOk (n : Nat) (rows : List (List Rat)) : Bool := rows.all fun r => decide (r.length = n)
structure BookOk (names : List Str) (rows : List (List Rat)) : Prop where
  n1 : names.length ≤ 1000
  nl : ∀ x ∈ names, x.length ≤ 100000
  fr : (1 ≤ names.length ∧ names.length ≤ 16) → lensOk names.length rows = true → FrOk names.length rows
theorem bk_f {n : Nat} (h : (!(decide ((1 : Int) ≤ (n : Nat)) && decide (((n : Nat) : Int) ≤ 16))) = true) : ¬ (1 ≤ n ∧ n ≤ 16) := fun z => by
  rw [decide_eq_true (by omega : (1 : Int) ≤ (n : Nat)), decide_eq_true (by omega : ((n : Nat) : Int) ≤ 16)] at h
  cases h
theorem bk_t {n : Nat} (h : (!(decide ((1 : Int) ≤ (n : Nat)) && decide (((n : Nat) : Int) ≤ 16))) = false) : 1 ≤ n ∧ n ≤ 16 := by
  have := nn_f h
  rw [Bool.and_eq_true] at this
  have a := of_decide_eq_true this.1
  have b := of_decide_eq_true this.2
  omega
theorem lens_bad {n i : Nat} {rows : List (List Rat)} (hi : i < rows.length) (h : ¬ (rows.getD i []).length = n) : lensOk n rows = false := by
  cases e : lensOk n rows with
  | false => rfl
  | true =>
    have := List.all_eq_true.mp e _ (getD_memL hi)
    exact absurd (of_decide_eq_true this) h
theorem lens_ok {n : Nat} {rows : List (List Rat)} (h : ∀ j, j < rows.length → (rows.getD j []).length = n) : lensOk n rows = true := List.all_eq_true.mpr fun r hr => by
  obtain ⟨i, hi, rfl⟩ := List.mem_iff_getElem.mp hr
  have := h i hi
  rw [List.getD_eq_getElem?_getD, List.getElem?_eq_getElem hi, Option.getD_some] at this
  exact decide_eq_true this
theorem lens_more {n i : Nat} {rows : List (List Rat)} (hj : ∀ j, j < i → (rows.getD j []).length = n) (h : (rows.getD i []).length = n) : ∀ j, j < i + 1 → (rows.getD j []).length = n := fun j hj' => by
  by_cases e : j = i
  · rw [e]; exact h
  · exact hj j (by omega)
def toQ (l : List Int) : List Rat := l.map fun n : Int => (n : Rat)
theorem ll2n_eq {K : PySem.W.Frag} {xs : List (List Int)} : (xs.map fun l => rLst K (l.map rInt)) = (xs.map toQ).map fun l => rLst K (l.map (rNum K)) := by
  rw [List.map_map]
  refine List.map_congr_left fun l _ => ?_
  show rLst K _ = rLst K ((toQ l).map (rNum K))
  unfold toQ
  rw [List.map_map]
  refine congrArg _ (List.map_congr_left fun n _ => ?_)
  show rInt n = rNum K (n : Rat)
  unfold rNum
  rw [if_pos (Rat.den_intCast ..), Rat.num_intCast]
theorem de_ll2n {X : L2.Cx} {Γ : List Sl} {e : PySem.Expr} {xs : List (List Int)} (h : DE X Γ e (rLst X.K (xs.map fun l => rLst X.K (l.map rInt)))) : DE X Γ e (rLst X.K ((xs.map toQ).map fun l => rLst X.K (l.map (rNum X.K)))) := h.to (by rw [ll2n_eq])
def freeZ (n : Nat) : List (List Int) := (List.range n).map (unitR n)
theorem free_lc {K : PySem.W.Frag} {n : Nat} : List.map (fun i : Nat => rLst K ((unitR n i).map rInt)) (List.filter (fun _ => true) (List.range ((n : Int)).toNat)) = List.map (fun l => rLst K (List.map rInt l)) (freeZ n) := by
  rw [List.filter_eq_self.mpr (fun _ _ => rfl)]
  unfold freeZ
  rw [List.map_map]
  rfl
def FreeOk (names : List Str) : Prop := (1 ≤ names.length ∧ names.length ≤ 16) ∧ namesOk names = true
theorem free_lens (n : Nat) : lensOk n ((freeZ n).map toQ) = true := List.all_eq_true.mpr fun r hr => by
  obtain ⟨q, hq, rfl⟩ := List.mem_map.mp hr
  obtain ⟨c, _, rfl⟩ := List.mem_map.mp hq
  exact decide_eq_true (by unfold toQ unitR; simp)
theorem bk_out {names : List Str} {rows : List (List Rat)} {a b : Addr} {l : List Rep} (h1 : 1 ≤ names.length ∧ names.length ≤ 16) (h2 : namesOk names = true) (h3 : lensOk names.length rows = true) :
    (if ¬ (1 ≤ names.length ∧ names.length ≤ 16) then OutI.err a else if namesOk names = false then .err b else if lensOk names.length rows = false then .err a else .ok l) = .ok l :=
  (if_neg (fun z => z h1)).trans ((if_neg (by rw [h2]; exact Bool.noConfusion)).trans (if_neg (by rw [h3]; exact Bool.noConfusion)))
theorem fb_ok {names : List Str} {a b : Addr} {l : List Rep} (h : FreeOk names) : (if ¬ (1 ≤ names.length ∧ names.length ≤ 16) then OutI.err a else if namesOk names = false then .err b else if lensOk names.length ((freeZ names.length).map toQ) = false then .err a else .ok l) = .ok l := bk_out h.1 h.2 (free_lens _)
end DL

set_option Elab.async false
set_option linter.all false
set_option maxRecDepth 100000
set_option maxHeartbeats 4000000
/-! books made of whole rows -/
namespace DL
open PySem PySem.Spec PyProof.Rows L2
theorem lowest_leA (ns : List Int) (j : Nat) : ((lowest ns).getD j 0).natAbs ≤ (ns.getD j 0).natAbs := by
  cases h : fnz ns with
  | none =>
    have : lowest ns = ns := by unfold lowest; rw [h]
    rw [this]
    exact Nat.le_refl _
  | some z =>
    obtain ⟨d, hd, e⟩ := (low_lowest h).1.ex
    have h2 : ns.getD j 0 = d * (lowest ns).getD j 0 := by
      have h2 : ns.getD j 0 = ((lowest ns).map fun x => d * x).getD j 0 := by rw [← e]
      rw [h2, getD_mapZ (Int.mul_zero d)]
    rw [h2, Int.natAbs_mul]
    exact Nat.le_mul_of_pos_left _ (by omega)
theorem toQ_den {l : List Int} {q : Rat} (h : q ∈ toQ l) : q.den = 1 ∧ q.num ∈ l := by
  obtain ⟨x, hx, rfl⟩ := List.mem_map.mp h
  exact ⟨Rat.den_intCast .., by rw [Rat.num_intCast]; exact hx⟩
theorem lcmD_one : ∀ {qs : List Rat}, (∀ q ∈ qs, q.den = 1) → lcmD qs = 1 := fun {qs} h => by
  induction qs using snoc_ind with
  | nil => rfl
  | snoc qs q ih =>
    unfold lcmD at ih ⊢
    rw [List.foldl_append, ih fun x hx => h x (List.mem_append_left _ hx)]
    show Nat.lcm 1 q.den = 1
    rw [h q (List.mem_append_right _ (List.mem_singleton.mpr rfl))]
    rfl
theorem tops_toQ (l : List Int) : tops (toQ l) = l := by
  unfold tops
  rw [lcmD_one fun q hq => (toQ_den hq).1]
  unfold toQ
  rw [List.map_map]
  refine (List.map_congr_left fun x _ => ?_).trans (List.map_id l)
  show topq 1 (x : Rat) = x
  unfold topq
  rw [Rat.num_intCast, Rat.den_intCast]
  show x * Int.fdiv 1 1 = x
  rw [show Int.fdiv 1 1 = 1 from rfl, Int.mul_one]
theorem prim_toQ (l : List Int) : prim (toQ l) = lowest l := by unfold prim; rw [tops_toQ]
theorem toQ_len (l : List Int) : (toQ l).length = l.length := List.length_map _
theorem toQ_vq (rows : List (List Int)) : (rows.map toQ).map vq = rows.map vi := by
  rw [List.map_map]
  exact List.map_congr_left fun l _ => vq_int l
theorem mem_getD0 {l : List Int} {x : Int} (h : x ∈ l) : ∃ j, x = l.getD j 0 := by
  obtain ⟨i, hi, rfl⟩ := List.mem_iff_getElem.mp h
  exact ⟨i, by rw [List.getD_eq_getElem?_getD, List.getElem?_eq_getElem hi]; rfl⟩
theorem clrOk_of {n M e : Nat} {rows : List (List Int)} {cells : List Int} (hn : n ≤ 1000) (hl : ∀ r ∈ rows, r.length = n) (hw : ∀ r ∈ rows, Lw r) (hM : ∀ t ∈ rows, ∀ j, (t.getD j 0).natAbs ≤ M) (hr : rows.length ≤ 1000) (hc : cells.length ≤ 1000) (hin : ∀ c ∈ cells, 0 ≤ c ∧ c < (n : Int)) (e0 : 0 < e) (he : e ≤ 4000) (hb : bnd rows.length M < 2 ^ e) : ClrOk n rows cells where
  n1 := hn
  n2 := hr
  n3 := hc
  inn := hin
  ok := fun i _ r h => by
    obtain ⟨S, O, C⟩ := clr_co hl hw (cells.take i)
    refine ⟨C.len r h, fun x hx => ?_⟩
    obtain ⟨j, rfl⟩ := mem_getD0 hx
    exact Nat.lt_of_lt_of_le (lg_b (small_all C hM r h j) hb e0) he
  cnt := fun i _ => by
    obtain ⟨S, O, C⟩ := clr_co hl hw (cells.take i)
    have h1 := C.cnt
    have h2 := C.kl
    omega
/-- whole rows, few and small -/
structure Dw (n M : Nat) (rows : List (List Int)) : Prop where
  n1 : 1 ≤ n
  n2 : n ≤ 16
  m : rows.length ≤ 16
  len : ∀ r ∈ rows, r.length = n
  sm : ∀ r ∈ rows, ∀ j, (r.getD j 0).natAbs ≤ M
  bM : M < 2 ^ 200
  b1 : bnd rows.length M < 2 ^ 3900
  b2 : bnd rows.length (bnd rows.length M) < 2 ^ 3900
section
variable {n M : Nat} {rows : List (List Int)} {cells : List Int}
theorem Dw.prim (D : Dw n M rows) : (∀ r ∈ (rows.map toQ).map prim, r.length = n) ∧ (∀ r ∈ (rows.map toQ).map prim, Lw r) ∧ ∀ r ∈ (rows.map toQ).map prim, ∀ j, (r.getD j 0).natAbs ≤ M := by
  refine ⟨fun r hr => ?_, fun r hr => ?_, fun r hr j => ?_⟩
  all_goals
    obtain ⟨q, hq, rfl⟩ := List.mem_map.mp hr
    obtain ⟨l, hl, rfl⟩ := List.mem_map.mp hq
  · rw [prim_len, toQ_len]; exact D.len l hl
  · exact lw_prim _
  · rw [prim_toQ]; exact Nat.le_trans (lowest_leA l j) (D.sm l hl j)
theorem Dw.pr (D : Dw n M rows) : ∀ r ∈ rows.map toQ, PrimOk r := fun r hr => by
  obtain ⟨l, hl, rfl⟩ := List.mem_map.mp hr
  refine ⟨200, fun q hq => ?_, ?_, ?_⟩
  · obtain ⟨a, b⟩ := toQ_den hq
    obtain ⟨j, e⟩ := mem_getD0 b
    refine ⟨?_, by rw [a]; decide⟩
    rw [e]
    exact Nat.le_of_lt (lg_b (D.sm l hl j) D.bM (by decide))
  · rw [toQ_len, D.len l hl]; have := D.n2; omega
  · rw [toQ_len, D.len l hl]; have := D.n2; omega
theorem upto_len (n : Nat) : (upto n).length = n := by unfold upto; rw [List.length_map, List.length_range]
theorem upto_mem {n : Nat} {c : Int} : c ∈ upto n ↔ 0 ≤ c ∧ c < (n : Int) := by
  unfold upto
  rw [List.mem_map]
  constructor
  · rintro ⟨i, hi, rfl⟩
    have := List.mem_range.mp hi
    omega
  · exact fun h => ⟨c.toNat, List.mem_range.mpr (by omega), by omega⟩
theorem Dw.fr (D : Dw n M rows) : FrOk n (rows.map toQ) where
  n1 := by have := D.n2; omega
  n2 := by rw [List.length_map]; have := D.m; omega
  pr := D.pr
  cl := clrOk_of (M := M) (e := 3900) (by have := D.n2; omega) D.prim.1 D.prim.2.1 D.prim.2.2 (by rw [List.length_map, List.length_map]; have := D.m; omega) (by rw [upto_len]; have := D.n2; omega) (fun c hc => upto_mem.mp hc) (by decide) (by decide) (by rw [List.length_map, List.length_map]; exact D.b1)
abbrev frm (n : Nat) (rows : List (List Int)) : List (List Int) := frameQ (rows.map toQ) n
theorem Dw.fo (D : Dw n M rows) : FO (frm n rows) n (Sp (rows.map vi)) := by
  have := frameQ_fo (rows := rows.map toQ) (n := n) fun r hr => by
    obtain ⟨l, hl, rfl⟩ := List.mem_map.mp hr
    rw [toQ_len]; exact D.len l hl
  rwa [toQ_vq] at this
theorem Dw.fcount (D : Dw n M rows) : (frm n rows).length ≤ rows.length := by
  have := (frameZ_count (n := n) D.prim.1 D.prim.2.1).1
  rwa [List.length_map, List.length_map] at this
theorem Dw.fsm (D : Dw n M rows) : ∀ r ∈ frm n rows, ∀ j, (r.getD j 0).natAbs ≤ bnd rows.length M := by
  have := frameZ_small (n := n) D.prim.1 D.prim.2.1 D.prim.2.2
  rwa [List.length_map, List.length_map] at this
theorem Dw.clr (D : Dw n M rows) (hc : cells.length ≤ 1000) (hin : ∀ c ∈ cells, 0 ≤ c ∧ c < (n : Int)) : ClrOk n (frm n rows) cells :=
  clrOk_of (M := bnd rows.length M) (e := 3900) (by have := D.n2; omega) D.fo.len D.fo.lw D.fsm (by have := D.fcount; have := D.m; omega) hc hin (by decide) (by decide) (Nat.lt_of_le_of_lt (bnd_mono D.fcount) D.b2)
theorem Dw.co (D : Dw n M rows) (cells : List Int) : ∃ S O, CO (frm n rows) n cells (DL.clr (frm n rows) cells) S O := clr_co D.fo.len D.fo.lw cells
/-! what the clearing tells -/
variable {s : Cst} {S O F : List (List Int)} {V : Vc → Prop}
theorem co_span (C : CO F n cells s S O) (f : FO F n V) (x : Vc) : Sp (s.L.map vi ++ s.R.map vi) x ↔ V x := (C.ci.span x).trans (f.span x)
theorem co_K (C : CO F n cells s S O) (f : FO F n V) : s.K.map Int.toNat = gre V [] (cells.map Int.toNat) := C.ci.gr.trans (gre_congr f.span _ fun _ => Iff.rfl)
theorem co_zero (C : CO F n cells s S O) (f : FO F n V) (c : Nat) : zeroAt s.R c = true ↔ ¬ Piv V (cells.map Int.toNat) c := by
  rw [zeroAt_iff]
  constructor
  · rintro h ⟨x, h1, h2, h3⟩
    refine h3 (sp_at (fun r hr => ?_) (C.ci.inV ((f.span x).mpr h1) h2))
    obtain ⟨r', h', rfl⟩ := List.mem_map.mp hr
    exact vi_zero.mpr (h r' h')
  · intro h r hr
    refine Classical.byContradiction fun z => h ⟨vi r, (co_span C f _).mp (sp_mem (List.mem_append_right _ (List.mem_map.mpr ⟨r, hr, rfl⟩))), fun d hd => vi_zero.mpr (C.ci.zero r hr d hd), fun y => z (vi_zero.mp y)⟩
/-- sums of multiples by the leads -/
def sumQ : List (List Int) → List Nat → Vc → Nat → Rat
  | l :: L, k :: K, x, c => vi l c / vi l k * x k + sumQ L K x c
  | _, _, _, _ => 0
theorem dg_sum : ∀ {L : List (List Int)} {K : List Nat} (x : Vc), Dg (L.map vi) K → ∃ z, Sp (L.map vi) z ∧ (∀ k ∈ K, z k = x k) ∧ ∀ c, z c = sumQ L K x c
  | [], [], x, _ => ⟨fun _ => 0, fun _ => rfl, fun k h => (List.not_mem_nil h).elim, fun c => rfl⟩
  | l :: L, k :: K, x, ⟨h1, h2, h3, h4⟩ => by
    obtain ⟨z, a, b, e⟩ := dg_sum x h4
    have zk : z k = 0 := sp_at h2 a
    refine ⟨fun j => z j + x k / vi l k * vi l j, ⟨x k / vi l k, a.to fun j => by grind⟩, fun d hd => ?_, fun c => ?_⟩
    · show z d + x k / vi l k * vi l d = x d
      rcases List.mem_cons.mp hd with y | y
      · rw [y, zk]; grind
      · rw [b d y, h3 d y]; grind
    · show z c + x k / vi l k * vi l c = vi l c / vi l k * x k + sumQ L K x c
      rw [e c]
      grind
  | [], _ :: _, _, h => h.elim
  | _ :: _, [], _, h => h.elim
theorem co_sum (C : CO F n cells s S O) (f : FO F n V) {c : Nat} (hc : ¬ Piv V (cells.map Int.toNat) c) {x : Vc} (hx : V x) : x c = sumQ s.L (s.K.map Int.toNat) x c := by
  obtain ⟨z, a, b, e⟩ := dg_sum x C.ci.dg
  have hz : V z := (co_span C f z).mp (sp_sub_of (fun r hr => List.mem_append_left _ hr) a)
  have hy : V fun j => x j - z j := (f.span _).mp (sp_sub ((f.span x).mpr hx) ((f.span z).mpr hz))
  have h0 : ∀ d ∈ cells.map Int.toNat, x d - z d = 0 := gre_zero (V := V) (x := fun j => x j - z j) hy _ [] (fun d hd => (List.not_mem_nil hd).elim) fun d hd => by
    rw [← co_K C f] at hd
    show x d - z d = 0
    rw [b d hd]; grind
  have : x c - z c = 0 := Classical.byContradiction fun y => hc ⟨_, hy, h0, y⟩
  rw [← e c]
  grind
theorem dg_get : ∀ {L : List (List Int)} {K : List Nat} {i : Nat}, Dg (L.map vi) K → i < K.length → (L.getD i []).getD (K.getD i 0) 0 ≠ 0
  | l :: L, k :: K, 0, h, _ => fun z => h.1 (vi_zero.mpr z)
  | l :: L, k :: K, i + 1, h, hi => dg_get (L := L) (K := K) (i := i) h.2.2.2 (by simpa using hi)
  | [], [], i, _, hi => absurd hi (Nat.not_lt_zero _)
  | [], _ :: _, _, h, _ => h.elim
  | _ :: _, [], _, h, _ => h.elim
theorem getD_mapT (K : List Int) (i : Nat) : (K.map Int.toNat).getD i 0 = (K.getD i 0).toNat := by
  rw [List.getD_eq_getElem?_getD, List.getD_eq_getElem?_getD, List.getElem?_map]
  cases K[i]? <;> rfl
theorem co_lead (C : CO F n cells s S O) {i : Nat} (hi : i < min s.K.length s.L.length) : (s.L.getD i []).getD (s.K.getD i 0).toNat 0 ≠ 0 := by
  have := dg_get (i := i) C.ci.dg (by rw [List.length_map]; omega)
  rwa [getD_mapT] at this
end
end DL

set_option Elab.async false
set_option linter.all false
set_option maxRecDepth 100000
set_option maxHeartbeats 4000000
/-! the factors of a settled cell: how large they are -/
namespace DL
open PySem PySem.Spec PyProof.Rows L2
/-- sums of whole multiples of some cells -/
def lin : List Int → List Nat → Vc → Rat
  | c :: cs, k :: ks, x => (c : Rat) * x k + lin cs ks x
  | _, _, _ => 0
theorem lin_zero : ∀ (cs : List Int) (ks : List Nat), lin cs ks (fun _ => 0) = 0
  | [], _ => by cases ‹List Nat› <;> rfl
  | _ :: _, [] => rfl
  | c :: cs, k :: ks => by
    show (c : Rat) * 0 + lin cs ks _ = 0
    rw [lin_zero cs ks]; grind
theorem lin_add (a : Rat) (x y : Vc) : ∀ (cs : List Int) (ks : List Nat), lin cs ks (fun j => x j + a * y j) = lin cs ks x + a * lin cs ks y
  | [], ks => by cases ks <;> (show (0 : Rat) = 0 + a * 0; grind)
  | _ :: _, [] => by show (0 : Rat) = 0 + a * 0; grind
  | c :: cs, k :: ks => by
    have := lin_add a x y cs ks
    show (c : Rat) * (x k + a * y k) + lin cs ks _ = ((c : Rat) * x k + lin cs ks x) + a * ((c : Rat) * y k + lin cs ks y)
    rw [this]; grind
theorem lin_congr {x y : Vc} (h : ∀ j, x j = y j) (cs : List Int) (ks : List Nat) : lin cs ks x = lin cs ks y := by rw [funext h]
theorem lin_span {R : List Vc} {cs : List Int} {ks : List Nat} (h : ∀ r ∈ R, lin cs ks r = 0) {x : Vc} (hx : Sp R x) : lin cs ks x = 0 :=
  sp_ind (P := fun x => lin cs ks x = 0) (lin_zero cs ks) (fun r hr c y hy => by show lin cs ks (fun j => y j + c * r j) = 0; rw [lin_add, hy, h r hr]; grind) (fun x y e hx => by rw [← lin_congr e]; exact hx) hx
theorem lin_snoc : ∀ (cs : List Int) (ks : List Nat) (d : Int) (c : Nat) (x : Vc), cs.length = ks.length → lin (cs ++ [d]) (ks ++ [c]) x = lin cs ks x + (d : Rat) * x c
  | [], [], d, c, x, _ => by show (d : Rat) * x c + 0 = 0 + _; grind
  | e :: cs, k :: ks, d, c, x, h => by
    have := lin_snoc cs ks d c x (by simpa using h)
    show (e : Rat) * x k + lin (cs ++ [d]) (ks ++ [c]) x = ((e : Rat) * x k + lin cs ks x) + _
    rw [this]; grind
  | [], _ :: _, _, _, _, h => by cases h
  | _ :: _, [], _, _, _, h => by cases h
theorem lin_none : ∀ {cs : List Int} {ks : List Nat} {x : Vc}, (∀ k ∈ ks, x k = 0) → lin cs ks x = 0
  | [], ks, _, _ => by cases ks <;> rfl
  | _ :: _, [], _, _ => rfl
  | c :: cs, k :: ks, x, h => by
    show (c : Rat) * x k + lin cs ks x = 0
    rw [h k (List.mem_cons_self ..), lin_none fun d hd => h d (List.mem_cons_of_mem _ hd)]; grind
theorem cmb_lin : ∀ (cs : List Int) (ks : List Nat) (S : List (List Int)) (p : Nat) (s : List Int), S[p]? = some s → ((cmb cs (ks.map fun k => S.map fun s => s.getD k 0) p : Int) : Rat) = lin cs ks (vi s)
  | [], ks, S, p, s, _ => by cases ks <;> rfl
  | _ :: _, [], _, _, _, _ => rfl
  | c :: cs, k :: ks, S, p, s, h => by
    have ih := cmb_lin cs ks S p s h
    have e : (S.map fun s => s.getD k 0).getD p 0 = s.getD k 0 := by
      rw [List.getD_eq_getElem?_getD, List.getElem?_map, h]; rfl
    show ((c * (S.map fun s => s.getD k 0).getD p 0 + cmb cs (ks.map fun k => S.map fun s => s.getD k 0) p : Int) : Rat) = (c : Rat) * vi s k + lin cs ks (vi s)
    rw [e, Rat.intCast_add, Rat.intCast_mul, ih]
    rfl
/-- the factors as they stand in the leads -/
theorem dg_lin : ∀ {L : List (List Int)} {K : List Nat} {cs : List Int} {d : Int} {c : Nat}, Dg (L.map vi) K → cs.length = K.length → (∀ x, Sp (L.map vi) x → lin cs K x + (d : Rat) * x c = 0) →
    ∀ i, i < K.length → ((cs.getD i 0 : Int) : Rat) * vi (L.getD i []) (K.getD i 0) + (d : Rat) * vi (L.getD i []) c = 0
  | l :: L, k :: K, e :: cs, d, c, ⟨h1, h2, h3, h4⟩, hl, h, 0, _ => by
    have := h (vi l) (sp_mem (List.mem_cons_self ..))
    have e2 : lin (e :: cs) (k :: K) (vi l) = (e : Rat) * vi l k + lin cs K (vi l) := rfl
    rw [e2, lin_none h3] at this
    show (e : Rat) * vi l k + (d : Rat) * vi l c = 0
    grind
  | l :: L, k :: K, e :: cs, d, c, ⟨h1, h2, h3, h4⟩, hl, h, i + 1, hi => dg_lin (L := L) (K := K) (cs := cs) h4 (by simpa using hl) (fun x hx => by
      have := h x (sp_cons hx)
      have e2 : lin (e :: cs) (k :: K) x = (e : Rat) * x k + lin cs K x := rfl
      rw [e2, sp_at h2 hx] at this
      grind) i (by simpa using hi)
  | [], [], _, _, _, _, _, _, i, hi => absurd hi (Nat.not_lt_zero _)
  | [], _ :: _, _, _, _, h, _, _, _, _ => h.elim
  | _ :: _, [], _, _, _, h, _, _, _, _ => h.elim
  | _ :: _, _ :: _, [], _, _, _, h, _, _, _ => by cases h
theorem sieg_cols {L S : List (List Int)} {K : List Nat} {M c : Nat} (hd : Dg (L.map vi) K) (hs : ∀ x, Sp (L.map vi) x ↔ Sp (S.map vi) x) (hk : S.length = K.length) (hM : ∀ s ∈ S, ∀ j, (s.getD j 0).natAbs ≤ M) :
    ∃ (d : Int) (cs : List Int), d ≠ 0 ∧ d.natAbs ≤ (2 * (K.length + 1) * M + 1) ^ K.length ∧ (∀ x ∈ cs, x.natAbs ≤ (2 * (K.length + 1) * M + 1) ^ K.length) ∧ cs.length = K.length ∧ ∀ i, i < K.length → ((cs.getD i 0 : Int) : Rat) * vi (L.getD i []) (K.getD i 0) + (d : Rat) * vi (L.getD i []) c = 0 := by
  have lT : ((K ++ [c]).map fun k => S.map fun s => s.getD k 0).length = K.length + 1 := by rw [List.length_map, List.length_append]; rfl
  obtain ⟨cs, l1, ⟨x0, hx0, nx0⟩, hB, hz⟩ := siegel (T := (K ++ [c]).map fun k => S.map fun s => s.getD k 0) (ps := List.range S.length) (M := M) (fun t ht p hp => by
    obtain ⟨k, _, rfl⟩ := List.mem_map.mp ht
    have hp := List.mem_range.mp hp
    rw [List.getD_eq_getElem?_getD, List.getElem?_map, List.getElem?_eq_getElem hp]
    exact hM _ (List.getElem_mem hp) k) (by rw [lT, List.length_range, hk]; exact Nat.lt_succ_self _)
  rw [lT] at l1
  rw [lT, List.length_range, hk] at hB
  rcases List.eq_nil_or_concat cs with rfl | ⟨c', d, rfl⟩
  · cases l1
  rw [List.concat_eq_append] at *
  have l2 : c'.length = K.length := by simpa using l1
  have lz : ∀ x, Sp (L.map vi) x → lin c' K x + (d : Rat) * x c = 0 := fun x hx => by
    rw [← lin_snoc c' K d c x l2]
    refine lin_span (fun r hr => ?_) ((hs x).mp hx)
    obtain ⟨s, hs', rfl⟩ := List.mem_map.mp hr
    obtain ⟨p, hp, rfl⟩ := List.mem_iff_getElem.mp hs'
    rw [← cmb_lin (c' ++ [d]) (K ++ [c]) S p _ (List.getElem?_eq_getElem hp), hz p (List.mem_range.mpr hp)]
    rfl
  have key := dg_lin hd l2 lz
  refine ⟨d, c', fun h0 => ?_, hB d (List.mem_append_right _ (List.mem_singleton.mpr rfl)), fun x hx => hB x (List.mem_append_left _ hx), l2, key⟩
  subst h0
  have all0 : ∀ x ∈ c', x = 0 := fun x hx => by
    obtain ⟨i, hi, rfl⟩ := List.mem_iff_getElem.mp hx
    have h1 := key i (by omega)
    have h2 := dg_get (i := i) hd (by omega)
    have h3 : vi (L.getD i []) (K.getD i 0) ≠ 0 := fun z => h2 (vi_zero.mp z)
    have h4 : ((c'.getD i 0 : Int) : Rat) * vi (L.getD i []) (K.getD i 0) = 0 := by
      have e0 : ((0 : Int) : Rat) = 0 := rfl
      rw [e0] at h1
      grind
    have h5 := (Rat.mul_eq_zero.mp h4).resolve_right h3
    rw [List.getD_eq_getElem?_getD, List.getElem?_eq_getElem hi] at h5
    exact_mod_cast h5
  rcases List.mem_append.mp hx0 with z | z
  · exact nx0 (all0 _ z)
  · exact nx0 (List.mem_singleton.mp z)
/-! the factors' list, piece by piece -/
theorem ruleL_cons (k : Int) (K : List Int) (l : List Int) (L : List (List Int)) (c : Nat) : ruleL (k :: K) (l :: L) c = (if l.getD c 0 = 0 then [] else [(k, ((l.getD c 0 : Int) : Rat) / ((l.getD k.toNat 0 : Int) : Rat))]) ++ ruleL K L c := by
  unfold ruleL
  have e : min (k :: K).length (l :: L).length = min K.length L.length + 1 := by rw [List.length_cons, List.length_cons]; omega
  rw [e, List.range_succ_eq_map, List.filter_cons, List.filter_map]
  have e0 : (l :: L).getD 0 [] = l := rfl
  rw [e0]
  by_cases h : l.getD c 0 = 0
  · rw [if_pos h, if_neg (by rw [decide_eq_true h]; decide), List.map_map]
    rfl
  · rw [if_neg h, if_pos (by rw [decide_eq_false h]; rfl), List.map_cons, List.map_map]
    rfl
theorem ruleL_nil (L : List (List Int)) (c : Nat) : ruleL [] L c = [] := by unfold ruleL; rw [show min ([] : List Int).length L.length = 0 from Nat.zero_min _]; rfl
theorem ruleL_nil2 (K : List Int) (c : Nat) : ruleL K [] c = [] := by unfold ruleL; rw [show min K.length ([] : List (List Int)).length = 0 from Nat.min_zero _]; rfl
/-- the sum that the law makes of the factors -/
def sumP (ps : List (Int × Rat)) (x : Vc) : Rat := ps.foldl (fun a p => a + p.2 * x p.1.toNat) 0
theorem foldl_addQ {α : Type} (f : α → Rat) : ∀ (l : List α) (a : Rat), l.foldl (fun a p => a + f p) a = a + l.foldl (fun a p => a + f p) 0
  | [], a => by show a = a + 0; grind
  | p :: l, a => by
    rw [List.foldl_cons, List.foldl_cons, foldl_addQ f l, foldl_addQ f l (0 + f p)]
    grind
theorem sumP_cons (p : Int × Rat) (ps : List (Int × Rat)) (x : Vc) : sumP (p :: ps) x = p.2 * x p.1.toNat + sumP ps x := by
  unfold sumP
  rw [List.foldl_cons, foldl_addQ (fun p : Int × Rat => p.2 * x p.1.toNat)]
  grind
theorem sumP_is : ∀ (K : List Int) (L : List (List Int)) (x : Vc) (c : Nat), sumP (ruleL K L c) x = sumQ L (K.map Int.toNat) x c
  | [], L, x, c => by rw [ruleL_nil]; cases L <;> rfl
  | _ :: _, [], x, c => by rw [ruleL_nil2]; rfl
  | k :: K, l :: L, x, c => by
    have ih := sumP_is K L x c
    rw [ruleL_cons]
    show _ = vi l c / vi l k.toNat * x k.toNat + sumQ L (K.map Int.toNat) x c
    split
    · rename_i h
      rw [List.nil_append, ih, vi_zero.mpr h]
      grind
    · rw [List.singleton_append, sumP_cons, ih]
      rfl
theorem ruleL_mem {K : List Int} {L : List (List Int)} {c : Nat} {p : Int × Rat} (h : p ∈ ruleL K L c) : ∃ i, i < min K.length L.length ∧ (L.getD i []).getD c 0 ≠ 0 ∧ p = (K.getD i 0, (((L.getD i []).getD c 0 : Int) : Rat) / (((L.getD i []).getD (K.getD i 0).toNat 0 : Int) : Rat)) := by
  unfold ruleL at h
  obtain ⟨i, hi, rfl⟩ := List.mem_map.mp h
  obtain ⟨h1, h2⟩ := List.mem_filter.mp hi
  exact ⟨i, List.mem_range.mp h1, by simpa using h2, rfl⟩
section
variable {n M c : Nat} {rows F S O : List (List Int)} {cells : List Int} {s : Cst} {V : Vc → Prop}
theorem rule_gd (C : CO F n cells s S O) (hM : ∀ r ∈ F, ∀ j, (r.getD j 0).natAbs ≤ M) (c : Nat) : ∃ D : Nat, D ≠ 0 ∧ D ≤ (2 * (s.K.length + 1) * M + 1) ^ s.K.length ∧ ∀ p ∈ ruleL s.K s.L c, Gd D ((2 * (s.K.length + 1) * M + 1) ^ s.K.length) p.2 := by
  have hk := C.ci.ks
  obtain ⟨d, cs, h0, h1, h2, h3, h4⟩ := sieg_cols (c := c) C.ci.dg C.ci.spS hk fun s' hs j => hM s' (C.ci.mS s' hs) j
  rw [List.length_map] at h1 h2 h3 h4
  refine ⟨d.natAbs, by omega, h1, fun p hp => ?_⟩
  obtain ⟨i, hi, hc, rfl⟩ := ruleL_mem hp
  have e := h4 i (by omega)
  rw [getD_mapT] at e
  have hl : vi (s.L.getD i []) (s.K.getD i 0).toNat ≠ 0 := fun z => co_lead C hi (vi_zero.mp z)
  have key : vi (s.L.getD i []) c / vi (s.L.getD i []) (s.K.getD i 0).toNat * (d : Rat) = ((-(cs.getD i 0) : Int) : Rat) := by
    rw [Rat.intCast_neg]
    generalize vi (s.L.getD i []) c = a at e ⊢
    generalize vi (s.L.getD i []) (s.K.getD i 0).toNat = b at e hl ⊢
    grind
  have hb : (cs.getD i 0).natAbs ≤ (2 * (s.K.length + 1) * M + 1) ^ s.K.length := h2 _ (getD_memI (by omega))
  rcases Int.natAbs_eq d with hd | hd
  · refine ⟨-(cs.getD i 0), ?_, by rw [Int.natAbs_neg]; exact hb⟩
    rw [← hd]
    exact key
  · refine ⟨cs.getD i 0, ?_, hb⟩
    have hd2 : ((d.natAbs : Nat) : Int) = -d := by omega
    rw [hd2, Rat.intCast_neg]
    show vi (s.L.getD i []) c / vi (s.L.getD i []) (s.K.getD i 0).toNat * -(d : Rat) = _
    rw [Rat.intCast_neg] at key
    grind
theorem sumP_gd {D B : Nat} {x : List Int} (hx : ∀ j, (x.getD j 0).natAbs ≤ M) : ∀ (ps : List (Int × Rat)), (∀ p ∈ ps, Gd D B p.2) → Gd D (ps.length * (B * M)) (sumP ps (vi x))
  | [], _ => gd_zero
  | p :: ps, h => by
    rw [sumP_cons]
    have h1 : Gd D (B * M) (p.2 * vi x p.1.toNat) := by
      obtain ⟨z, e, b⟩ := h p (List.mem_cons_self ..)
      refine ⟨z * x.getD p.1.toNat 0, ?_, by rw [Int.natAbs_mul]; exact Nat.mul_le_mul b (hx _)⟩
      rw [Rat.intCast_mul, ← e]
      unfold vi
      grind
    have h2 := sumP_gd hx ps fun q hq => h q (List.mem_cons_of_mem _ hq)
    exact gd_mono (gd_add h1 h2) (by rw [List.length_cons, Nat.add_mul]; omega)
end
end DL

set_option Elab.async false
set_option linter.all false
set_option maxRecDepth 100000
set_option maxHeartbeats 4000000
/-! the rows that the law of settled cells draws; what it finds in them -/
namespace DL
open PySem PySem.Spec PyProof.Rows L2
def entN (ds : List Int) (n k j : Nat) : Int := ds.getD (2 + k * n + j) 0
def entR (ds : List Int) : Int := 2 + 7 * (if decide (((ds.getD 0 0).fdiv 4).fmod 8 = 1) = true then 1 else 0)
def entZ (ds : List Int) (n many k j : Nat) : Int :=
  if (ds.getD 0 0).fmod 4 = 1 ∧ j < many then (if decide ((j : Int) = (k : Int)) = true then 1 else 0)
  else if (ds.getD 0 0).fmod 4 = 1 then (entN ds n k j).fmod 3 - 1
  else if (ds.getD 0 0).fmod 4 = 2 then ([0, 1, -1, 2, 3, 6] : List Int).getD ((entN ds n k j).fmod 6).toNat 0
  else if (ds.getD 0 0).fmod 4 = 3 then (if decide ((ds.getD (3 + 2 * j) 0).fmod 5 = (k : Int)) = true then 1 else 0) - (if decide ((ds.getD (2 + 2 * j) 0).fmod 5 = (k : Int)) = true then 1 else 0)
  else (entN ds n k j).fmod (2 * entR ds + 1) - entR ds
theorem entR_b (ds : List Int) : 2 ≤ entR ds ∧ entR ds ≤ 9 := by
  unfold entR
  split <;> decide
theorem six_b : ∀ i : Nat, (([0, 1, -1, 2, 3, 6] : List Int).getD i 0).natAbs ≤ 9
  | 0 => by decide
  | 1 => by decide
  | 2 => by decide
  | 3 => by decide
  | 4 => by decide
  | 5 => by decide
  | _ + 6 => by
    rw [List.getD_eq_getElem?_getD, List.getElem?_eq_none (by simp)]
    decide
theorem entZ_b (ds : List Int) (n many k j : Nat) : (entZ ds n many k j).natAbs ≤ 9 := by
  unfold entZ
  split
  · split <;> decide
  · split
    · have h1 := Int.fmod_nonneg_of_pos (entN ds n k j) (show (0 : Int) < 3 by decide)
      have h2 := Int.fmod_lt_of_pos (entN ds n k j) (show (0 : Int) < 3 by decide)
      omega
    · split
      · exact six_b _
      · split
        · split <;> split <;> decide
        · have hb := entR_b ds
          have h1 := Int.fmod_nonneg_of_pos (entN ds n k j) (show (0 : Int) < 2 * entR ds + 1 by omega)
          have h2 := Int.fmod_lt_of_pos (entN ds n k j) (show (0 : Int) < 2 * entR ds + 1 by omega)
          omega
section
variable {ds : List Int} {n many k j : Nat}
theorem ent_1 (h : (decide ((ds.getD 0 0).fmod 4 = 1) && decide ((j : Int) < (many : Int))) = true) : (if decide ((j : Int) = (k : Int)) = true then 1 else 0) = entZ ds n many k j := by
  rw [Bool.and_eq_true] at h
  have a := of_decide_eq_true h.1
  have b := of_decide_eq_true h.2
  unfold entZ
  exact (if_pos ⟨a, by omega⟩).symm
theorem ent_n (h : ¬ (decide ((ds.getD 0 0).fmod 4 = 1) && decide ((j : Int) < (many : Int))) = true) : ¬ ((ds.getD 0 0).fmod 4 = 1 ∧ j < many) := fun z => h (by rw [decide_eq_true z.1, decide_eq_true (by omega : (j : Int) < (many : Int))]; rfl)
theorem ent_2 (h : ¬ (decide ((ds.getD 0 0).fmod 4 = 1) && decide ((j : Int) < (many : Int))) = true) (h2 : (ds.getD 0 0).fmod 4 = 1) : (entN ds n k j).fmod 3 - 1 = entZ ds n many k j := by
  unfold entZ
  rw [if_neg (ent_n h), if_pos h2]
theorem ent_3 (h : ¬ (decide ((ds.getD 0 0).fmod 4 = 1) && decide ((j : Int) < (many : Int))) = true) (h2 : ¬ (ds.getD 0 0).fmod 4 = 1) (h3 : (ds.getD 0 0).fmod 4 = 2) : ([0, 1, -1, 2, 3, 6] : List Int).getD ((entN ds n k j).fmod 6).toNat 0 = entZ ds n many k j := by
  unfold entZ
  rw [if_neg (ent_n h), if_neg h2, if_pos h3]
theorem ent_4 (h : ¬ (decide ((ds.getD 0 0).fmod 4 = 1) && decide ((j : Int) < (many : Int))) = true) (h2 : ¬ (ds.getD 0 0).fmod 4 = 1) (h3 : ¬ (ds.getD 0 0).fmod 4 = 2) (h4 : (ds.getD 0 0).fmod 4 = 3) : (if decide ((ds.getD (3 + 2 * j) 0).fmod 5 = (k : Int)) = true then 1 else 0) - (if decide ((ds.getD (2 + 2 * j) 0).fmod 5 = (k : Int)) = true then 1 else 0) = entZ ds n many k j := by
  unfold entZ
  rw [if_neg (ent_n h), if_neg h2, if_neg h3, if_pos h4]
theorem ent_5 (h : ¬ (decide ((ds.getD 0 0).fmod 4 = 1) && decide ((j : Int) < (many : Int))) = true) (h2 : ¬ (ds.getD 0 0).fmod 4 = 1) (h3 : ¬ (ds.getD 0 0).fmod 4 = 2) (h4 : ¬ (ds.getD 0 0).fmod 4 = 3) : (entN ds n k j).fmod (2 * entR ds + 1) - entR ds = entZ ds n many k j := by
  unfold entZ
  rw [if_neg (ent_n h), if_neg h2, if_neg h3, if_neg h4]
end
/-! the rows -/
def rowA (ds : List Int) (n many k : Nat) : List Int := (List.range n).map fun j => entZ ds n many k j
def rowB (ds : List Int) (n many : Nat) (R : List (List Int)) (k : Nat) : List Int := if (decide ((0 : Int) < (k : Int)) && decide ((ds.getD 1 0).fmod 11 = 1)) = true then (R.getD (k - 1) []).map (fun x => 2 * x) else rowA ds n many k
def rowC (ds : List Int) (n many : Nat) (R : List (List Int)) (k : Nat) : List Int := if (decide ((0 : Int) < (k : Int)) && decide ((ds.getD 1 0).fmod 13 = 1)) = true then (rowB ds n many R k).map (fun _ => 0) else rowB ds n many R k
def rowsU (ds : List Int) (n many : Nat) : Nat → List (List Int)
  | 0 => []
  | k + 1 => rowsU ds n many k ++ [rowC ds n many (rowsU ds n many k) k]
def turnT (ds : List Int) (n : Nat) : Nat := (((ds.getD 1 0).fdiv 143).fmod (n : Int)).toNat
def turned (t : Nat) (r : List Int) : List Int := r.drop t ++ r.take t
def rowsZ (ds : List Int) (n many : Nat) : List (List Int) := (rowsU ds n many many).map (turned (turnT ds n))
theorem rowsU_len (ds : List Int) (n many : Nat) : ∀ k, (rowsU ds n many k).length = k
  | 0 => rfl
  | k + 1 => by
    show (rowsU ds n many k ++ _).length = _
    rw [List.length_append, rowsU_len]
    rfl
theorem rowsU_ok (ds : List Int) (n many : Nat) : ∀ k, ∀ r ∈ rowsU ds n many k, r.length = n ∧ ∀ x ∈ r, x.natAbs ≤ 9 * 2 ^ k
  | 0, r, h => (List.not_mem_nil h).elim
  | k + 1, r, h => by
    have ih := rowsU_ok ds n many k
    have p2 : 9 * 2 ^ k ≤ 9 * 2 ^ (k + 1) := Nat.mul_le_mul_left _ (Nat.pow_le_pow_right (by decide) (Nat.le_succ _))
    rcases List.mem_append.mp h with z | z
    · exact ⟨(ih r z).1, fun x hx => Nat.le_trans ((ih r z).2 x hx) p2⟩
    · rw [List.mem_singleton.mp z]
      have hB : (rowB ds n many (rowsU ds n many k) k).length = n ∧ ∀ x ∈ rowB ds n many (rowsU ds n many k) k, x.natAbs ≤ 9 * 2 ^ (k + 1) := by
        unfold rowB
        split
        · rename_i hc
          rw [Bool.and_eq_true] at hc
          have hk := of_decide_eq_true hc.1
          have hm : (rowsU ds n many k).getD (k - 1) [] ∈ rowsU ds n many k := getD_memL (by rw [rowsU_len]; omega)
          refine ⟨by rw [List.length_map]; exact (ih _ hm).1, fun x hx => ?_⟩
          obtain ⟨y, hy, rfl⟩ := List.mem_map.mp hx
          have := (ih _ hm).2 y hy
          rw [Int.natAbs_mul, Nat.pow_succ]
          show 2 * y.natAbs ≤ _
          omega
        · refine ⟨by unfold rowA; rw [List.length_map, List.length_range], fun x hx => ?_⟩
          obtain ⟨j, _, rfl⟩ := List.mem_map.mp hx
          have h1 := entZ_b ds n many k j
          have h2 : 9 * 1 ≤ 9 * 2 ^ (k + 1) := Nat.mul_le_mul_left _ (Nat.one_le_two_pow)
          omega
      unfold rowC
      split
      · refine ⟨by rw [List.length_map]; exact hB.1, fun x hx => ?_⟩
        obtain ⟨y, _, rfl⟩ := List.mem_map.mp hx
        exact Nat.zero_le _
      · exact hB
theorem turned_len (t : Nat) (r : List Int) : (turned t r).length = r.length := by
  unfold turned
  rw [List.length_append, List.length_drop, List.length_take]
  omega
theorem turned_mem {t : Nat} {r : List Int} {x : Int} (h : x ∈ turned t r) : x ∈ r := (List.mem_append.mp h).elim List.mem_of_mem_drop List.mem_of_mem_take
theorem small_getD {r : List Int} {M : Nat} (h : ∀ x ∈ r, x.natAbs ≤ M) (j : Nat) : (r.getD j 0).natAbs ≤ M := by
  by_cases hj : j < r.length
  · exact h _ (getD_memI hj)
  · rw [getD_ge (by omega)]; exact Nat.zero_le _
theorem nums5 : ∀ m : Nat, m < 6 → bnd m 288 < 2 ^ 60 ∧ bnd m (bnd m 288) < 2 ^ 320 ∧ (2 * (m + 1) * bnd m 288 + 1) ^ m < 2 ^ 310 ∧ 5 * ((2 * (m + 1) * bnd m 288 + 1) ^ m * 288) < 2 ^ 330 := by decide +kernel
theorem rowsZ_dw {ds : List Int} {n many : Nat} (h1 : 1 ≤ n) (h2 : n ≤ 16) (h3 : many < 6) : Dw n 288 (rowsZ ds n many) := by
  have hl : (rowsZ ds n many).length = many := by unfold rowsZ; rw [List.length_map, rowsU_len]
  have hn := nums5 many h3
  refine ⟨h1, h2, by omega, fun r hr => ?_, fun r hr j => small_getD (fun x hx => ?_) j, by decide, by rw [hl]; exact Nat.lt_of_lt_of_le hn.1 (Nat.pow_le_pow_right (by decide) (by decide)), by rw [hl]; exact Nat.lt_of_lt_of_le hn.2.1 (Nat.pow_le_pow_right (by decide) (by decide))⟩
  · obtain ⟨q, hq, rfl⟩ := List.mem_map.mp hr
    rw [turned_len]
    exact (rowsU_ok ds n many many q hq).1
  · obtain ⟨q, hq, rfl⟩ := List.mem_map.mp hr
    refine Nat.le_trans ((rowsU_ok ds n many many q hq).2 x (turned_mem hx)) ?_
    exact Nat.mul_le_mul_left 9 (Nat.pow_le_pow_right (n := 2) (by decide) (show many ≤ 5 by omega))
theorem rowsZ_len (ds : List Int) (n many : Nat) : (rowsZ ds n many).length = many := by unfold rowsZ; rw [List.length_map, rowsU_len]
/-! the law's own clearing, as it walks -/
def splS (c : Nat) (s : Option (List Int) × List (List Int)) (r : List Int) : Option (List Int) × List (List Int) := if s.1.isNone && !decide (r.getD c 0 = 0) then (some r, s.2) else (s.1, s.2 ++ [r])
def spl (R : List (List Int)) (c : Nat) : Option (List Int) × List (List Int) := R.foldl (splS c) (none, [])
theorem spl_step {R : List (List Int)} {c i : Nat} (h : i < R.length) : spl (R.take (i + 1)) c = splS c (spl (R.take i) c) (R.getD i []) := by
  unfold spl
  rw [take_snoc (d := []) h, List.foldl_append]
  rfl
theorem spl_is (R : List (List Int)) (c : Nat) : spl R c = match leadAt R c with
  | none => (none, R)
  | some k => (some (R.getD k []), R.take k ++ R.drop (k + 1)) := by
  have after : ∀ (B : List (List Int)) (r : List Int) (A : List (List Int)), B.foldl (splS c) (some r, A) = (some r, A ++ B) := fun B => by
    induction B with
    | nil => exact fun r A => by rw [List.append_nil]; rfl
    | cons b B ih =>
      intro r A
      rw [List.foldl_cons]
      have e : splS c (some r, A) b = (some r, A ++ [b]) := rfl
      rw [e, ih, List.append_assoc]
      rfl
  have before : ∀ (B A : List (List Int)), (∀ r ∈ B, r.getD c 0 = 0) → B.foldl (splS c) (none, A) = (none, A ++ B) := fun B => by
    induction B with
    | nil => exact fun A _ => by rw [List.append_nil]; rfl
    | cons b B ih =>
      intro A h
      rw [List.foldl_cons]
      have hb := h b (List.mem_cons_self ..)
      have e : splS c (none, A) b = (none, A ++ [b]) := by
        unfold splS
        exact if_neg fun z => by rw [decide_eq_true hb] at z; cases z
      rw [e, ih _ fun r hr => h r (List.mem_cons_of_mem _ hr), List.append_assoc]
      rfl
  unfold spl
  cases h : leadAt R c with
  | none => exact before R [] (leadAt_none h)
  | some k =>
    obtain ⟨h1, h2, h3⟩ := leadAt_some h
    have hz : ∀ r ∈ R.take k, r.getD c 0 = 0 := fun r hr => by
      obtain ⟨j, hj, rfl⟩ := List.mem_iff_getElem.mp hr
      refine Classical.byContradiction fun z => ?_
      have hj2 : j < k ∧ j < R.length := by rw [List.length_take] at hj; exact Nat.lt_min.mp hj
      rw [List.getElem_take] at z
      obtain ⟨m, hm, hm2, hm3⟩ : ∃ m, m < k ∧ (R.getD m []).getD c 0 ≠ 0 ∧ ∀ i, i < m → (R.getD i []).getD c 0 = 0 := by
        have hex : ∃ m, m < k ∧ (R.getD m []).getD c 0 ≠ 0 := ⟨j, hj2.1, by
          have e : R.getD j [] = R[j] := by rw [List.getD_eq_getElem?_getD, List.getElem?_eq_getElem hj2.2]; rfl
          rw [e]; exact z⟩
        obtain ⟨m, hm⟩ : ∃ m, (m < k ∧ (R.getD m []).getD c 0 ≠ 0) ∧ ∀ i, i < m → ¬ (i < k ∧ (R.getD i []).getD c 0 ≠ 0) := by
          refine Classical.byContradiction fun no => ?_
          have : ∀ m, ¬ (m < k ∧ (R.getD m []).getD c 0 ≠ 0) := fun m => by
            induction m using Nat.strongRecOn with
            | _ m ih => exact fun y => no ⟨m, y, ih⟩
          obtain ⟨m, y⟩ := hex
          exact this m y
        exact ⟨m, hm.1.1, hm.1.2, fun i hi => Classical.byContradiction fun y => hm.2 i hi ⟨by omega, y⟩⟩
      have := leadAt_at (by omega) hm3 hm2
      rw [h] at this
      cases this
      omega
    show _ = (some (R.getD k []), R.take k ++ R.drop (k + 1))
    generalize hld : R.getD k [] = lead at h2 h3 ⊢
    generalize hA : R.take k = A at h3 hz ⊢
    generalize hB : R.drop (k + 1) = B at h3 ⊢
    rw [h3, List.foldl_append, before A [] hz, List.foldl_cons, List.nil_append]
    have e : splS c (none, A) lead = (some lead, A) := by
      unfold splS
      exact if_pos (by rw [decide_eq_false h2]; rfl)
    rw [e, after]
theorem lk_t {rows : List (List Int)} {i : Nat} {l : List Int} (h : (spl (lk rows i).2 i).1 = some l) : lk rows (i + 1) = ((lk rows i).1 + 1, (spl (lk rows i).2 i).2.map fun row => lcl row l i) := by
  rw [lk_succ]
  rw [spl_is] at h ⊢
  generalize lk rows i = s at h ⊢
  unfold lkStep
  cases e : leadAt s.2 i with
  | none => rw [e] at h; cases h
  | some k =>
    rw [e] at h
    have h : some (s.2.getD k []) = some l := h
    cases h
    rfl
theorem lk_f {rows : List (List Int)} {i : Nat} (h : (spl (lk rows i).2 i).1 = none) : lk rows (i + 1) = lk rows i := by
  rw [lk_succ]
  rw [spl_is] at h
  generalize lk rows i = s at h ⊢
  unfold lkStep
  cases e : leadAt s.2 i with
  | none => rfl
  | some k => rw [e] at h; cases h
theorem mul_sm {x y : Int} (h : x.natAbs < 1000000) (k : y.natAbs < 1000000) : Lg x + Lg y < 1000000 := by
  have a : Lg x < 30 := lg_of (by decide) (Nat.lt_trans h (by decide))
  have b : Lg y < 30 := lg_of (by decide) (Nat.lt_trans k (by decide))
  omega
section
variable {K : PySem.W.Frag} {ds : List Int} {n many i : Nat}
theorem rowA_lc : List.map (fun j : Nat => rInt (entZ ds n many i j)) (List.filter (fun _ => true) (List.range ((n : Int)).toNat)) = List.map rInt (rowA ds n many i) := by
  rw [List.filter_eq_self.mpr (fun _ _ => rfl)]
  unfold rowA
  rw [List.map_map]
  rfl
theorem rowB_t (h : (decide ((0 : Int) < (i : Int)) && decide ((ds.getD 1 0).fmod 11 = 1)) = true) : ((rowsU ds n many i).getD (i - 1) []).map (fun x => 2 * x) = rowB ds n many (rowsU ds n many i) i := (if_pos h).symm
theorem rowB_f (h : (decide ((0 : Int) < (i : Int)) && decide ((ds.getD 1 0).fmod 11 = 1)) = false) : rowA ds n many i = rowB ds n many (rowsU ds n many i) i := (if_neg (fun z => Bool.false_ne_true (h.symm.trans z))).symm
theorem rowC_t (h : (decide ((0 : Int) < (i : Int)) && decide ((ds.getD 1 0).fmod 13 = 1)) = true) : (rowB ds n many (rowsU ds n many i) i).map (fun _ => 0) = rowC ds n many (rowsU ds n many i) i := (if_pos h).symm
theorem rowC_f (h : (decide ((0 : Int) < (i : Int)) && decide ((ds.getD 1 0).fmod 13 = 1)) = false) : rowB ds n many (rowsU ds n many i) i = rowC ds n many (rowsU ds n many i) i := (if_neg (fun z => Bool.false_ne_true (h.symm.trans z))).symm
theorem im1 {i : Nat} : ((i : Int) - 1).toNat = i - 1 := by omega
end
theorem lc_mapI {xs : List Int} {g : Int → Int} : List.map (fun i : Nat => rInt (g (xs.getD i 0))) (List.filter (fun _ => true) (List.range xs.length)) = List.map rInt (xs.map g) := (lc_map (f := fun x => rInt (g x))).trans (by rw [List.map_map]; rfl)
theorem lc_mapL {K : PySem.W.Frag} {xs : List (List Int)} {g : List Int → List Int} : List.map (fun i : Nat => rLst K ((g (xs.getD i [])).map rInt)) (List.filter (fun _ => true) (List.range xs.length)) = List.map (fun l => rLst K (List.map rInt l)) (xs.map g) := (lc_map (f := fun x => rLst K ((g x).map rInt))).trans (by rw [List.map_map]; rfl)
theorem ent_in {i j n many : Nat} (h : i < many) (h2 : j < n) (h3 : many * n ≤ 58) : i * n + j < 58 := by
  have := Nat.mul_le_mul_right n (show i + 1 ≤ many from h)
  rw [Nat.add_mul] at this
  omega
theorem and_l {p : Prop} [Decidable p] {b : Bool} (h : (decide p && b) = true) : p := of_decide_eq_true (by rw [Bool.and_eq_true] at h; exact h.1)
theorem rowB_len (ds : List Int) (n many k : Nat) : (rowB ds n many (rowsU ds n many k) k).length = n := by
  have h := (rowsU_ok ds n many (k + 1) (rowC ds n many (rowsU ds n many k) k) (List.mem_append_right _ (List.mem_singleton.mpr rfl))).1
  unfold rowC at h
  split at h
  · rwa [List.length_map] at h
  · exact h
theorem rowU_sm {ds : List Int} {n many i j m : Nat} (h : i < 6) : Lg 2 + Lg (((rowsU ds n many i).getD m []).getD j 0) < 1000000 := by
  refine mul_sm (by decide) (Nat.lt_of_le_of_lt (?_ : _ ≤ 288) (by decide))
  by_cases hm : m < (rowsU ds n many i).length
  · refine small_getD (fun x hx => Nat.le_trans ((rowsU_ok ds n many i _ (getD_memL hm)).2 x hx) ?_) j
    exact Nat.mul_le_mul_left 9 (Nat.pow_le_pow_right (n := 2) (by decide) (show i ≤ 5 by omega))
  · have e : (rowsU ds n many i).getD m [] = [] := by rw [List.getD_eq_getElem?_getD, List.getElem?_eq_none (by omega)]; rfl
    rw [e]
    exact Nat.zero_le _
theorem rowU_len {ds : List Int} {n many i m : Nat} (h : m < (rowsU ds n many i).length) : ((rowsU ds n many i).getD m []).length = n := (rowsU_ok ds n many i _ (getD_memL h)).1
end DL

set_option Elab.async false
set_option linter.all false
set_option maxRecDepth 100000
set_option maxHeartbeats 4000000
/-! the law's own clearing: what its steps ask -/
namespace DL
open PySem PySem.Spec PyProof.Rows L2
theorem lmade_lc {row lead : List Int} {c : Nat} : List.map (fun i : Nat => rInt (row.getD i 0 * lead.getD c 0 - lead.getD i 0 * row.getD c 0)) (List.filter (fun _ => true) (List.range ((row.length : Nat) : Int).toNat)) = List.map rInt (lmade row lead c) := by
  rw [List.filter_eq_self.mpr (fun _ _ => rfl)]
  unfold lmade
  rw [List.map_map]
  rfl
theorem lmade_len (row lead : List Int) (c : Nat) : (lmade row lead c).length = row.length := by unfold lmade; rw [List.length_map, List.length_range]
def Sm (n : Nat) (r : List Int) : Prop := r.length = n ∧ ∀ j, Lg (r.getD j 0) < 300
theorem lmade_lg {n c j : Nat} {row lead : List Int} (h : Sm n row) (k : Sm n lead) : Lg ((lmade row lead c).getD j 0) < 700 := by
  rw [lmade_at h.1 k.1]
  have m1 := lg_mul (row.getD j 0) (lead.getD c 0)
  have m2 := lg_mul (lead.getD j 0) (row.getD c 0)
  have := lg_sub (row.getD j 0 * lead.getD c 0) (lead.getD j 0 * row.getD c 0)
  have := h.2 j
  have := h.2 c
  have := k.2 j
  have := k.2 c
  omega
theorem lcl_t {row lead : List Int} {c : Nat} (h : decide (((gl (lmade row lead c) : Nat) : Int) = 0) = true) : lmade row lead c = lcl row lead c := by
  have h := of_decide_eq_true h
  have e : lcl row lead c = if gl (lmade row lead c) = 0 then lmade row lead c else (lmade row lead c).map fun x => x.fdiv (gl (lmade row lead c) : Nat) := rfl
  rw [e, if_pos (by omega)]
theorem lcl_f {row lead : List Int} {c : Nat} (h : decide (((gl (lmade row lead c) : Nat) : Int) = 0) = false) : (lmade row lead c).map (fun x => x.fdiv (gl (lmade row lead c) : Nat)) = lcl row lead c := by
  have h := of_decide_eq_false h
  have e : lcl row lead c = if gl (lmade row lead c) = 0 then lmade row lead c else (lmade row lead c).map fun x => x.fdiv (gl (lmade row lead c) : Nat) := rfl
  rw [e, if_neg (by omega)]
theorem gl_lgT {l : List Int} {i m : Nat} (h : ∀ j, Lg (l.getD j 0) < m) (hm : 0 < m) : Lg ((gl (l.take i) : Nat) : Int) < m := by
  by_cases z : ∀ x ∈ l.take i, x = 0
  · have : gl (l.take i) = 0 := by
      have : (0 : Nat) ∣ gl (l.take i) := gl_dvd.mpr fun x hx => by rw [z x hx]; exact Int.dvd_refl _
      exact Nat.zero_dvd.mp this
    rw [this]
    exact hm
  · obtain ⟨x, hx, hx0⟩ : ∃ x, x ∈ l.take i ∧ x ≠ 0 := Classical.byContradiction fun no => z fun x hx => Classical.byContradiction fun y => no ⟨x, hx, y⟩
    have h1 := (gl_dvd (d := gl (l.take i)) (ns := l.take i)).mp (Nat.dvd_refl _) x hx
    obtain ⟨j, e⟩ := mem_getD0 (List.mem_of_mem_take hx)
    have h2 : (gl (l.take i)) ≤ x.natAbs := Nat.le_of_dvd (by omega) (by have := Int.natAbs_dvd_natAbs.mpr h1; rwa [Int.natAbs_natCast] at this)
    have h3 : Lg ((gl (l.take i) : Nat) : Int) ≤ Lg x := lg_le (by rw [Int.natAbs_natCast]; exact h2)
    have := h j
    rw [← e] at this
    omega
/-! the count -/
structure RkOk (n : Nat) (rows : List (List Int)) (lot : List Int) : Prop where
  d : Dw n 288 rows
  m : rows.length < 6
  l : lot.length ≤ 40
  inn : ∀ c ∈ lot, 0 ≤ c ∧ c < (n : Int)
abbrev cutL (rows : List (List Int)) (lot : List Int) : List (List Int) := rows.map (cutr (lot.map Int.toNat))
theorem cut_lc1 {row : List Int} {lot : List Int} : List.map (fun j : Nat => rInt (row.getD (lot.getD j 0).toNat 0)) (List.filter (fun _ => true) (List.range lot.length)) = List.map rInt (cutr (lot.map Int.toNat) row) := (lc_map (f := fun c : Int => rInt (row.getD c.toNat 0))).trans (by unfold cutr; rw [List.map_map, List.map_map]; rfl)
section
variable {n i : Nat} {rows : List (List Int)} {lot : List Int}
theorem cut_sm (h : RkOk n rows lot) : ∀ t ∈ cutL rows lot, ∀ j, (t.getD j 0).natAbs ≤ 288 := fun t ht => by
  obtain ⟨q, hq, rfl⟩ := List.mem_map.mp ht
  refine small_getD fun x hx => ?_
  obtain ⟨c, _, rfl⟩ := List.mem_map.mp hx
  exact h.d.sm q hq c
theorem cutL_len : ∀ t ∈ cutL rows lot, t.length = lot.length := fun t ht => by
  obtain ⟨q, hq, rfl⟩ := List.mem_map.mp ht
  unfold cutr
  rw [List.length_map, List.length_map]
theorem lk_ok (h : RkOk n rows lot) (i : Nat) : (∀ r ∈ (lk (cutL rows lot) i).2, Sm lot.length r) ∧ (lk (cutL rows lot) i).2.length < 6 ∧ (lk (cutL rows lot) i).1 < 6 := by
  obtain ⟨K, L, S, O, C⟩ := lk_lo (cutL_len (rows := rows) (lot := lot)) i
  have hr : (cutL rows lot).length = rows.length := List.length_map _
  have h1 := C.cnt
  have h2 := C.k
  have := h.m
  refine ⟨fun r hr2 => ⟨C.len r hr2, fun j => ?_⟩, by omega, by omega⟩
  refine lg_b (lk_small C (cut_sm h) r hr2 j) ?_ (by decide)
  rw [hr]
  have := (nums5 rows.length h.m).1
  exact Nat.lt_of_lt_of_le (show bnd rows.length 288 + 288 < 2 ^ 61 by omega) (Nat.pow_le_pow_right (by decide) (by decide))
theorem spl_sub {R : List (List Int)} {c m : Nat} (hm : m ≤ R.length) : (∀ r ∈ (spl (R.take m) c).2, r ∈ R) ∧ (spl (R.take m) c).2.length ≤ m ∧ ∀ l, (spl (R.take m) c).1 = some l → l ∈ R ∧ l.getD c 0 ≠ 0 := by
  induction m with
  | zero =>
    rw [List.take_zero]
    exact ⟨fun r h => (List.not_mem_nil h).elim, Nat.le_refl _, fun l h => by cases h⟩
  | succ m ih =>
    obtain ⟨a, b, d⟩ := ih (by omega)
    have hr := getD_memL (l := R) (i := m) (by omega)
    rw [spl_step (by omega)]
    unfold splS
    split
    · rename_i hz
      refine ⟨a, by show (spl (R.take m) c).2.length ≤ m + 1; omega, fun l h => ?_⟩
      cases h
      refine ⟨hr, fun z => ?_⟩
      rw [decide_eq_true z, Bool.not_true, Bool.and_false] at hz
      cases hz
    · refine ⟨fun r h => ?_, ?_, d⟩
      · rcases List.mem_append.mp h with z | z
        · exact a r z
        · rw [List.mem_singleton.mp z]; exact hr
      · show ((spl (R.take m) c).2 ++ [R.getD m []]).length ≤ _
        rw [List.length_append]
        show _ + 1 ≤ _
        omega
theorem spl_t {R : List (List Int)} {c m : Nat} (hm : m < R.length) (h : ((spl (R.take m) c).1.isNone && !decide ((R.getD m []).getD c 0 = 0)) = true) : spl (R.take (m + 1)) c = (some (R.getD m []), (spl (R.take m) c).2) := by
  rw [spl_step hm]
  exact if_pos h
theorem spl_f {R : List (List Int)} {c m : Nat} (hm : m < R.length) (h : ((spl (R.take m) c).1.isNone && !decide ((R.getD m []).getD c 0 = 0)) = false) : spl (R.take (m + 1)) c = ((spl (R.take m) c).1, (spl (R.take m) c).2 ++ [R.getD m []]) := by
  rw [spl_step hm]
  exact if_neg fun z => Bool.false_ne_true (h.symm.trans z)
theorem spl_all {R : List (List Int)} {c : Nat} : spl (R.take R.length) c = spl R c := by rw [List.take_length]
theorem isNone_f {α : Type} {o : Option α} {d : α} (h : o.isNone = false) : o = some (o.getD d) := by cases o with | none => cases h | some x => rfl
theorem isNone_t {α : Type} {o : Option α} (h : o.isNone = true) : o = none := by cases o with | none => rfl | some x => cases h
theorem lk_cutN (lot : List Int) : (lk (cutL rows lot) lot.length).1 = (gre (Sp (rows.map vi)) [] (lot.map Int.toNat)).length := by
  have := lk_count (lot := lot.map Int.toNat) (rows := rows)
  rwa [List.length_map] at this
theorem spl_in {R : List (List Int)} {c : Nat} : (∀ r ∈ (spl R c).2, r ∈ R) ∧ ∀ l, (spl R c).1 = some l → l ∈ R := by
  have h := spl_sub (R := R) (c := c) (Nat.le_refl _)
  rw [spl_all] at h
  exact ⟨h.1, fun l hl => (h.2.2 l hl).1⟩
theorem rk_cl {R : List (List Int)} {c j m : Nat} (h : ∀ r ∈ R, Sm m r) (hj : j < (spl R c).2.length) (hn : (!(spl R c).1.isNone) = true) : Sm m ((spl R c).2.getD j []) ∧ Sm m ((spl R c).1.getD []) :=
  ⟨h _ (spl_in.1 _ (getD_memL hj)), h _ (spl_in.2 _ (isNone_f (nn_t hn)))⟩
end
end DL

set_option Elab.async false
set_option linter.all false
set_option maxRecDepth 100000
set_option maxHeartbeats 4000000
/-! the free cells as the law finds them, and as the program does -/
namespace DL
open PySem PySem.Spec PyProof.Rows L2
def zl (l : List Nat) : List Int := l.map fun i : Nat => (i : Int)
theorem zl_nat (l : List Nat) : (zl l).map Int.toNat = l := by
  unfold zl
  rw [List.map_map]
  exact (List.map_congr_left fun i _ => rfl).trans (List.map_id l)
theorem zl_of {l : List Int} (h : ∀ x ∈ l, 0 ≤ x) : zl (l.map Int.toNat) = l := by
  unfold zl
  rw [List.map_map]
  refine (List.map_congr_left fun x hx => ?_).trans (List.map_id l)
  have := h x hx
  show ((x.toNat : Nat) : Int) = x
  omega
def lotN (lot : List Int) (i : Nat) : List Nat := (List.range i).filter fun c : Nat => decide ((c : Int) ∈ lot)
theorem lotN_succ (lot : List Int) (i : Nat) : lotN lot (i + 1) = lotN lot i ++ (if decide ((i : Int) ∈ lot) = true then [i] else []) := by
  unfold lotN
  rw [List.range_succ, List.filter_append, List.filter_cons]
  rfl
theorem lotN_mem {lot : List Int} {i c : Nat} : c ∈ lotN lot i ↔ c < i ∧ (c : Int) ∈ lot := by
  unfold lotN
  rw [List.mem_filter, List.mem_range]
  simp
noncomputable def freeN (rows : List (List Int)) (lot : List Int) (i : Nat) : List Nat := gre (Sp (rows.map vi)) [] (lotN lot i)
noncomputable def freeL (rows : List (List Int)) (lot : List Int) (i : Nat) : List Int := zl (freeN rows lot i)
theorem lotN_len (lot : List Int) (i : Nat) : (lotN lot i).length ≤ i := by
  unfold lotN
  exact Nat.le_trans (List.length_filter_le _ _) (by rw [List.length_range]; exact Nat.le_refl _)
theorem freeL_len (rows : List (List Int)) (lot : List Int) (i : Nat) : (freeL rows lot i).length ≤ i := by
  unfold freeL zl freeN
  rw [List.length_map]
  exact Nat.le_trans (gre_len _ _ _) (lotN_len lot i)
theorem freeL_mem {rows : List (List Int)} {lot : List Int} {i : Nat} {c : Int} (h : c ∈ freeL rows lot i) : 0 ≤ c ∧ c < (i : Int) ∧ c ∈ lot := by
  obtain ⟨k, hk, rfl⟩ := List.mem_map.mp h
  have := lotN_mem.mp (gre_sub _ _ _ k hk)
  exact ⟨Int.natCast_nonneg k, by omega, this.2⟩
structure FfOk (n : Nat) (rows : List (List Int)) : Prop where
  d : Dw n 288 rows
  m : rows.length < 6
section
variable {n i : Nat} {rows : List (List Int)} {lot : List Int}
theorem ff_rk (h : FfOk n rows) (hi : i < n) {c : Int} (hc : 0 ≤ c ∧ c < n) : RkOk n rows (freeL rows lot i ++ [c]) := by
  have h2 := h.d.n2
  refine ⟨h.d, h.m, ?_, fun x hx => ?_⟩
  · have := freeL_len rows lot i
    rw [List.length_append, List.length_singleton]
    omega
  · rcases List.mem_append.mp hx with z | z
    · have := freeL_mem z; omega
    · rw [List.mem_singleton.mp z]; exact hc
theorem ff_rkn (h : FfOk n rows) {c : Int} (hc : 0 ≤ c ∧ c < n) : RkOk n rows (freeL rows lot n ++ [c]) := by
  have h2 := h.d.n2
  refine ⟨h.d, h.m, ?_, fun x hx => ?_⟩
  · have := freeL_len rows lot n
    rw [List.length_append, List.length_singleton]
    omega
  · rcases List.mem_append.mp hx with z | z
    · have := freeL_mem z; omega
    · rw [List.mem_singleton.mp z]; exact hc
theorem ff_nat (i c : Nat) : (freeL rows lot i ++ [(c : Int)]).map Int.toNat = freeN rows lot i ++ [c] := by
  rw [List.map_append]
  unfold freeL
  rw [zl_nat]
  rfl
theorem ff_rank (i c : Nat) : (gre (Sp (rows.map vi)) [] ((freeL rows lot i ++ [(c : Int)]).map Int.toNat)).length = (freeL rows lot i).length + (if Piv (Sp (rows.map vi)) (lotN lot i) c then 1 else 0) := by
  rw [ff_nat]
  unfold freeN
  rw [gre_one, List.length_append]
  have : (freeL rows lot i).length = (gre (Sp (rows.map vi)) [] (lotN lot i)).length := by unfold freeL zl freeN; rw [List.length_map]
  rw [this]
  split <;> rfl
theorem ff_t (hc : (decide ((i : Int) ∈ lot) && decide (((gre (Sp (rows.map vi)) [] ((freeL rows lot i ++ [(i : Int)]).map Int.toNat)).length : Nat) = (((freeL rows lot i).length : Nat) : Int) + 1)) = true) : freeL rows lot (i + 1) = freeL rows lot i ++ [(i : Int)] := by
  rw [Bool.and_eq_true] at hc
  have h1 := hc.1
  have h2 := of_decide_eq_true hc.2
  rw [ff_rank] at h2
  have hp : Piv (Sp (rows.map vi)) (lotN lot i) i := Classical.byContradiction fun z => by rw [if_neg z] at h2; omega
  unfold freeL freeN
  rw [lotN_succ, if_pos h1, gre_snoc, List.nil_append, if_pos hp]
  unfold zl
  rw [List.map_append]
  rfl
theorem ff_f (hc : (decide ((i : Int) ∈ lot) && decide (((gre (Sp (rows.map vi)) [] ((freeL rows lot i ++ [(i : Int)]).map Int.toNat)).length : Nat) = (((freeL rows lot i).length : Nat) : Int) + 1)) = false) : freeL rows lot (i + 1) = freeL rows lot i := by
  by_cases h1 : decide ((i : Int) ∈ lot) = true
  · rw [h1, Bool.true_and] at hc
    have h2 := of_decide_eq_false hc
    rw [ff_rank] at h2
    have hp : ¬ Piv (Sp (rows.map vi)) (lotN lot i) i := fun z => h2 (by rw [if_pos z]; omega)
    unfold freeL freeN
    rw [lotN_succ, if_pos h1, gre_snoc, List.nil_append, if_neg hp, List.append_nil]
  · unfold freeL freeN
    rw [lotN_succ, if_neg h1, List.append_nil]
/-! the program's -/
theorem sset_lotN (hin : ∀ c ∈ lot, 0 ≤ c ∧ c < (n : Int)) : sset lot = zl (lotN lot n) := by
  refine asc_eq (sset_sorted lot) ?_ fun x => ?_
  · unfold zl lotN
    refine List.pairwise_map.mpr (List.Pairwise.sublist List.filter_sublist ?_)
    exact (List.pairwise_lt_range).imp fun h => by omega
  · rw [mem_sset]
    constructor
    · intro h
      have := hin x h
      exact List.mem_map.mpr ⟨x.toNat, lotN_mem.mpr ⟨by omega, by
        have e : ((x.toNat : Nat) : Int) = x := by omega
        rw [e]; exact h⟩, by omega⟩
    · intro h
      obtain ⟨c, hc, rfl⟩ := List.mem_map.mp h
      exact (lotN_mem.mp hc).2
theorem sset_in (hin : ∀ c ∈ lot, 0 ≤ c ∧ c < (n : Int)) : (sset lot).length ≤ n ∧ ∀ c ∈ sset lot, 0 ≤ c ∧ c < (n : Int) := by
  refine ⟨?_, fun c hc => hin c (mem_sset.mp hc)⟩
  rw [sset_lotN hin]
  unfold zl
  rw [List.length_map]
  exact lotN_len lot n
theorem pg_K (D : Dw n 288 rows) (hin : ∀ c ∈ lot, 0 ≤ c ∧ c < (n : Int)) : (clr (frm n rows) (sset lot)).K = freeL rows lot n := by
  obtain ⟨S, O, C⟩ := D.co (sset lot)
  have h := co_K C D.fo
  have h2 : (sset lot).map Int.toNat = lotN lot n := by rw [sset_lotN hin, zl_nat]
  rw [h2] at h
  have h3 := zl_of (l := (clr (frm n rows) (sset lot)).K) fun x hx => ((sset_in hin).2 x (C.ksub x hx)).1
  rw [← h3, h]
  rfl
theorem pg_zero (D : Dw n 288 rows) (hin : ∀ c ∈ lot, 0 ≤ c ∧ c < (n : Int)) (c : Nat) : zeroAt (clr (frm n rows) (sset lot)).R c = true ↔ ¬ Piv (Sp (rows.map vi)) (lotN lot n) c := by
  obtain ⟨S, O, C⟩ := D.co (sset lot)
  have h := co_zero C D.fo c
  rwa [show (sset lot).map Int.toNat = lotN lot n from by rw [sset_lotN hin, zl_nat]] at h
theorem in_iff (c : Nat) : decide (((gre (Sp (rows.map vi)) [] ((freeL rows lot n ++ [(c : Int)]).map Int.toNat)).length : Nat) = (((freeL rows lot n).length : Nat) : Int)) = true ↔ ¬ Piv (Sp (rows.map vi)) (lotN lot n) c := by
  rw [decide_eq_true_iff, ff_rank]
  by_cases h : Piv (Sp (rows.map vi)) (lotN lot n) c
  · rw [if_pos h]
    exact ⟨fun z => by omega, fun z => absurd h z⟩
  · rw [if_neg h]
    exact ⟨fun _ => h, fun _ => by omega⟩
theorem in_is (D : Dw n 288 rows) (hin : ∀ c ∈ lot, 0 ≤ c ∧ c < (n : Int)) (c : Nat) : decide (((gre (Sp (rows.map vi)) [] ((freeL rows lot n ++ [(c : Int)]).map Int.toNat)).length : Nat) = (((freeL rows lot n).length : Nat) : Int)) = zeroAt (clr (frm n rows) (sset lot)).R c := by
  rw [Bool.eq_iff_iff, in_iff, pg_zero D hin]
end
end DL

set_option Elab.async false
set_option linter.all false
set_option maxRecDepth 100000
set_option maxHeartbeats 4000000
/-! the factors of a settled cell -/
namespace DL
open PySem PySem.Spec PyProof.Rows L2
theorem gre_sublist (V : Vc → Prop) : ∀ (cs prev : List Nat), (gre V prev cs).Sublist cs
  | [], _ => List.Sublist.refl _
  | d :: cs, prev => by
    show (if Piv V prev d then d :: gre V (prev ++ [d]) cs else gre V (prev ++ [d]) cs).Sublist _
    split
    · exact (gre_sublist V cs _).cons₂ d
    · exact (gre_sublist V cs _).cons d
theorem freeL_asc (rows : List (List Int)) (lot : List Int) (n : Nat) : (freeL rows lot n).Pairwise (· < ·) := by
  unfold freeL zl freeN
  refine List.pairwise_map.mpr (List.Pairwise.sublist (gre_sublist _ _ _) ?_)
  unfold lotN
  exact List.Pairwise.sublist List.filter_sublist ((List.pairwise_lt_range).imp fun h => by omega)
theorem ruleL_fst : ∀ (K : List Int) (L : List (List Int)) (c : Nat), ((ruleL K L c).map (·.1)).Sublist K
  | [], L, c => by rw [ruleL_nil]; exact List.Sublist.refl _
  | k :: K, [], c => by rw [ruleL_nil2]; exact List.nil_sublist _
  | k :: K, l :: L, c => by
    rw [ruleL_cons]
    have ih := ruleL_fst K L c
    split
    · exact ih.cons k
    · exact ih.cons₂ k
structure RlOk (names : List Str) (rows : List (List Int)) (lot : List Int) : Prop where
  d : Dw names.length 288 rows
  m : rows.length < 6
  inn : ∀ c ∈ lot, 0 ≤ c ∧ c < (names.length : Int)
  l : lot.length < 63
abbrev bkR (names : List Str) (rows : List (List Int)) : Bk := ⟨names, frm names.length rows⟩
section
variable {names : List Str} {rows : List (List Int)} {lot : List Int} {c : Nat}
theorem bad_none (hin : ∀ c ∈ lot, 0 ≤ c ∧ c < (names.length : Int)) : badC names.length lot = none := by
  unfold badC
  exact List.find?_eq_none.mpr fun c hc => by have := hin c hc; simp [this]
theorem bad_no2 (h : RlOk names rows lot) : ¬ (badC (bkR names rows).size lot).isSome = true := by
  show ¬ (badC names.length lot).isSome = true
  rw [bad_none h.inn]
  exact Bool.false_ne_true
theorem rl_pc (h : RlOk names rows lot) : lot.length < 63 ∧ (¬ (badC (bkR names rows).size lot).isSome = true → ClrOk (bkR names rows).size (bkR names rows).frame (sset lot)) :=
  ⟨h.l, fun _ => h.d.clr (by have := (sset_in h.inn).1; have := h.d.n2; omega) (sset_in h.inn).2⟩
theorem rl_ro (h : RlOk names rows lot) : RuleOk (bkR names rows) lot := fun _ i hi => by
  obtain ⟨S, O, C⟩ := h.d.co (sset lot)
  exact co_lead C hi
abbrev ruR (names : List Str) (rows : List (List Int)) (lot : List Int) (c : Nat) : List (Int × Rat) := ruleL (clr (frm names.length rows) (sset lot)).K (clr (frm names.length rows) (sset lot)).L c
theorem rl_K6 (h : RlOk names rows lot) : (clr (frm names.length rows) (sset lot)).K.length < 6 := by
  obtain ⟨S, O, C⟩ := h.d.co (sset lot)
  have := C.cnt
  have := h.d.fcount
  have := h.m
  omega
theorem ru_len (h : RlOk names rows lot) : (ruR names rows lot c).length < 6 := by
  have h1 := (ruleL_fst (clr (frm names.length rows) (sset lot)).K (clr (frm names.length rows) (sset lot)).L c).length_le
  rw [List.length_map] at h1
  have := rl_K6 h
  unfold ruR
  omega
theorem ru_asc (h : RlOk names rows lot) : ((ruR names rows lot c).map (·.1)).Pairwise (· < ·) := by
  have h1 := ruleL_fst (clr (frm names.length rows) (sset lot)).K (clr (frm names.length rows) (sset lot)).L c
  have h2 := freeL_asc rows lot names.length
  rw [← pg_K h.d h.inn] at h2
  exact List.Pairwise.sublist h1 h2
theorem ru_mem (h : RlOk names rows lot) {p : Int × Rat} (hp : p ∈ ruR names rows lot c) : p.1 ∈ freeL rows lot names.length ∧ p.2 ≠ 0 := by
  obtain ⟨i, hi, hc, rfl⟩ := ruleL_mem hp
  obtain ⟨S, O, C⟩ := h.d.co (sset lot)
  refine ⟨?_, fun z => ?_⟩
  · rw [← pg_K h.d h.inn]
    exact getD_memI (by omega)
  · have h1 := co_lead C hi
    have h2 : (((((clr (frm names.length rows) (sset lot)).L.getD i []).getD c 0 : Int)) : Rat) ≠ 0 := fun y => hc (by exact_mod_cast y)
    have h3 : ((((clr (frm names.length rows) (sset lot)).L.getD i []).getD ((clr (frm names.length rows) (sset lot)).K.getD i 0).toNat 0 : Int) : Rat) ≠ 0 := fun y => h1 (by exact_mod_cast y)
    dsimp only at z
    generalize (((((clr (frm names.length rows) (sset lot)).L.getD i []).getD c 0 : Int)) : Rat) = a at z h2
    generalize ((((clr (frm names.length rows) (sset lot)).L.getD i []).getD ((clr (frm names.length rows) (sset lot)).K.getD i 0).toNat 0 : Int) : Rat) = b at z h3
    grind
theorem ru_num (h : RlOk names rows lot) : ∃ D B : Nat, D ≠ 0 ∧ D < 2 ^ 310 ∧ (∀ p ∈ ruR names rows lot c, Gd D B p.2) ∧ B < 2 ^ 310 ∧ 5 * (B * 288) < 2 ^ 330 := by
  obtain ⟨S, O, C⟩ := h.d.co (sset lot)
  have hk : (clr (frm names.length rows) (sset lot)).K.length < 6 := rl_K6 h
  obtain ⟨D, d0, d1, d2⟩ := rule_gd C h.d.fsm c
  have mono : ∀ {k m M : Nat}, k ≤ m → (2 * (k + 1) * M + 1) ^ k ≤ (2 * (m + 1) * M + 1) ^ m := fun {k m M} hkm =>
    Nat.le_trans (Nat.pow_le_pow_left (Nat.succ_le_succ (Nat.mul_le_mul_right _ (by omega))) _) (Nat.pow_le_pow_right (Nat.succ_pos _) hkm)
  have hkr : (clr (frm names.length rows) (sset lot)).K.length ≤ rows.length := by
    have := C.cnt
    have := h.d.fcount
    omega
  have nm := nums5 rows.length h.m
  have hB := mono (M := bnd rows.length 288) hkr
  refine ⟨D, _, d0, Nat.lt_of_le_of_lt d1 (Nat.lt_of_le_of_lt hB nm.2.2.1), d2, Nat.lt_of_le_of_lt hB nm.2.2.1, Nat.lt_of_le_of_lt (Nat.mul_le_mul_left _ (Nat.mul_le_mul_right _ hB)) nm.2.2.2⟩
theorem ru_sz (h : RlOk names rows lot) {p : Int × Rat} (hp : p ∈ ruR names rows lot c) : Sz 329 p.2 := by
  obtain ⟨D, B, h0, h1, h2, h3, h4⟩ := ru_num h (c := c)
  exact gd_sz (h2 p hp) h0 (Nat.lt_of_lt_of_le h1 (Nat.pow_le_pow_right (by decide) (by decide))) (Nat.lt_of_lt_of_le h3 (Nat.pow_le_pow_right (by decide) (by decide)))
theorem ru_sum (h : RlOk names rows lot) {r : List Int} (hr : ∀ j, (r.getD j 0).natAbs ≤ 288) (i : Nat) : Sz 329 (sumP ((ruR names rows lot c).take i) (vi r)) := by
  obtain ⟨D, B, h0, h1, h2, h3, h4⟩ := ru_num h (c := c)
  have hl : ((ruR names rows lot c).take i).length ≤ 5 := by
    have := ru_len h (c := c)
    rw [List.length_take]
    omega
  refine gd_sz (gd_mono (sumP_gd hr _ fun p hp => h2 p (List.mem_of_mem_take hp)) (Nat.mul_le_mul_right _ hl)) h0 (Nat.lt_of_lt_of_le h1 (Nat.pow_le_pow_right (by decide) (by decide))) h4
theorem ru_due (h : RlOk names rows lot) (hz : zeroAt (clr (frm names.length rows) (sset lot)).R c = true) {r : List Int} (hr : r ∈ rows) : sumP (ruR names rows lot c) (vi r) = ((r.getD c 0 : Int) : Rat) := by
  obtain ⟨S, O, C⟩ := h.d.co (sset lot)
  unfold ruR
  rw [sumP_is, ← co_sum C h.d.fo ((co_zero C h.d.fo c).mp hz) (sp_mem (List.mem_map.mpr ⟨r, hr, rfl⟩))]
  rfl
def lastP (l : List (Int × Rat)) (i : Nat) : Int := if i = 0 then -1 else (l.getD (i - 1) (0, 0)).1
theorem lastP_lt {l : List (Int × Rat)} {i : Nat} (ha : (l.map (·.1)).Pairwise (· < ·)) (h0 : ∀ p ∈ l, 0 ≤ p.1) (hi : i < l.length) : ¬ (l.getD i (0, 0)).1 ≤ lastP l i := by
  unfold lastP
  split
  · have := h0 _ (DL.getD_mem (d := ((0 : Int), (0 : Rat))) hi)
    omega
  · have h1 := List.pairwise_iff_getElem.mp ha (i - 1) i (by rw [List.length_map]; omega) (by rw [List.length_map]; omega) (by omega)
    rw [List.getElem_map, List.getElem_map] at h1
    rw [List.getD_eq_getElem?_getD, List.getD_eq_getElem?_getD, List.getElem?_eq_getElem hi, List.getElem?_eq_getElem (by omega)]
    show ¬ l[i].1 ≤ l[i - 1].1
    omega
theorem sumP_step {l : List (Int × Rat)} {i : Nat} (hi : i < l.length) (x : Vc) : sumP (l.take (i + 1)) x = sumP (l.take i) x + (l.getD i (0, 0)).2 * x (l.getD i (0, 0)).1.toNat := by
  unfold sumP
  rw [take_snoc (d := ((0 : Int), (0 : Rat))) hi, List.foldl_append]
  rfl
theorem ro_is (h : RlOk names rows lot) : (ruleO (bkR names rows) lot (c : Int)).isNone = !zeroAt (clr (frm names.length rows) (sset lot)).R c := by
  unfold ruleO
  cases hz : zeroAt (clr (frm names.length rows) (sset lot)).R c with
  | true =>
    rw [if_pos (show zeroAt (clr (bkR names rows).frame (sset lot)).R ((c : Int)).toNat = true from hz)]
    rfl
  | false =>
    rw [if_neg (show ¬ zeroAt (clr (bkR names rows).frame (sset lot)).R ((c : Int)).toNat = true from fun z => Bool.false_ne_true (hz.symm.trans z))]
    rfl
theorem ro_t {m : Nat} (h : RlOk names rows lot) (hm : m = (freeL rows lot names.length).length) (hc : ((ruleO (bkR names rows) lot (c : Int)).isNone || !decide (((gre (Sp (rows.map vi)) [] ((freeL rows lot names.length ++ [(c : Int)]).map Int.toNat)).length : Nat) = ((m : Nat) : Int))) = true) :
    ((ruleO (bkR names rows) lot (c : Int)).isNone && !decide (((gre (Sp (rows.map vi)) [] ((freeL rows lot names.length ++ [(c : Int)]).map Int.toNat)).length : Nat) = ((m : Nat) : Int))) = true := by
  subst hm
  rw [in_is h.d h.inn, ro_is h] at hc ⊢
  cases hz : zeroAt (clr (frm names.length rows) (sset lot)).R c with
  | true => rw [hz] at hc; cases hc
  | false => rfl
theorem ro_f {m : Nat} (h : RlOk names rows lot) (hm : m = (freeL rows lot names.length).length) (hc : ((ruleO (bkR names rows) lot (c : Int)).isNone || !decide (((gre (Sp (rows.map vi)) [] ((freeL rows lot names.length ++ [(c : Int)]).map Int.toNat)).length : Nat) = ((m : Nat) : Int))) = false) :
    (ruleO (bkR names rows) lot (c : Int)).isNone = false ∧ zeroAt (clr (frm names.length rows) (sset lot)).R c = true ∧ (ruleO (bkR names rows) lot (c : Int)).getD [] = ruR names rows lot c := by
  subst hm
  rw [in_is h.d h.inn, ro_is h] at hc
  cases hz : zeroAt (clr (frm names.length rows) (sset lot)).R c with
  | true =>
    refine ⟨by rw [ro_is h, hz]; rfl, rfl, ?_⟩
    have hz2 : zeroAt (clr (bkR names rows).frame (sset lot)).R ((c : Int)).toNat = true := hz
    rw [ruleO_s hz2]
    rfl
  | false => rw [hz] at hc; cases hc
variable {i j : Nat}
theorem rl_len2 (h : RlOk names rows lot) (hi : i < rows.length) : (rows.getD i []).length = names.length := h.d.len _ (getD_memL hi)
theorem rl_sm (h : RlOk names rows lot) (hi : i < rows.length) (j : Nat) : ((rows.getD i []).getD j 0).natAbs ≤ 288 := h.d.sm _ (getD_memL hi) j
theorem ru_at (h : RlOk names rows lot) (hj : j < (ruR names rows lot c).length) : 0 ≤ ((ruR names rows lot c).getD j (0, 0)).1 ∧ ((ruR names rows lot c).getD j (0, 0)).1 < (names.length : Int) ∧ ((ruR names rows lot c).getD j (0, 0)).1 ∈ freeL rows lot names.length ∧ ((ruR names rows lot c).getD j (0, 0)).2 ≠ 0 ∧ Sz 329 ((ruR names rows lot c).getD j (0, 0)).2 := by
  have hm := DL.getD_mem (d := ((0 : Int), (0 : Rat))) hj
  have h1 := ru_mem h hm
  have h2 := freeL_mem h1.1
  exact ⟨h2.1, h2.2.1, h1.1, h1.2, ru_sz h hm⟩
theorem ent_sz (h : RlOk names rows lot) (hi : i < rows.length) (k : Nat) : Sz 10 (((rows.getD i []).getD k 0 : Int) : Rat) := sz_int (Nat.le_of_lt (lg_b (rl_sm h hi k) (by decide) (by decide)))
theorem ru_tm (h : RlOk names rows lot) (hi : i < rows.length) (hj : j < (ruR names rows lot c).length) (k : Nat) : Lg ((ruR names rows lot c).getD j (0, 0)).2.num + Lg (((rows.getD i []).getD k 0 : Int) : Rat).num < 980 ∧ Lg (((ruR names rows lot c).getD j (0, 0)).2.den : Int) + Lg ((((rows.getD i []).getD k 0 : Int) : Rat).den : Int) < 980 := by
  have a := (ru_at h hj).2.2.2.2
  have b := ent_sz h hi k
  exact ⟨by have := a.1; have := b.1; omega, by have := a.2; have := b.2; omega⟩
theorem ru_pl (h : RlOk names rows lot) (hi : i < rows.length) (hj : j < (ruR names rows lot c).length) (k m : Nat) : Sz 400 (sumP ((ruR names rows lot c).take m) (vi (rows.getD i []))) ∧ Sz 400 (((ruR names rows lot c).getD j (0, 0)).2 * (((rows.getD i []).getD k 0 : Int) : Rat)) :=
  ⟨(ru_sum h (rl_sm h hi) m).mono (by decide), (sz_mul (ru_at h hj).2.2.2.2 (ent_sz h hi k)).mono (by decide)⟩
theorem ru_i4 (h : RlOk names rows lot) (hj : j < (ruR names rows lot c).length) (hc : (decide (((ruR names rows lot c).getD j (0, 0)).1 ≤ lastP (ruR names rows lot c) j) || (!decide (((ruR names rows lot c).getD j (0, 0)).1 ∈ freeL rows lot names.length) || decide (((ruR names rows lot c).getD j (0, 0)).2 = ((0 : Int) : Rat)))) = true) : False := by
  have a := ru_at h hj
  rw [decide_eq_false (lastP_lt (ru_asc h) (fun p hp => (freeL_mem (ru_mem h hp).1).1) hj), decide_eq_true a.2.2.1, decide_eq_false (show ¬ ((ruR names rows lot c).getD j (0, 0)).2 = ((0 : Int) : Rat) from a.2.2.2.1)] at hc
  cases hc
end
end DL

set_option Elab.async false
set_option linter.all false
set_option maxRecDepth 100000
set_option maxHeartbeats 4000000
/-! refusals of cells -/
namespace DL
open PySem PySem.Spec PyProof.Rows L2
structure NcOk (b : Bk) (cells : List Int) : Prop where
  l : cells.length < 63
  ok : ¬ (badC b.size cells).isSome = true → ClrOk b.size b.frame (sset cells)
  sz : b.size ≤ 1000
  ru : RuleOk b cells
theorem oc_bad {o : Option Int} {x : Int} {C : Addr} {ok : Out} (e : o = some x) : (if o.isSome = true then Out.errF C [("cell", .int (o.getD 0))] else ok) = .errF C [("cell", .int x)] := by subst e; rfl
theorem oc_ok {o : Option Int} {C : Addr} {ok : Out} (e : o = none) : (if o.isSome = true then Out.errF C [("cell", .int (o.getD 0))] else ok) = ok := by subst e; rfl
structure NcBad (b : Bk) (cells : List Int) (c d x : Int) : Prop where
  ok : NcOk b cells
  d0 : 0 ≤ d
  d3 : d ≤ 3
  bad : badC b.size cells = some x ∨ (d = 3 ∧ badC b.size cells = none ∧ ¬ (0 ≤ c ∧ c < (b.size : Int)) ∧ x = c)
section
variable {b : Bk} {cells : List Int} {c d x k : Int}
theorem NcBad.ne (h : NcBad b cells c d x) (hc : decide (d = k) = true) (hk : k ≠ 3) : badC b.size cells = some x := by
  have hc := of_decide_eq_true hc
  rcases h.bad with z | ⟨z, _⟩
  · exact z
  · exact absurd (hc.symm.trans z) hk
theorem NcBad.rule (h : NcBad b cells c d x) {C : Addr} {ok : Out} : (if (badC b.size cells).isSome = true then Out.errF C [("cell", .int ((badC b.size cells).getD 0))] else if ¬ (0 ≤ c ∧ c < (b.size : Int)) then .errF C [("cell", .int c)] else ok) = .errF C [("cell", .int x)] := by
  rcases h.bad with z | ⟨_, z, h2, h3⟩
  · exact oc_bad z
  · rw [oc_ok z, if_pos h2, h3]
end
end DL

set_option Elab.async false
set_option linter.all false
set_option maxRecDepth 100000
set_option maxHeartbeats 4000000
/-! lots that are spoilt -/
namespace DL
open PySem PySem.Spec PyProof.Rows L2
def badZ (ds : List Int) (n : Nat) : Int := ([-1, (n : Int), -(n : Int) - (ds.getD 1 0).fmod 900, (n : Int) + (ds.getD 2 0).fmod 900] : List Int).getD ((ds.getD 3 0).fmod 4).toNat 0
theorem badZ_out (ds : List Int) {n : Nat} (hn : 1 ≤ n) : ¬ (0 ≤ badZ ds n ∧ badZ ds n < (n : Int)) := by
  have h1 := Int.fmod_nonneg_of_pos (ds.getD 1 0) (show (0 : Int) < 900 by decide)
  have h2 := Int.fmod_nonneg_of_pos (ds.getD 2 0) (show (0 : Int) < 900 by decide)
  have h3 := Int.fmod_nonneg_of_pos (ds.getD 3 0) (show (0 : Int) < 4 by decide)
  have h4 := Int.fmod_lt_of_pos (ds.getD 3 0) (show (0 : Int) < 4 by decide)
  unfold badZ
  obtain ⟨k, hk⟩ : ∃ k : Nat, ((ds.getD 3 0).fmod 4).toNat = k := ⟨_, rfl⟩
  rw [hk]
  have hk4 : k < 4 := by omega
  match k, hk4 with
  | 0, _ => show ¬ ((0 : Int) ≤ -1 ∧ _); omega
  | 1, _ => show ¬ ((0 : Int) ≤ (n : Int) ∧ (n : Int) < (n : Int)); omega
  | 2, _ => show ¬ ((0 : Int) ≤ -(n : Int) - (ds.getD 1 0).fmod 900 ∧ _); omega
  | 3, _ => show ¬ ((0 : Int) ≤ (n : Int) + (ds.getD 2 0).fmod 900 ∧ (n : Int) + (ds.getD 2 0).fmod 900 < (n : Int)); omega
def spoilt (lot : List Int) (a : Int) (x : Int) (n : Nat) : List Int := ((lot.take a.toNat ++ [x]) ++ lot.drop a.toNat) ++ [(n : Int) + 1, -7]
theorem spoilt_len (lot : List Int) (a x : Int) (n : Nat) : (spoilt lot a x n).length = lot.length + 3 := by
  unfold spoilt
  simp only [List.length_append, List.length_take, List.length_drop, List.length_cons, List.length_nil]
  omega
theorem spoilt_bad {lot : List Int} {a x : Int} {n : Nat} (hin : ∀ c ∈ lot, 0 ≤ c ∧ c < (n : Int)) (hx : ¬ (0 ≤ x ∧ x < (n : Int))) : badC n (spoilt lot a x n) = some x := by
  unfold badC spoilt
  have h1 : (lot.take a.toNat).find? (fun c => !(decide (0 ≤ c) && decide (c < (n : Int)))) = none := List.find?_eq_none.mpr fun c hc => by
    have := hin c (List.mem_of_mem_take hc)
    simp [this]
  rw [List.find?_append, List.find?_append, List.find?_append, h1, List.find?_cons_of_pos (by
    by_cases p : 0 ≤ x <;> by_cases q : x < (n : Int) <;> simp [p, q] <;> omega)]
  rfl
section
variable {names : List Str} {rows : List (List Int)} {lot : List Int} {x : Int} {a : Int}
theorem nc_sp (h : RlOk names rows lot) (hl : lot.length ≤ 9) (hx : ¬ (0 ≤ x ∧ x < (names.length : Int))) : NcOk (bkR names rows) (spoilt lot a x names.length) ∧ badC (bkR names rows).size (spoilt lot a x names.length) = some x := by
  have e : badC (bkR names rows).size (spoilt lot a x names.length) = some x := spoilt_bad h.inn hx
  refine ⟨⟨by rw [spoilt_len]; omega, fun z => absurd (by rw [e]; rfl) z, ?_, fun z => absurd (by rw [e]; rfl) z⟩, e⟩
  show names.length ≤ 1000
  have := h.d.n2
  omega
theorem nc_lot (h : RlOk names rows lot) : NcOk (bkR names rows) lot ∧ badC (bkR names rows).size lot = none :=
  ⟨⟨h.l, (rl_pc h).2, by show names.length ≤ 1000; have := h.d.n2; omega, rl_ro h⟩, bad_none h.inn⟩
end
end DL

set_option Elab.async false
set_option linter.all false
set_option maxRecDepth 100000
set_option maxHeartbeats 4000000
/-! the book of all tables, the book of zeros -/
namespace DL
open PySem PySem.Spec PyProof.Rows L2
theorem unitR_len (n c : Nat) : (unitR n c).length = n := by unfold unitR; simp
theorem unitR_at {n c : Nat} (h : c < n) (j : Nat) : (unitR n c).getD j 0 = if j = c then 1 else 0 := by
  unfold unitR
  rw [List.getD_eq_getElem?_getD, List.getElem?_set]
  by_cases e : c = j
  · subst e
    rw [if_pos rfl, if_pos rfl, if_pos (by simpa using h)]
    rfl
  · rw [if_neg e, if_neg (fun z => e z.symm), List.getElem?_replicate]
    split <;> rfl
theorem unit_fnz {n c : Nat} (h : c < n) : fnz (unitR n c) = some 1 := by
  have := fnz_at (ns := unitR n c) (i := c) (by rw [unitR_len]; exact h) (fun j hj => by rw [unitR_at h, if_neg (by omega)]) (by rw [unitR_at h, if_pos rfl]; decide)
  rwa [unitR_at h, if_pos rfl] at this
theorem unit_gl {n c : Nat} (h : c < n) : gl (unitR n c) = 1 := by
  have hm : (1 : Int) ∈ unitR n c := by
    have := getD_memI (l := unitR n c) (i := c) (by rw [unitR_len]; exact h)
    rwa [unitR_at h, if_pos rfl] at this
  have := (gl_dvd (d := gl (unitR n c)) (ns := unitR n c)).mp (Nat.dvd_refl _) 1 hm
  have h2 : gl (unitR n c) ∣ 1 := Int.natCast_dvd_natCast.mp this
  exact Nat.dvd_one.mp h2
theorem unit_low {n c : Nat} (h : c < n) : lowest (unitR n c) = unitR n c := by
  unfold lowest
  rw [unit_fnz h]
  dsimp only
  rw [unit_gl h]
  refine (List.map_congr_left fun x _ => ?_).trans (List.map_id _)
  show x.fdiv (sdv 1 1) = x
  have : sdv 1 1 = 1 := by unfold sdv; decide
  rw [this, Int.fdiv_one]
theorem leadAt_unit {n c : Nat} {A B : List Nat} (hA : c ∉ A) (hc : c < n) (hn : ∀ a ∈ A, a < n) : leadAt ((A ++ c :: B).map (unitR n)) c = some A.length := by
  have len : ((A ++ c :: B).map (unitR n)).length = A.length + (B.length + 1) := by rw [List.length_map, List.length_append, List.length_cons]
  refine leadAt_at (by omega) (fun j hj => ?_) ?_
  · have e : ((A ++ c :: B).map (unitR n)).getD j [] = unitR n A[j] := by
      rw [List.getD_eq_getElem?_getD, List.getElem?_map, List.getElem?_append_left hj, List.getElem?_eq_getElem hj]
      rfl
    rw [e, unitR_at (hn _ (List.getElem_mem hj)), if_neg (fun z : c = A[j] => hA (by rw [z]; exact List.getElem_mem hj))]
  · have e : ((A ++ c :: B).map (unitR n)).getD A.length [] = unitR n c := by
      rw [List.getD_eq_getElem?_getD, List.getElem?_map, List.getElem?_append_right (Nat.le_refl _), Nat.sub_self]
      rfl
    rw [e, unitR_at hc, if_pos rfl]
    decide
theorem wout_unit {n c : Nat} {L : List Nat} {lead : List Int} (hc : c ∉ L) (hn : ∀ a ∈ L, a < n) : wout (L.map (unitR n)) lead c = L.map (unitR n) := by
  unfold wout
  rw [List.map_map]
  refine List.map_congr_left fun a ha => ?_
  show (if (unitR n a).getD c 0 = 0 then unitR n a else _) = unitR n a
  rw [if_pos (by rw [unitR_at (hn a ha), if_neg (fun z : c = a => hc (by rw [z]; exact ha))])]
theorem zl_snoc (D : List Nat) (c : Nat) : zl (D ++ [c]) = zl D ++ [(c : Int)] := by unfold zl; rw [List.map_append]; rfl
theorem clr_unit {n : Nat} {S : List Nat} (hS : S.Nodup) (hn : ∀ a ∈ S, a < n) (D : List Nat) (hD : D.Nodup) (hsub : ∀ d ∈ D, d ∈ S) : clr (S.map (unitR n)) (zl D) = ⟨zl D, D.map (unitR n), (S.filter fun a => decide (a ∉ D)).map (unitR n)⟩ := by
  induction D using snoc_ind with
  | nil =>
    have : (S.filter fun a => decide (a ∉ ([] : List Nat))) = S := List.filter_eq_self.mpr fun a _ => by simp
    rw [this]
    rfl
  | snoc D c ih =>
    have hD2 := List.nodup_append.mp hD
    have cD : c ∉ D := fun z => hD2.2.2 c z c (List.mem_singleton.mpr rfl) rfl
    have cS := hsub c (List.mem_append_right _ (List.mem_singleton.mpr rfl))
    rw [zl_snoc, clr_snoc, ih hD2.1 fun d hd => hsub d (List.mem_append_left _ hd)]
    have cT : c ∈ S.filter fun a => decide (a ∉ D) := List.mem_filter.mpr ⟨cS, decide_eq_true cD⟩
    have nT : (S.filter fun a => decide (a ∉ D)).Nodup := hS.sublist List.filter_sublist
    have lT : ∀ a ∈ S.filter (fun a => decide (a ∉ D)), a < n := fun a ha => hn a (List.mem_filter.mp ha).1
    have fT : (S.filter fun a => decide (a ∉ D ++ [c])) = (S.filter fun a => decide (a ∉ D)).filter fun a => decide (a ≠ c) := by
      rw [List.filter_filter]
      refine List.filter_congr fun a _ => ?_
      simp
      by_cases h1 : a ∈ D <;> by_cases h2 : a = c <;> simp [h1, h2]
    rw [fT]
    obtain ⟨A, B, e⟩ := List.append_of_mem cT
    rw [e] at nT lT ⊢
    have n1 := List.nodup_append.mp nT
    have cA : c ∉ A := fun z => n1.2.2 c z c (List.mem_cons_self ..) rfl
    have cB : c ∉ B := (List.nodup_cons.mp n1.2.1).1
    have fAB : (A ++ c :: B).filter (fun a => decide (a ≠ c)) = A ++ B := by
      rw [List.filter_append, List.filter_cons_of_neg (by simp)]
      rw [List.filter_eq_self.mpr fun a ha => by simp; exact fun z => cA (z ▸ ha), List.filter_eq_self.mpr fun a ha => by simp; exact fun z => cB (z ▸ ha)]
    rw [fAB]
    unfold clStep
    dsimp only
    have hl := leadAt_unit (n := n) (B := B) cA (hn c cS) fun a ha => lT a (List.mem_append_left _ ha)
    rw [show ((c : Int)).toNat = c from rfl, hl]
    dsimp only
    have t1 : ((A ++ c :: B).map (unitR n)).take A.length ++ ((A ++ c :: B).map (unitR n)).drop (A.length + 1) = (A ++ B).map (unitR n) := by
      rw [← List.map_take, ← List.map_drop, ← List.map_append]
      congr 1
      rw [List.take_append_of_le_length (Nat.le_refl _), List.take_length, List.drop_append]
      rw [List.drop_of_length_le (by omega), show A.length + 1 - A.length = 1 by omega]
      rfl
    have t2 : ((A ++ c :: B).map (unitR n)).getD A.length [] = unitR n c := by
      rw [List.getD_eq_getElem?_getD, List.getElem?_map, List.getElem?_append_right (Nat.le_refl _), Nat.sub_self]
      rfl
    rw [t1, t2, wout_unit cD fun a ha => hn a (hsub a (List.mem_append_left _ ha)), wout_unit (L := A ++ B) (fun z => (List.mem_append.mp z).elim cA cB) fun a ha => lT a ((List.mem_append.mp ha).elim (List.mem_append_left _) fun z => List.mem_append_right _ (List.mem_cons_of_mem _ z)), List.map_append, List.map_append]
    rfl
theorem freeZ_prim (n : Nat) : ((freeZ n).map toQ).map prim = freeZ n := by
  rw [List.map_map]
  refine (List.map_congr_left fun r hr => ?_).trans (List.map_id _)
  obtain ⟨c, hc, rfl⟩ := List.mem_map.mp hr
  show prim (toQ (unitR n c)) = unitR n c
  rw [prim_toQ, unit_low (List.mem_range.mp hc)]
theorem clr_free {n : Nat} (D : List Nat) (hD : D.Nodup) (hsub : ∀ d ∈ D, d < n) : clr (freeZ n) (zl D) = ⟨zl D, D.map (unitR n), ((List.range n).filter fun a => decide (a ∉ D)).map (unitR n)⟩ :=
  clr_unit List.nodup_range (fun a ha => List.mem_range.mp ha) D hD fun d hd => List.mem_range.mpr (hsub d hd)
theorem frame_free (n : Nat) : frameQ ((freeZ n).map toQ) n = freeZ n := by
  unfold frameQ frameZ
  rw [freeZ_prim]
  have := clr_free (List.range n) List.nodup_range fun d hd => List.mem_range.mp hd
  rw [show upto n = zl (List.range n) from rfl, this]
  rfl
theorem unit_row {n c : Nat} : RowOk n (unitR n c) := ⟨unitR_len n c, fun x hx => by
  unfold unitR at hx
  rcases List.mem_or_eq_of_mem_set hx with h | h
  · rw [(List.mem_replicate.mp h).2]; decide
  · rw [h]; decide⟩
theorem zl_take (D : List Nat) (i : Nat) : (zl D).take i = zl (D.take i) := by unfold zl; rw [List.map_take]
theorem free_clrok {n : Nat} (hn : n ≤ 16) {D : List Nat} (hD : D.Nodup) (hsub : ∀ d ∈ D, d < n) : ClrOk n (freeZ n) (zl D) := by
  have lD : D.length ≤ n := by
    have := nodup_sub hD (m := List.range n) fun x hx => List.mem_range.mpr (hsub x hx)
    rwa [List.length_range] at this
  have st : ∀ i, clr (freeZ n) ((zl D).take i) = ⟨zl (D.take i), (D.take i).map (unitR n), ((List.range n).filter fun a => decide (a ∉ D.take i)).map (unitR n)⟩ := fun i => by
    rw [zl_take]
    exact clr_free _ (hD.sublist (List.take_sublist _ _)) fun d hd => hsub d (List.mem_of_mem_take hd)
  refine ⟨by omega, by unfold freeZ; rw [List.length_map, List.length_range]; omega, by unfold zl; rw [List.length_map]; omega, fun c hc => ?_, fun i _ r hr => ?_, fun i _ => ?_⟩
  · obtain ⟨d, hd, rfl⟩ := List.mem_map.mp hc
    have := hsub d hd
    omega
  · rw [st i] at hr
    rcases List.mem_append.mp hr with h | h
    · obtain ⟨a, _, rfl⟩ := List.mem_map.mp h; exact unit_row
    · obtain ⟨a, _, rfl⟩ := List.mem_map.mp h; exact unit_row
  · rw [st i]
    have h1 : (D.take i).length ≤ n := by rw [List.length_take]; omega
    have h2 : ((List.range n).filter fun a => decide (a ∉ D.take i)).length ≤ n := Nat.le_trans (List.length_filter_le _ _) (by rw [List.length_range]; exact Nat.le_refl _)
    unfold zl
    simp only [List.length_map]
    omega
end DL

set_option Elab.async false
set_option linter.all false
set_option maxRecDepth 100000
set_option maxHeartbeats 4000000
namespace DL
open PySem PySem.Spec PyProof.Rows L2
structure BsOk (names : List Str) (lot : List Int) : Prop where
  n1 : 1 ≤ names.length
  n2 : names.length ≤ 16
  nm : namesOk names = true
  nl : ∀ x ∈ names, x.length ≤ 100000
  inn : ∀ c ∈ lot, 0 ≤ c ∧ c < (names.length : Int)
  l : lot.length < 63
section
variable {names : List Str} {lot : List Int} {c n : Nat}
theorem lotN_nodup (lot : List Int) (n : Nat) : (lotN lot n).Nodup := List.Nodup.sublist List.filter_sublist List.nodup_range
theorem lotN_lt {d : Nat} (h : d ∈ lotN lot n) : d < n := (lotN_mem.mp h).1
/-! all tables -/
theorem fr_frok (h1 : 1 ≤ n) (h2 : n ≤ 16) : FrOk n ((freeZ n).map toQ) where
  n1 := by omega
  n2 := by rw [List.length_map]; unfold freeZ; rw [List.length_map, List.length_range]; omega
  pr := fun r hr => by
    obtain ⟨q, hq, rfl⟩ := List.mem_map.mp hr
    obtain ⟨c, hc, rfl⟩ := List.mem_map.mp hq
    refine ⟨10, fun x hx => ?_, by rw [toQ_len, unitR_len]; omega, by rw [toQ_len, unitR_len]; omega⟩
    obtain ⟨a, b⟩ := toQ_den hx
    obtain ⟨j, e⟩ := mem_getD0 b
    rw [unitR_at (List.mem_range.mp hc)] at e
    refine ⟨?_, by rw [a]; decide⟩
    rw [e]
    split <;> decide
  cl := by
    rw [freeZ_prim]
    exact free_clrok h2 List.nodup_range fun d hd => List.mem_range.mp hd
abbrev bkF (names : List Str) : Bk := ⟨names, frameQ ((freeZ names.length).map toQ) names.length⟩
theorem bf_ok (h : BsOk names lot) : BookOk names ((freeZ names.length).map toQ) ∧ FreeOk names := ⟨⟨by have := h.n2; omega, h.nl, fun _ _ => fr_frok h.n1 h.n2⟩, ⟨h.n1, h.n2⟩, h.nm⟩
theorem fr_clr (h : BsOk names lot) : clr (bkF names).frame (sset lot) = ⟨zl (lotN lot names.length), (lotN lot names.length).map (unitR names.length), ((List.range names.length).filter fun a => decide (a ∉ lotN lot names.length)).map (unitR names.length)⟩ := by
  show clr (frameQ ((freeZ names.length).map toQ) names.length) (sset lot) = _
  rw [frame_free, sset_lotN h.inn]
  exact clr_free _ (lotN_nodup _ _) fun d hd => lotN_lt hd
theorem fr_nc (h : BsOk names lot) : NcOk (bkF names) lot ∧ badC (bkF names).size lot = none := by
  refine ⟨⟨h.l, fun _ => ?_, by show names.length ≤ 1000; have := h.n2; omega, fun _ i hi => ?_⟩, bad_none h.inn⟩
  · show ClrOk names.length (frameQ ((freeZ names.length).map toQ) names.length) (sset lot)
    rw [frame_free, sset_lotN h.inn]
    exact free_clrok h.n2 (lotN_nodup _ _) fun d hd => lotN_lt hd
  · rw [fr_clr h] at hi ⊢
    dsimp only at hi ⊢
    have hi : i < (lotN lot names.length).length := by
      have : (zl (lotN lot names.length)).length = (lotN lot names.length).length := List.length_map _
      omega
    have e1 : ((lotN lot names.length).map (unitR names.length)).getD i [] = unitR names.length (lotN lot names.length)[i] := by
      rw [List.getD_eq_getElem?_getD, List.getElem?_map, List.getElem?_eq_getElem hi]; rfl
    have e2 : ((zl (lotN lot names.length)).getD i 0).toNat = (lotN lot names.length)[i] := by
      unfold zl
      rw [List.getD_eq_getElem?_getD, List.getElem?_map, List.getElem?_eq_getElem hi]; rfl
    rw [e1, e2, unitR_at (lotN_lt (List.getElem_mem hi)), if_pos rfl]
    decide
theorem fr_K (h : BsOk names lot) : (clr (bkF names).frame (sset lot)).K = zl (lotN lot names.length) := by rw [fr_clr h]
theorem fr_zero (h : BsOk names lot) (hc : c < names.length) : zeroAt (clr (bkF names).frame (sset lot)).R c = decide ((c : Int) ∈ lot) := by
  rw [fr_clr h, Bool.eq_iff_iff, zeroAt_iff, decide_eq_true_iff]
  constructor
  · intro z
    refine Classical.byContradiction fun no => ?_
    have := z (unitR names.length c) (List.mem_map.mpr ⟨c, List.mem_filter.mpr ⟨List.mem_range.mpr hc, decide_eq_true fun y => no (lotN_mem.mp y).2⟩, rfl⟩)
    rw [unitR_at hc, if_pos rfl] at this
    cases this
  · intro hl r hr
    obtain ⟨a, ha, rfl⟩ := List.mem_map.mp hr
    obtain ⟨a1, a2⟩ := List.mem_filter.mp ha
    have a2 := of_decide_eq_true a2
    rw [unitR_at (List.mem_range.mp a1), if_neg fun z : c = a => a2 (z ▸ lotN_mem.mpr ⟨hc, hl⟩)]
theorem fr_settled (h : BsOk names lot) : settledL (bkF names).size (clr (bkF names).frame (sset lot)).R = zl (lotN lot names.length) := by
  show (upto names.length).filter _ = _
  unfold upto zl lotN
  rw [List.filter_map]
  congr 1
  refine List.filter_congr fun a ha => ?_
  show zeroAt (clr (bkF names).frame (sset lot)).R ((a : Int)).toNat = _
  exact fr_zero h (List.mem_range.mp ha)
theorem rule_unit : ∀ {D : List Nat}, D.Nodup → (∀ d ∈ D, d < n) → ruleL (zl D) (D.map (unitR n)) c = if c ∈ D then [((c : Int), (1 : Rat))] else []
  | [], _, _ => by rw [if_neg (List.not_mem_nil)]; exact ruleL_nil _ _
  | d :: D, hD, hn => by
    have hd := List.nodup_cons.mp hD
    have ih := rule_unit (D := D) hd.2 fun x hx => hn x (List.mem_cons_of_mem _ hx)
    have dn := hn d (List.mem_cons_self ..)
    show ruleL ((d : Int) :: zl D) (unitR n d :: D.map (unitR n)) c = _
    rw [ruleL_cons, ih, unitR_at dn]
    by_cases e : c = d
    · subst e
      rw [if_pos rfl, if_neg (by decide), if_neg hd.1, if_pos (List.mem_cons_self ..), show (unitR n c).getD ((c : Int)).toNat 0 = 1 from by rw [show ((c : Int)).toNat = c from rfl, unitR_at dn, if_pos rfl]]
      have : ((1 : Int) : Rat) / ((1 : Int) : Rat) = 1 := by decide +kernel
      rw [this]
      rfl
    · rw [if_neg e, if_pos rfl, List.nil_append]
      by_cases k : c ∈ D
      · rw [if_pos k, if_pos (List.mem_cons_of_mem _ k)]
      · rw [if_neg k, if_neg (fun z => (List.mem_cons.mp z).elim e k)]
def rlF (lot : List Int) (c : Nat) : Option (List (Int × Rat)) := if decide ((c : Int) ∈ lot) = true then some [((c : Int), (1 : Rat))] else none
theorem fr_rule (h : BsOk names lot) (hc : c < names.length) : ruleO (bkF names) lot (c : Int) = rlF lot c := by
  unfold ruleO rlF
  rw [show ((c : Int)).toNat = c from rfl, fr_zero h hc]
  by_cases k : decide ((c : Int) ∈ lot) = true
  · rw [if_pos k, if_pos k, fr_clr h]
    dsimp only
    rw [rule_unit (lotN_nodup _ _) fun d hd => lotN_lt hd, if_pos (lotN_mem.mpr ⟨hc, of_decide_eq_true k⟩)]
  · rw [if_neg k, if_neg k]
theorem plain_lc : List.map (fun i : Nat => rInt ((i : Nat) : Int)) (List.filter (fun i : Nat => decide ((i : Int) ∈ lot)) (List.range ((n : Int)).toNat)) = List.map rInt (zl (lotN lot n)) := by
  unfold zl lotN
  rw [List.map_map]
  rfl
theorem upto_lc2 : List.map (fun i : Nat => rInt ((i : Nat) : Int)) (List.filter (fun _ => true) (List.range ((n : Int)).toNat)) = List.map rInt (upto n) := by
  rw [List.filter_eq_self.mpr (fun _ _ => rfl)]
  unfold upto
  rw [List.map_map]
  rfl
theorem zl_len (h : n ≤ 16) : (zl (lotN lot n)).length ≤ 1000 := by
  unfold zl
  rw [List.length_map]
  have := lotN_len lot n
  omega
/-! zeros alone -/
theorem clr_nil (cells : List Int) : clr [] cells = ⟨[], [], []⟩ := by
  induction cells using snoc_ind with
  | nil => rfl
  | snoc cells c ih => rw [clr_snoc, ih]; rfl
abbrev bkZ (names : List Str) : Bk := ⟨names, frameQ [] names.length⟩
theorem bkZ_fr (names : List Str) : (bkZ names).frame = [] := by
  show frameZ [] names.length = []
  unfold frameZ
  rw [clr_nil]
theorem nil_clrok {cells : List Int} (h : n ≤ 1000) (hl : cells.length ≤ 1000) (hin : ∀ c ∈ cells, 0 ≤ c ∧ c < (n : Int)) : ClrOk n [] cells :=
  ⟨h, Nat.zero_le _, hl, hin, fun i _ r hr => by rw [clr_nil] at hr; exact (List.not_mem_nil hr).elim, fun i _ => by rw [clr_nil]; exact ⟨Nat.zero_le _, Nat.zero_le _, Nat.zero_le _⟩⟩
theorem bz_ok (h : BsOk names lot) : BookOk names [] := ⟨by have := h.n2; omega, h.nl, fun _ _ => ⟨by have := h.n2; omega, Nat.zero_le _, fun r hr => (List.not_mem_nil hr).elim, nil_clrok (by have := h.n2; omega) (by rw [upto_len]; have := h.n2; omega) fun c hc => upto_mem.mp hc⟩⟩
theorem bz_nc (h : BsOk names lot) {lot2 : List Int} (hin : ∀ c ∈ lot2, 0 ≤ c ∧ c < (names.length : Int)) (hl : lot2.length < 63) : NcOk (bkZ names) lot2 ∧ badC (bkZ names).size lot2 = none := by
  refine ⟨⟨hl, fun _ => ?_, by show names.length ≤ 1000; have := h.n2; omega, fun _ i hi => ?_⟩, bad_none hin⟩
  · rw [bkZ_fr]
    have := (sset_in hin).1
    exact nil_clrok (by show names.length ≤ 1000; have := h.n2; omega) (by have := h.n2; omega) (sset_in hin).2
  · rw [bkZ_fr, clr_nil] at hi
    exact absurd hi (Nat.not_lt_zero _)
theorem bz_K (names : List Str) (cells : List Int) : (clr (bkZ names).frame cells).K = [] := by rw [bkZ_fr, clr_nil]
theorem bz_settled (names : List Str) (cells : List Int) : settledL (bkZ names).size (clr (bkZ names).frame cells).R = upto names.length := by
  rw [bkZ_fr, clr_nil]
  exact List.filter_eq_self.mpr fun _ _ => rfl
theorem bz_rule (names : List Str) (cells : List Int) (c : Int) : ruleO (bkZ names) cells c = some [] := by
  unfold ruleO
  rw [bkZ_fr, clr_nil]
  rfl
end
end DL

set_option Elab.async false
set_option linter.all false
set_option maxRecDepth 100000
set_option maxHeartbeats 4000000
/-! the law of settled cells as a whole -/
namespace DL
open PySem PySem.Spec PyProof.Rows L2
section
variable {names : List Str} {rows : List (List Int)} {lot : List Int} {c : Nat}
abbrev insL (names : List Str) (rows : List (List Int)) (lot : List Int) : List Int := settledL names.length (clr (frm names.length rows) (sset lot)).R
theorem ins_lc (h : RlOk names rows lot) : List.map (fun i : Nat => rInt ((i : Nat) : Int)) (List.filter (fun i : Nat => decide (((gre (Sp (rows.map vi)) [] ((freeL rows lot names.length ++ [(i : Int)]).map Int.toNat)).length : Nat) = (((freeL rows lot names.length).length : Nat) : Int))) (List.range ((names.length : Int)).toNat)) = List.map rInt (insL names rows lot) := by
  unfold insL
  rw [← settled_lc]
  congr 1
  refine List.filter_congr fun a _ => ?_
  exact in_is h.d h.inn a
theorem ins_len (h : RlOk names rows lot) : (insL names rows lot).length ≤ 1000 := by
  refine Nat.le_trans (List.length_filter_le _ _) ?_
  rw [upto_len]
  have := h.d.n2
  omega
theorem fl_len (h : RlOk names rows lot) : (freeL rows lot names.length).length ≤ 1000 := by
  have := freeL_len rows lot names.length
  have := h.d.n2
  omega
end
/-! what is drawn -/
def nameK (k : Nat) : Str := ("c" : Str) ++ ((toString ((k : Nat) : Int) : String) : Str)
theorem nameK_len : ∀ k : Nat, k < 17 → ("c" : Str).length + ((toString ((k : Nat) : Int) : String) : Str).length ≤ 10 := by decide +kernel
def namesL (n : Nat) : List Str := (List.range n).map nameK
theorem namesL_ok : ∀ n : Nat, n < 17 → namesOk (namesL n) = true ∧ (namesL n).all (fun x => decide (x.length ≤ 100000)) = true := by decide +kernel
abbrev wM (ns : List Int) : List Int := lawN ns 1 30
abbrev wD (ns : List Int) : List Int := lawN ns 0 60
def wSi (ns : List Int) : Int := if decide (((wM ns).getD 0 0).fmod 10 = 3) = true then 7 + (((wM ns).getD 0 0).fdiv 10).fmod 10 else 1 + (((wM ns).getD 0 0).fdiv 10).fmod 6
theorem wSi_b (ns : List Int) : 1 ≤ wSi ns ∧ wSi ns ≤ 16 := by
  unfold wSi
  have h1 := Int.fmod_nonneg_of_pos (((wM ns).getD 0 0).fdiv 10) (show (0 : Int) < 10 by decide)
  have h2 := Int.fmod_lt_of_pos (((wM ns).getD 0 0).fdiv 10) (show (0 : Int) < 10 by decide)
  have h3 := Int.fmod_nonneg_of_pos (((wM ns).getD 0 0).fdiv 10) (show (0 : Int) < 6 by decide)
  have h4 := Int.fmod_lt_of_pos (((wM ns).getD 0 0).fdiv 10) (show (0 : Int) < 6 by decide)
  split <;> omega
def nmL (ns : List Int) : List Str := namesL (wSi ns).toNat
theorem nmL_len (ns : List Int) : (((nmL ns).length : Nat) : Int) = wSi ns := by
  have := wSi_b ns
  unfold nmL namesL
  rw [List.length_map, List.length_range]
  omega
theorem nmL_b (ns : List Int) : 1 ≤ (nmL ns).length ∧ (nmL ns).length ≤ 16 := by
  have := wSi_b ns
  have := nmL_len ns
  omega
theorem nmL_t {ns : List Int} (h : decide (((wM ns).getD 0 0).fmod 10 = 3) = true) : 7 + (((wM ns).getD 0 0).fdiv 10).fmod 10 = (((nmL ns).length : Nat) : Int) := by
  rw [nmL_len, wSi, if_pos h]
theorem nmL_f {ns : List Int} (h : decide (((wM ns).getD 0 0).fmod 10 = 3) = false) : 1 + (((wM ns).getD 0 0).fdiv 10).fmod 6 = (((nmL ns).length : Nat) : Int) := by
  rw [nmL_len, wSi, if_neg (fun z => Bool.false_ne_true (h.symm.trans z))]
theorem nmL_lc (ns : List Int) : List.map (fun k : Nat => rStr (("c" : Str) ++ ((toString ((k : Nat) : Int) : String) : Str))) (List.filter (fun _ => true) (List.range ((((nmL ns).length : Nat) : Int)).toNat)) = List.map rStr (nmL ns) := by
  rw [List.filter_eq_self.mpr (fun _ _ => rfl), nmL_len]
  unfold nmL namesL
  rw [List.map_map]
  rfl
def wNi (ns : List Int) : Int := ((wM ns).getD 1 0).fmod (1 + min (min (((nmL ns).length : Nat) : Int) ((58 : Int).fdiv (((nmL ns).length : Nat) : Int))) 5)
def wN (ns : List Int) : Nat := (wNi ns).toNat
theorem fd58 {n : Nat} (h : 1 ≤ n) : 0 ≤ (58 : Int).fdiv (n : Int) ∧ (58 : Int).fdiv (n : Int) * n ≤ 58 := by
  have h1 : (0 : Int) < (n : Int) := by omega
  have e : (58 : Int).fdiv (n : Int) = ((58 / n : Nat) : Int) := by
    rw [Int.fdiv_eq_ediv_of_nonneg _ (by omega)]
    rfl
  rw [e]
  refine ⟨Int.natCast_nonneg _, ?_⟩
  have := Nat.div_mul_le_self 58 n
  exact_mod_cast this
theorem wN_b (ns : List Int) : ((wN ns : Nat) : Int) = wNi ns ∧ wN ns < 6 ∧ wN ns * (nmL ns).length ≤ 58 := by
  have hb := nmL_b ns
  have hf := fd58 hb.1
  have h0 : (0 : Int) < 1 + min (min (((nmL ns).length : Nat) : Int) ((58 : Int).fdiv (((nmL ns).length : Nat) : Int))) 5 := by omega
  have h1 := Int.fmod_nonneg_of_pos ((wM ns).getD 1 0) h0
  have h2 := Int.fmod_lt_of_pos ((wM ns).getD 1 0) h0
  have e : ((wN ns : Nat) : Int) = wNi ns := by unfold wN wNi; omega
  have h3 : wNi ns ≤ (58 : Int).fdiv (((nmL ns).length : Nat) : Int) ∧ wNi ns < 6 := by unfold wNi; omega
  refine ⟨e, by omega, ?_⟩
  have h4 : ((wN ns : Nat) : Int) * (((nmL ns).length : Nat) : Int) ≤ (58 : Int).fdiv (((nmL ns).length : Nat) : Int) * (((nmL ns).length : Nat) : Int) := Int.mul_le_mul_of_nonneg_right (by omega) (by omega)
  have h5 := Int.le_trans h4 hf.2
  exact_mod_cast h5
abbrev rws (ns : List Int) : List (List Int) := rowsZ (wD ns) (nmL ns).length (wN ns)
def wLn (ns : List Int) : Nat := (((wM ns).getD 2 0).fmod 10).toNat
def wL (ns : List Int) : List Int := (List.range (wLn ns)).map fun k : Nat => ((wM ns).getD (3 + (k : Int)).toNat 0).fmod (((nmL ns).length : Nat) : Int)
theorem wLn_b (ns : List Int) : wLn ns ≤ 9 := by
  have h2 := Int.fmod_lt_of_pos ((wM ns).getD 2 0) (show (0 : Int) < 10 by decide)
  unfold wLn
  omega
theorem wL_lc (ns : List Int) : List.map (fun k : Nat => rInt (((wM ns).getD (3 + (k : Int)).toNat 0).fmod (((nmL ns).length : Nat) : Int))) (List.filter (fun _ => true) (List.range (((wM ns).getD 2 0).fmod 10).toNat)) = List.map rInt (wL ns) := by
  rw [List.filter_eq_self.mpr (fun _ _ => rfl)]
  unfold wL
  rw [List.map_map]
  rfl
theorem wL_ok (ns : List Int) : (wL ns).length ≤ 9 ∧ ∀ c ∈ wL ns, 0 ≤ c ∧ c < (((nmL ns).length : Nat) : Int) := by
  have hb := nmL_b ns
  refine ⟨by unfold wL; rw [List.length_map, List.length_range]; exact wLn_b ns, fun c hc => ?_⟩
  obtain ⟨k, _, rfl⟩ := List.mem_map.mp hc
  exact ⟨Int.fmod_nonneg_of_pos _ (by omega), Int.fmod_lt_of_pos _ (by omega)⟩
def wA (ns : List Int) : Nat := (((wM ns).getD 13 0).fmod (((nmL ns).length : Nat) : Int)).toNat
theorem wA_b (ns : List Int) : ((wA ns : Nat) : Int) = ((wM ns).getD 13 0).fmod (((nmL ns).length : Nat) : Int) ∧ wA ns < (nmL ns).length := by
  have hb := nmL_b ns
  have h1 := Int.fmod_nonneg_of_pos ((wM ns).getD 13 0) (show (0 : Int) < (((nmL ns).length : Nat) : Int) by omega)
  have h2 := Int.fmod_lt_of_pos ((wM ns).getD 13 0) (show (0 : Int) < (((nmL ns).length : Nat) : Int) by omega)
  unfold wA
  omega
theorem w_dw (ns : List Int) : Dw (nmL ns).length 288 (rws ns) := rowsZ_dw (nmL_b ns).1 (nmL_b ns).2 (wN_b ns).2.1
theorem w_rl (ns : List Int) : RlOk (nmL ns) (rws ns) (wL ns) := ⟨w_dw ns, by rw [rowsZ_len]; exact (wN_b ns).2.1, (wL_ok ns).2, by have := (wL_ok ns).1; omega⟩
theorem nmL_ok (ns : List Int) : namesOk (nmL ns) = true ∧ ∀ x ∈ nmL ns, x.length ≤ 100000 := by
  have hb := wSi_b ns
  have := namesL_ok (wSi ns).toNat (by omega)
  exact ⟨this.1, fun x hx => of_decide_eq_true (List.all_eq_true.mp this.2 x hx)⟩
theorem w_bs (ns : List Int) : BsOk (nmL ns) (wL ns) := ⟨(nmL_b ns).1, (nmL_b ns).2, (nmL_ok ns).1, (nmL_ok ns).2, (wL_ok ns).2, by have := (wL_ok ns).1; omega⟩
theorem w_bk (ns : List Int) : BookOk (nmL ns) ((rws ns).map toQ) := ⟨by have := (nmL_b ns).2; omega, (nmL_ok ns).2, fun _ _ => (w_dw ns).fr⟩
theorem w_lens (ns : List Int) : lensOk (nmL ns).length ((rws ns).map toQ) = true := List.all_eq_true.mpr fun r hr => by
  obtain ⟨q, hq, rfl⟩ := List.mem_map.mp hr
  exact decide_eq_true (by rw [toQ_len]; exact (w_dw ns).len q hq)
end DL

set_option Elab.async false
set_option linter.all false
set_option maxRecDepth 100000
set_option maxHeartbeats 4000000
namespace K04
open PySem PySem.Spec PyProof.Rows L2 DL
def topS (i : Nat) : Stmt := PySem.Challenge.pw_fineststep_k04_settled_cells.main.body.getD i (.Pass ⟨0, 0, 0, 0⟩)
abbrev s_ratio : Stmt := topS 8
abbrev s_is_whole : Stmt := topS 9
abbrev s_top_of : Stmt := topS 10
abbrev s_bottom_of : Stmt := topS 11
abbrev s_common_bottom : Stmt := topS 12
abbrev s_primitive : Stmt := topS 14
abbrev s_lowest : Stmt := topS 15
abbrev s_cleared : Stmt := topS 17
abbrev s_lead_at : Stmt := topS 18
abbrev s_without : Stmt := topS 19
abbrev s_lowered : Stmt := topS 20
abbrev s_check_names : Stmt := topS 27
abbrev s_is_name : Stmt := topS 28
abbrev s_unit : Stmt := topS 29
abbrev s_frame_of : Stmt := topS 30
abbrev s_check_cell : Stmt := topS 32
abbrev s_check_cells : Stmt := topS 33
abbrev s_first_free : Stmt := topS 35
abbrev s_rank : Stmt := topS 36
abbrev s_settled : Stmt := topS 37
abbrev s_settling_rule : Stmt := topS 38
abbrev s_cleared_at : Stmt := topS 39
abbrev s_is_zero_at : Stmt := topS 40
abbrev s__law_cell : Stmt := topS 42
abbrev s__law_numbers : Stmt := topS 43
abbrev s__law_gcd : Stmt := topS 44
abbrev s__law_is_int : Stmt := topS 45
abbrev s__law_make : Stmt := topS 46
abbrev s__law_top : Stmt := topS 47
abbrev s__law_bottom : Stmt := topS 48
abbrev s__law_is_number : Stmt := topS 49
abbrev s__law_plus : Stmt := topS 50
abbrev s__law_times : Stmt := topS 51
abbrev s__law_entry : Stmt := topS 52
abbrev s__law_rows : Stmt := topS 53
abbrev s__law_cleared : Stmt := topS 54
abbrev s__law_rank_at : Stmt := topS 55
abbrev s__law_first_free : Stmt := topS 56
abbrev s__law_cells : Stmt := topS 57
abbrev s__law_rule : Stmt := topS 58
abbrev s__law_no_cell : Stmt := topS 59
abbrev s__law_refusals : Stmt := topS 60
abbrev s__law_beside : Stmt := topS 61
abbrev s__law_answers : Stmt := topS 62
abbrev s_law : Stmt := topS 63
abbrev s_Book : Stmt := inClass (topS 26) 0
abbrev s_Book_free : Stmt := inClass (topS 26) 1
structure Cs where
  BookError : Addr
  NoCell : Addr
  ZeroBottom : Addr
  BadName : Addr
  BadSize : Addr
  Book : Addr
structure Txt (K : PySem.W.Frag) (mg : Str → Option Value) (cs : Cs) : Prop where
  b_ValueError : mg "ValueError" = none
  b_abs : mg "abs" = none
  b_all : mg "all" = none
  b_bool : mg "bool" = none
  b_classmethod : mg "classmethod" = none
  b_enumerate : mg "enumerate" = none
  b_int : mg "int" = none
  b_isinstance : mg "isinstance" = none
  b_len : mg "len" = none
  b_list : mg "list" = none
  b_min : mg "min" = none
  b_range : mg "range" = none
  b_set : mg "set" = none
  b_sorted : mg "sorted" = none
  b_str : mg "str" = none
  b_tuple : mg "tuple" = none
  b_zip : mg "zip" = none
  m_gcd : mg "gcd" = some (.builtin "math.gcd")
  m_lcm : mg "lcm" = some (.builtin "math.lcm")
  x_BookError : XCls K mg "BookError" cs.BookError
  x_NoCell : XClsF K mg "NoCell" "cell" cs.NoCell
  x_ZeroBottom : XCls K mg "ZeroBottom" cs.ZeroBottom
  x_BadName : XCls K mg "BadName" cs.BadName
  x_BadSize : XCls K mg "BadSize" cs.BadSize
  i_Book : TI K mg "Book" "Book.__init__" cs.Book s_Book ["names", "size", "frame"]
  cm_Book_free : TC K cs.Book "free" "Book.free" s_Book_free
  c_LETTERS : ∃ u, mg "LETTERS" = some u ∧ RelV (.str "abcdefghijklmnopqrstuvwxyz") u
  c_DIGITS : ∃ u, mg "DIGITS" = some u ∧ RelV (.str "0123456789") u
  c_MOST_CELLS : ∃ u, mg "MOST_CELLS" = some u ∧ RelV (.int 16) u
  c_MOST_SIGNS : ∃ u, mg "MOST_SIGNS" = some u ∧ RelV (.int 12) u
  d_ratio : TD K mg "ratio" s_ratio
  d_is_whole : TD K mg "is_whole" s_is_whole
  d_top_of : TD K mg "top_of" s_top_of
  d_bottom_of : TD K mg "bottom_of" s_bottom_of
  d_common_bottom : TD K mg "common_bottom" s_common_bottom
  d_primitive : TD K mg "primitive" s_primitive
  d_lowest : TD K mg "lowest" s_lowest
  d_cleared : TD K mg "cleared" s_cleared
  d_lead_at : TD K mg "lead_at" s_lead_at
  d_without : TD K mg "without" s_without
  d_lowered : TD K mg "lowered" s_lowered
  d_check_names : TD K mg "check_names" s_check_names
  d_is_name : TD K mg "is_name" s_is_name
  d_unit : TD K mg "unit" s_unit
  d_frame_of : TD K mg "frame_of" s_frame_of
  d_check_cell : TD K mg "check_cell" s_check_cell
  d_check_cells : TD K mg "check_cells" s_check_cells
  d_first_free : TD K mg "first_free" s_first_free
  d_rank : TD K mg "rank" s_rank
  d_settled : TD K mg "settled" s_settled
  d_settling_rule : TD K mg "settling_rule" s_settling_rule
  d_cleared_at : TD K mg "cleared_at" s_cleared_at
  d_is_zero_at : TD K mg "is_zero_at" s_is_zero_at
  d__law_cell : TD K mg "_law_cell" s__law_cell
  d__law_numbers : TD K mg "_law_numbers" s__law_numbers
  d__law_gcd : TD K mg "_law_gcd" s__law_gcd
  d__law_is_int : TD K mg "_law_is_int" s__law_is_int
  d__law_make : TD K mg "_law_make" s__law_make
  d__law_top : TD K mg "_law_top" s__law_top
  d__law_bottom : TD K mg "_law_bottom" s__law_bottom
  d__law_is_number : TD K mg "_law_is_number" s__law_is_number
  d__law_plus : TD K mg "_law_plus" s__law_plus
  d__law_times : TD K mg "_law_times" s__law_times
  d__law_entry : TD K mg "_law_entry" s__law_entry
  d__law_rows : TD K mg "_law_rows" s__law_rows
  d__law_cleared : TD K mg "_law_cleared" s__law_cleared
  d__law_rank_at : TD K mg "_law_rank_at" s__law_rank_at
  d__law_first_free : TD K mg "_law_first_free" s__law_first_free
  d__law_cells : TD K mg "_law_cells" s__law_cells
  d__law_rule : TD K mg "_law_rule" s__law_rule
  d__law_no_cell : TD K mg "_law_no_cell" s__law_no_cell
  d__law_refusals : TD K mg "_law_refusals" s__law_refusals
  d__law_beside : TD K mg "_law_beside" s__law_beside
  d__law_answers : TD K mg "_law_answers" s__law_answers
  d_law : TD K mg "law" s_law
  e_NoCell : ExcC K cs.NoCell
  s_NoCell_BookError : PySem.W.subIn K (.ref cs.NoCell) (.ref cs.BookError) = some true
  k_NoCell_BookError : PySem.W.kitOne K (.ref cs.NoCell) (.ref cs.BookError) = some true
  s_NoCell_NoCell : PySem.W.subIn K (.ref cs.NoCell) (.ref cs.NoCell) = some true
  k_NoCell_NoCell : PySem.W.kitOne K (.ref cs.NoCell) (.ref cs.NoCell) = some true
  s_NoCell_ZeroBottom : PySem.W.subIn K (.ref cs.NoCell) (.ref cs.ZeroBottom) = some false
  k_NoCell_ZeroBottom : PySem.W.kitOne K (.ref cs.NoCell) (.ref cs.ZeroBottom) = some false
  s_NoCell_BadName : PySem.W.subIn K (.ref cs.NoCell) (.ref cs.BadName) = some false
  k_NoCell_BadName : PySem.W.kitOne K (.ref cs.NoCell) (.ref cs.BadName) = some false
  s_NoCell_BadSize : PySem.W.subIn K (.ref cs.NoCell) (.ref cs.BadSize) = some false
  k_NoCell_BadSize : PySem.W.kitOne K (.ref cs.NoCell) (.ref cs.BadSize) = some false
  s_NoCell_Book : PySem.W.subIn K (.ref cs.NoCell) (.ref cs.Book) = some false
  k_NoCell_Book : PySem.W.kitOne K (.ref cs.NoCell) (.ref cs.Book) = some false
  k_NoCell_ValueError : PySem.W.kitOne K (.ref cs.NoCell) (.type "ValueError") = some true
variable {P : Program} {w : World} {K : PySem.W.Frag} {mg : Str → Option Value} {base : Heap} {cs : Cs}
theorem sc_ratio : FnScope ["top", "bottom", "common"] ["top", "bottom"] (defScope s_ratio) := ⟨rfl, rfl, rfl, by decide +kernel, rfl, by decide +kernel, by decide +kernel⟩
def sp_ratio (K : PySem.W.Frag) (cs : Cs) : Sp := PmX (ι := Int × Int) (fun ⟨t, b⟩ => Lg b < 9000) (fun ⟨t, b⟩ => [rInt t, rInt b]) (fun ⟨t, b⟩ => if b = 0 then .err cs.ZeroBottom else .ok (.val (rNum K ((t : Rat) / (b : Rat)))))
abbrev okr_ratio (K : PySem.W.Frag) : Int × Int → Ret := fun ⟨t, b⟩ => .val (rNum K ((t : Rat) / (b : Rat)))
theorem ok_ratio (T : Txt K mg cs) : Cal P w K mg base 1 "ratio" (sp_ratio K cs) := by
  refine cal_okX T.d_ratio sc_ratio (fun g => rfl) (fun _ _ _ _ _ _ us hl => match us, hl with | [_, _], _ => rfl) ?_
  rintro X rfl rfl rfl rfl rfl B Bf ⟨t, b⟩ F0 H0 D E tk hp R hnx
  refine go_if (dt_eqI (de_var B (i := 1) rfl rfl (.inl rfl)) de_int) (fun hc => ?gt_1) (fun hc => ?gf_2)
  case gt_1 =>
    replace hc : b = 0 := of_decide_eq_true hc
    refine go_raise B tk T.x_ZeroBottom rfl (fun F H σ en => R.er (C := cs.ZeroBottom) ?re1 H en.gr.h)
    (case re1 => exact if_pos hc)
  case gf_2 =>
    replace hc : b ≠ 0 := of_decide_eq_false hc; have hb := hc
    refine go_then ?go_3
    refine go_set B (i := 2) (de_gcd B T.m_gcd (de_var B (i := 0) rfl rfl (.inl rfl)) (de_var B (i := 1) rfl rfl (.inl rfl)) rfl) rfl (.inl rfl) ?go_4
    refine go_if (dt_lt (de_var B (i := 1) rfl rfl (.inl rfl)) de_int) (fun hc => ?gt_5) (fun hc => ?gf_6)
    case gt_5 =>
      replace hc : b < 0 := of_decide_eq_true hc; have hl : lowC t b = -(Int.gcd t b : Int) := if_pos hc
      refine go_set B (i := 2) (de_neg (de_var B (i := 2) rfl rfl (.inl rfl))) rfl (.inl rfl) ?go_7
      refine go_then ?go_8
      refine go_if (dt_eqI (de_var B (i := 2) rfl rfl (.inl rfl)) (de_var B (i := 1) rfl rfl (.inl rfl))) (fun hc => ?gt_9) (fun hc => ?gf_10)
      case gt_9 =>
        replace hc := of_decide_eq_true hc
        refine go_ret (R.rt (ret := .val (rNum X.K ((t : Rat) / (b : Rat)))) ?ro2) (de_divG ?z3 ?d4 (de_var B (i := 0) rfl rfl (.inl rfl)) (de_var B (i := 2) rfl rfl (.inl rfl))) ?rs_11
        (case ro2 => exact if_neg hb)
        (case z3 => rw [← hl]; exact lowC_ne hb)
        (case d4 => rw [← hl]; exact Nat.lt_of_le_of_lt (lg_lowC hb) hp)
        (case rs_11 => rw [← hl]; exact sub_whole (rat_den1 hb (hl.trans hc)) (rat_num hb))
      case gf_10 =>
        replace hc := of_decide_eq_false hc
        refine go_then ?go_12
        refine go_ret (R.rt (ret := .val (rNum X.K ((t : Rat) / (b : Rat)))) ?ro5) (de_tup (da_cons (de_divG ?z6 ?d7 (de_var B (i := 0) rfl rfl (.inl rfl)) (de_var B (i := 2) rfl rfl (.inl rfl))) (da_cons (de_divG ?z8 ?d9 (de_var B (i := 1) rfl rfl (.inl rfl)) (de_var B (i := 2) rfl rfl (.inl rfl))) da_nil)) (show (2 : Nat) ≤ sizeLine by decide)) ?rs_13
        (case ro5 => exact if_neg hb)
        (case z6 => rw [← hl]; exact lowC_ne hb)
        (case d7 => rw [← hl]; exact Nat.lt_of_le_of_lt (lg_lowC hb) hp)
        (case z8 => rw [← hl]; exact lowC_ne hb)
        (case d9 => rw [← hl]; exact Nat.lt_of_le_of_lt (lg_lowC hb) hp)
        (case rs_13 => rw [← hl]; exact sub_pair (rat_denN hb (fun z => hc (hl.symm.trans z))) (rat_num hb) (rat_den hb))
    case gf_6 =>
      replace hc : ¬ b < 0 := of_decide_eq_false hc; have hl : lowC t b = (Int.gcd t b : Int) := if_neg hc
      refine go_then ?go_14
      refine go_if (dt_eqI (de_var B (i := 2) rfl rfl (.inl rfl)) (de_var B (i := 1) rfl rfl (.inl rfl))) (fun hc => ?gt_15) (fun hc => ?gf_16)
      case gt_15 =>
        replace hc := of_decide_eq_true hc
        refine go_ret (R.rt (ret := .val (rNum X.K ((t : Rat) / (b : Rat)))) ?ro10) (de_divG ?z11 ?d12 (de_var B (i := 0) rfl rfl (.inl rfl)) (de_var B (i := 2) rfl rfl (.inl rfl))) ?rs_17
        (case ro10 => exact if_neg hb)
        (case z11 => rw [← hl]; exact lowC_ne hb)
        (case d12 => rw [← hl]; exact Nat.lt_of_le_of_lt (lg_lowC hb) hp)
        (case rs_17 => rw [← hl]; exact sub_whole (rat_den1 hb (hl.trans hc)) (rat_num hb))
      case gf_16 =>
        replace hc := of_decide_eq_false hc
        refine go_then ?go_18
        refine go_ret (R.rt (ret := .val (rNum X.K ((t : Rat) / (b : Rat)))) ?ro13) (de_tup (da_cons (de_divG ?z14 ?d15 (de_var B (i := 0) rfl rfl (.inl rfl)) (de_var B (i := 2) rfl rfl (.inl rfl))) (da_cons (de_divG ?z16 ?d17 (de_var B (i := 1) rfl rfl (.inl rfl)) (de_var B (i := 2) rfl rfl (.inl rfl))) da_nil)) (show (2 : Nat) ≤ sizeLine by decide)) ?rs_19
        (case ro13 => exact if_neg hb)
        (case z14 => rw [← hl]; exact lowC_ne hb)
        (case d15 => rw [← hl]; exact Nat.lt_of_le_of_lt (lg_lowC hb) hp)
        (case z16 => rw [← hl]; exact lowC_ne hb)
        (case d17 => rw [← hl]; exact Nat.lt_of_le_of_lt (lg_lowC hb) hp)
        (case rs_19 => rw [← hl]; exact sub_pair (rat_denN hb (fun z => hc (hl.symm.trans z))) (rat_num hb) (rat_den hb))
theorem sc_is_whole : FnScope ["number"] ["number"] (defScope s_is_whole) := ⟨rfl, rfl, rfl, by decide +kernel, rfl, by decide +kernel, by decide +kernel⟩
def sp_is_whole (K : PySem.W.Frag) (cs : Cs) : Sp := Pm (ι := Rat) (fun q => True) (fun q => [rNum K q]) (fun q => .val (rBl (decide (q.den = 1))))
theorem ok_is_whole (T : Txt K mg cs) : Cal P w K mg base 1 "is_whole" (sp_is_whole K cs) := by
  refine cal_ok T.d_is_whole sc_is_whole (fun g => rfl) (fun _ _ _ _ _ _ us hl => match us, hl with | [_], _ => rfl) ?_
  rintro X rfl rfl rfl rfl rfl B Bf q F0 H0 D hp R hnx
  refine go_ret R (de_not (de_isi (T := "tuple") B T.b_isinstance rty_num kit_numT (de_var B (i := 0) rfl rfl (.inl rfl)) (de_ty B T.b_tuple (by decide +kernel) rfl) rfl)) ?rs_1
  (case rs_1 => exact Sub.of (by simp))
theorem sc_lowest : FnScope ["row", "common", "number", "divisor", "x"] ["row"] (defScope s_lowest) := ⟨rfl, rfl, rfl, by decide +kernel, rfl, by decide +kernel, by decide +kernel⟩
def sp_lowest (K : PySem.W.Frag) (cs : Cs) : Sp := Pm (ι := List Int) (fun ns => ns.length ≤ 1000 ∧ ∀ x ∈ ns, Lg x < 8990) (fun ns => [rLst K (ns.map rInt)]) (fun ns => .lst ((lowest ns).map rInt))
theorem ok_lowest (T : Txt K mg cs) : Cal P w K mg base 1 "lowest" (sp_lowest K cs) := by
  refine cal_ok T.d_lowest sc_lowest (fun g => rfl) (fun _ _ _ _ _ _ us hl => match us, hl with | [_], _ => rfl) ?_
  rintro X rfl rfl rfl rfl rfl B Bf ns F0 H0 D hp R hnx
  refine go_set B (i := 1) de_int rfl (.inl rfl) ?go_1
  refine go_forS B (fun i => [(1, .im (rInt ((gl (ns.take i) : Nat) : Int))), (2, .any)]) (fun i => True) (sr_listM (R := rInt) (0 : Int) (de_var B (i := 0) rfl rfl (.inl rfl))) _ (fun i hi => (dg_name B (i := 2) rfl (.inl rfl))) ?h0_2 ?j0_3 (fun F1 u i hi hj => ?gb_4) (fun hj => ?ge_5)
  (case h0_2 => refine .same ?_; refine .im ?h ?_; (case h => exact Sub.rfl); refine .any ?_; refine .same ?_; refine .same ?_; exact .nil)
  (case j0_3 => trivial)
  case gb_4 =>
    refine go_set B (i := 1) (de_gcd B T.m_gcd (de_var B (i := 1) rfl rfl (.inl rfl)) (de_var B (i := 2) rfl rfl (.inl rfl)) rfl) rfl (.inl rfl) ?go_6
    refine go_turnS ?jn_7 ?ln_8
    (case jn_7 => trivial)
    (case ln_8 => refine .same ?_; refine .im ?h ?_; (case h => exact Sub.of (by rw [gl_step hi])); refine .any ?_; refine .same ?_; refine .same ?_; exact .nil)
  case ge_5 =>
    refine go_forS B (fun i => [(2, .any), (3, .any)]) (fun i => ∀ j, j < i → ns.getD j 0 = 0) (sr_listM (R := rInt) (0 : Int) (de_var B (i := 0) rfl rfl (.inl rfl))) _ (fun i hi => (dg_name B (i := 2) rfl (.inl rfl))) ?h0_9 ?j0_10 (fun F1 u i hi hj => ?gb_11) (fun hj => ?ge_12)
    (case h0_9 => refine .same ?_; refine .same ?_; refine .any ?_; refine .any ?_; refine .same ?_; exact .nil)
    (case j0_10 => exact fun j hj => absurd hj (Nat.not_lt_zero j))
    case gb_11 =>
      refine go_if (dt_neI (de_var B (i := 2) rfl rfl (.inl rfl)) de_int) (fun hc => ?gt_13) (fun hc => ?gf_14)
      case gt_13 =>
        replace hc := nd_t hc
        have hi1 := hi
        have hf := fnz_at hi hj hc
        have hsd := sdv_ne hf
        refine go_set B (i := 3) (DE.to (r' := rInt (sdv (gl ns) (ns.getD i 0))) (de_if (dt_gt (de_var B (i := 2) rfl rfl (.inl rfl)) de_int) (fun hc2 => DE.to (r' := rInt (sdv (gl ns) (ns.getD i 0))) (de_var B (i := 1) rfl rfl (.inl rfl)) ?sa1) (fun hc2 => DE.to (r' := rInt (sdv (gl ns) (ns.getD i 0))) (de_neg (de_var B (i := 1) rfl rfl (.inl rfl))) ?sb2)) rfl) rfl (.inr ⟨rfl, Bf _⟩) ?go_15
        (case sa1 => exact congrArg rInt (sdv_t (of_decide_eq_true hc2)))
        (case sb2 => exact congrArg rInt (sdv_f (of_decide_eq_false hc2)))
        refine go_retL (u.rt R) (DL.to (l' := List.map rInt (lowest ns)) (dl_lc B [("x", 4)] (sr_listM (R := rInt) (0 : Int) (de_var B (i := 0) rfl rfl (.inl rfl))) (blkOk_by (by decide +kernel)) _ (fun _ => true) (fun i2 : Nat => rInt ((ns.getD i2 0).fdiv (sdv (gl ns) (ns.getD i 0)))) ?sz5 (by decide) (fun _ _ _ _ _ B i2 hi => (dg_name B (i := 4) rfl (.inl rfl))) (fun _ _ _ _ _ B i2 hi => dts_nil) (fun _ _ _ _ _ B i2 hi hb => (de_divG ?z3 ?d4 (de_var B (i := 4) rfl rfl (.inl rfl)) (de_var B (i := 3) rfl rfl (.inr (.inl rfl)))))) ?cl6) ?rs_16
        (case z3 => exact hsd)
        (case d4 => exact sdv_lg hp.2 hi1 hc)
        (case sz5 => exact Nat.lt_of_le_of_lt hp.1 (by decide))
        (case cl6 => exact low_lc hf)
        (case rs_16 => rfl)
      case gf_14 =>
        skip
        refine go_then ?go_17
        refine go_turnS ?jn_18 ?ln_19
        (case jn_18 => exact zer_more hj (nd_f hc))
        (case ln_19 => refine .same ?_; refine .same ?_; refine .any ?_; refine .any ?_; refine .same ?_; exact .nil)
    case ge_12 =>
      refine go_retL R (dl_list B T.b_list (de_var B (i := 0) rfl rfl (.inl rfl)) rfl) ?rs_20
      (case rs_20 => rw [show lowest ns = ns from by unfold lowest; rw [fnz_all hj]])
theorem sc_lead_at : FnScope ["rows", "cell", "k", "row"] ["rows", "cell"] (defScope s_lead_at) := ⟨rfl, rfl, rfl, by decide +kernel, rfl, by decide +kernel, by decide +kernel⟩
def sp_lead_at (K : PySem.W.Frag) (cs : Cs) : Sp := Pm (ι := List (List Int) × Int) (fun ⟨rows, c⟩ => 0 ≤ c ∧ ∀ r ∈ rows, c < r.length) (fun ⟨rows, c⟩ => [rLst K (rows.map (rRowS K)), rInt c]) (fun ⟨rows, c⟩ => .val (rOp rInt ((leadAt rows c.toNat).map fun k : Nat => (k : Int))))
theorem ok_lead_at (T : Txt K mg cs) : Cal P w K mg base 1 "lead_at" (sp_lead_at K cs) := by
  refine cal_ok T.d_lead_at sc_lead_at (fun g => rfl) (fun _ _ _ _ _ _ us hl => match us, hl with | [_, _], _ => rfl) ?_
  rintro X rfl rfl rfl rfl rfl B Bf ⟨rows, c⟩ F0 H0 D hp R hnx
  refine go_forS B (fun i => [(2, .any), (3, .any)]) (fun i => ∀ j, j < i → (rows.getD j []).getD c.toNat 0 = 0) (sr_enumM (R := (fun l => rSeq X.K (List.map rInt l))) [] B T.b_enumerate (de_var B (i := 0) rfl rfl (.inl rfl)) rfl) _ (fun i hi => (dg_tup B (dgs_cons (dg_name B (i := 2) rfl (.inl rfl)) (dgs_cons (dg_name B (i := 3) rfl (.inl rfl)) dgs_nil)))) ?h0_1 ?j0_2 (fun F1 u i hi hj => ?gb_3) (fun hj => ?ge_4)
  (case h0_1 => refine .same ?_; refine .same ?_; refine .any ?_; refine .any ?_; exact .nil)
  (case j0_2 => exact fun j hj => absurd hj (Nat.not_lt_zero j))
  case gb_3 =>
    refine go_if (dt_neI (de_ixAM (R := rInt) (0 : Int) ?xl1 ?xh2 (de_var B (i := 3) rfl rfl (.inl rfl)) (de_var B (i := 1) rfl rfl (.inl rfl))) de_int) (fun hc => ?gt_5) (fun hc => ?gf_6)
    (case xl1 => exact hp.1)
    (case xh2 => exact hp.2 _ (getD_memL hi))
    case gt_5 =>
      replace hc := nd_t hc
      refine go_ret (u.rt R) (de_oS (R := rInt) (de_var B (i := 2) rfl rfl (.inl rfl))) ?rs_7
      (case rs_7 => exact Sub.of (congrArg (fun o : Option Nat => rOp rInt (o.map fun k : Nat => (k : Int))) (leadAt_at hi hj hc).symm))
    case gf_6 =>
      skip
      refine go_then ?go_8
      refine go_turnS ?jn_9 ?ln_10
      (case jn_9 => exact la_more hj (nd_f hc))
      (case ln_10 => refine .same ?_; refine .same ?_; refine .any ?_; refine .any ?_; exact .nil)
  case ge_4 =>
    refine go_ret R (de_oN (R := rInt) de_non) ?rs_11
    (case rs_11 => exact Sub.of (congrArg (fun o : Option Nat => rOp rInt (o.map fun k : Nat => (k : Int))) (leadAt_all hj).symm))
theorem sc_is_name : FnScope ["text", "sign"] ["text"] (defScope s_is_name) := ⟨rfl, rfl, rfl, by decide +kernel, rfl, by decide +kernel, by decide +kernel⟩
def sp_is_name (K : PySem.W.Frag) (cs : Cs) : Sp := Pm (ι := Str) (fun x => x.length ≤ 100000) (fun x => [rStr x]) (fun x => .val (rBl (isNm x)))
theorem ok_is_name (T : Txt K mg cs) : Cal P w K mg base 1 "is_name" (sp_is_name K cs) := by
  refine cal_ok T.d_is_name sc_is_name (fun g => rfl) (fun _ _ _ _ _ _ us hl => match us, hl with | [_], _ => rfl) ?_
  rintro X rfl rfl rfl rfl rfl B Bf x F0 H0 D hp R hnx
  refine go_if (DW.t (dw_or (dt_not (dt_chain op_le b2_I0 op_le b2_I0 de_int (de_lenS B T.b_len ?gl1 (de_var B (i := 0) rfl rfl (.inl rfl)) rfl) (fun hch => (de_glob B (v := .int 12) T.c_MOST_SIGNS rfl)))) (fun hb1 => (dw_or1 (dt_notInSg (de_ixStr ?gz2 ?xl3 ?xh4 (de_var B (i := 0) rfl rfl (.inl rfl)) de_int) (de_glob B (v := .str "abcdefghijklmnopqrstuvwxyz") T.c_LETTERS rfl)))))) (fun hc => ?gt_1) (fun hc => ?gf_2)
  (case gl1 => exact Nat.le_trans hp (by decide))
  (case gz2 => exact Nat.le_trans hp (by decide))
  (case xl3 => decide)
  (case xh4 => exact (nm_len (nn_f hb1)).1)
  case gt_1 =>
    have hn := nm_f hc rfl
    refine go_ret R de_bl ?rs_3
    (case rs_3 => exact Sub.of (congrArg rBl hn.symm))
  case gf_2 =>
    have hn := nm_t hc rfl
    have hlen := nm_le hc
    refine go_then ?go_4
    refine go_ret R (de_allB B T.b_all (DL.froz (DL.to (l' := List.map rBl (x.cps.toList.map nmS)) (dl_lc B [("sign", 1)] (sr_str (de_var B (i := 0) rfl rfl (.inl rfl))) (blkOk_by (by decide +kernel)) _ (fun _ => true) (fun i : Nat => rBl (nmS (x.cps.toList.getD i 0))) ?sz5 (by decide) (fun _ _ _ _ _ B i hi => (dg_name B (i := 1) rfl (.inl rfl))) (fun _ _ _ _ _ B i hi => dts_nil) (fun _ _ _ _ _ B i hi hb => (de_or (de_inSg (de_var B (i := 1) rfl rfl (.inl rfl)) (de_glob B (v := .str "abcdefghijklmnopqrstuvwxyz") T.c_LETTERS rfl)) (fun hb1 => (de_one (de_inSg (de_var B (i := 1) rfl rfl (.inl rfl)) (de_glob B (v := .str "0123456789") T.c_DIGITS rfl))))))) ?cl6)) rfl) ?rs_5
    (case sz5 => exact Nat.lt_of_le_of_lt hlen (by decide))
    (case cl6 => exact nm_lc)
    (case rs_5 => exact Sub.of (congrArg rBl (nm_all.trans hn)))
theorem sc_unit : FnScope ["size", "cell", "row"] ["size", "cell"] (defScope s_unit) := ⟨rfl, rfl, rfl, by decide +kernel, rfl, by decide +kernel, by decide +kernel⟩
def sp_unit (K : PySem.W.Frag) (cs : Cs) : Sp := Pm (ι := Nat × Nat) (fun ⟨n, c⟩ => c < n ∧ n ≤ 1000) (fun ⟨n, c⟩ => [rInt (n : Int), rInt (c : Int)]) (fun ⟨n, c⟩ => .lst ((unitR n c).map rInt))
theorem ok_unit (T : Txt K mg cs) : Cal P w K mg base 1 "unit" (sp_unit K cs) := by
  refine cal_ok T.d_unit sc_unit (fun g => rfl) (fun _ _ _ _ _ _ us hl => match us, hl with | [_, _], _ => rfl) ?_
  rintro X rfl rfl rfl rfl rfl B Bf ⟨n, c⟩ F0 H0 D hp R hnx
  refine go_setL B (i := 2) (DL.to (l' := List.map rInt (List.replicate n (0 : Int))) (dl_rep (dl_lst (da_cons de_int da_nil) (show (1 : Nat) ≤ sizeLine by decide)) (de_var B (i := 0) rfl rfl (.inl rfl)) ?rp1 ?rp2 ?rz3) ?cl4) rfl (.inl rfl) ?go_1
  (case rp1 => have := hp.2; omega)
  (case rp2 => have := hp.2; omega)
  (case rz3 => have := hp.2; exact Nat.le_trans (show _ ≤ 1000 by simp; omega) (by decide))
  (case cl4 => exact unit_lc)
  refine go_putM (R := rInt) B (i := 2) de_int (de_var B (i := 1) rfl rfl (.inl rfl)) ?xl5 ?xh6 rfl rfl (.inl rfl) ?go_2
  (case xl5 => exact Int.natCast_nonneg _)
  (case xh6 => have := hp.1; simp; omega)
  refine go_retV B (i := 2) R rfl ?rs_3 rfl (.inl rfl)
  (case rs_3 => rfl)
theorem sc_is_zero_at : FnScope ["rows", "cell", "row"] ["rows", "cell"] (defScope s_is_zero_at) := ⟨rfl, rfl, rfl, by decide +kernel, rfl, by decide +kernel, by decide +kernel⟩
def sp_is_zero_at (K : PySem.W.Frag) (cs : Cs) : Sp := Pm (ι := List (List Int) × Int) (fun ⟨rows, c⟩ => (0 ≤ c ∧ ∀ r ∈ rows, c < r.length) ∧ rows.length ≤ 1000) (fun ⟨rows, c⟩ => [rLst K (rows.map (rRowS K)), rInt c]) (fun ⟨rows, c⟩ => .val (rBl (zeroAt rows c.toNat)))
theorem ok_is_zero_at (T : Txt K mg cs) : Cal P w K mg base 1 "is_zero_at" (sp_is_zero_at K cs) := by
  refine cal_ok T.d_is_zero_at sc_is_zero_at (fun g => rfl) (fun _ _ _ _ _ _ us hl => match us, hl with | [_, _], _ => rfl) ?_
  rintro X rfl rfl rfl rfl rfl B Bf ⟨rows, c⟩ F0 H0 D hp R hnx
  refine go_ret R (de_allB B T.b_all (DL.froz (DL.to (l' := List.map rBl (rows.map fun r => decide (r.getD c.toNat 0 = 0))) (dl_lc B [("row", 2)] (sr_listM (R := (fun l => rSeq X.K (List.map rInt l))) [] (de_var B (i := 0) rfl rfl (.inl rfl))) (blkOk_by (by decide +kernel)) _ (fun _ => true) (fun i : Nat => rBl (decide ((rows.getD i []).getD c.toNat 0 = 0))) ?sz3 (by decide) (fun _ _ _ _ _ B i hi => (dg_name B (i := 2) rfl (.inl rfl))) (fun _ _ _ _ _ B i hi => dts_nil) (fun _ _ _ _ _ B i hi hb => (de_eqI (de_ixAM (R := rInt) (0 : Int) ?xl1 ?xh2 (de_var B (i := 2) rfl rfl (.inl rfl)) (de_var B (i := 1) rfl rfl (.inr (.inl rfl)))) de_int))) ?cl4)) rfl) ?rs_1
  (case xl1 => exact hp.1.1)
  (case xh2 => exact hp.1.2 _ (getD_memL hi))
  (case sz3 => exact Nat.lt_of_le_of_lt hp.2 (by decide))
  (case cl4 => exact zeroAt_lc)
  (case rs_1 => exact Sub.of (congrArg rBl zeroAt_is))
theorem sc_top_of : FnScope ["number"] ["number"] (defScope s_top_of) := ⟨rfl, rfl, rfl, by decide +kernel, rfl, by decide +kernel, by decide +kernel⟩
def sp_top_of (K : PySem.W.Frag) (cs : Cs) : Sp := Pm (ι := Rat) (fun q => True) (fun q => [rNum K q]) (fun q => .val (rInt q.num))
theorem ok_top_of (T : Txt K mg cs) : Cal P w K mg base 2 "top_of" (sp_top_of K cs) := by
  refine cal_ok T.d_top_of sc_top_of (fun g => rfl) (fun _ _ _ _ _ _ us hl => match us, hl with | [_], _ => rfl) ?_
  rintro X rfl rfl rfl rfl rfl B Bf q F0 H0 D hp R hnx
  refine go_ret R (de_if (dt_val (CA.val (ca_call B (ok_is_whole T) (by decide) _ trivial (da_cons (de_var B (i := 0) rfl rfl (.inl rfl)) da_nil) rfl))) (fun hc => de_n2i ?n1 (de_var B (i := 0) rfl rfl (.inl rfl))) (fun hc => de_num0 ?n2 (de_var B (i := 0) rfl rfl (.inl rfl)))) ?rs_1
  (case n1 => simpa using hc)
  (case n2 => simpa using hc)
  (case rs_1 => exact Sub.rfl)
theorem sc_bottom_of : FnScope ["number"] ["number"] (defScope s_bottom_of) := ⟨rfl, rfl, rfl, by decide +kernel, rfl, by decide +kernel, by decide +kernel⟩
def sp_bottom_of (K : PySem.W.Frag) (cs : Cs) : Sp := Pm (ι := Rat) (fun q => True) (fun q => [rNum K q]) (fun q => .val (rInt (q.den : Int)))
theorem ok_bottom_of (T : Txt K mg cs) : Cal P w K mg base 2 "bottom_of" (sp_bottom_of K cs) := by
  refine cal_ok T.d_bottom_of sc_bottom_of (fun g => rfl) (fun _ _ _ _ _ _ us hl => match us, hl with | [_], _ => rfl) ?_
  rintro X rfl rfl rfl rfl rfl B Bf q F0 H0 D hp R hnx
  refine go_ret R (de_if (dt_val (CA.val (ca_call B (ok_is_whole T) (by decide) _ trivial (da_cons (de_var B (i := 0) rfl rfl (.inl rfl)) da_nil) rfl))) (fun hc => DE.to (r' := rInt (q.den : Int)) de_int ?e1) (fun hc => de_num1 ?n2 (de_var B (i := 0) rfl rfl (.inl rfl)))) ?rs_1
  (case e1 => have h : q.den = 1 := (by simpa using hc); exact congrArg rInt (by omega))
  (case n2 => simpa using hc)
  (case rs_1 => exact Sub.rfl)
theorem sc_lowered : FnScope ["row", "lead", "cell", "up", "down", "x", "y"] ["row", "lead", "cell"] (defScope s_lowered) := ⟨rfl, rfl, rfl, by decide +kernel, rfl, by decide +kernel, by decide +kernel⟩
def sp_lowered (K : PySem.W.Frag) (cs : Cs) : Sp := Pm (ι := List Int × List Int × Int × Nat) (fun ⟨row, lead, c, n⟩ => (0 ≤ c ∧ c < n ∧ n ≤ 1000) ∧ RowOk n row ∧ RowOk n lead) (fun ⟨row, lead, c, n⟩ => [rSeq K (row.map rInt), rSeq K (lead.map rInt), rInt c]) (fun ⟨row, lead, c, n⟩ => .lst ((lowd row lead c.toNat).map rInt))
theorem ok_lowered (T : Txt K mg cs) : Cal P w K mg base 2 "lowered" (sp_lowered K cs) := by
  refine cal_ok T.d_lowered sc_lowered (fun g => rfl) (fun _ _ _ _ _ _ us hl => match us, hl with | [_, _, _], _ => rfl) ?_
  rintro X rfl rfl rfl rfl rfl B Bf ⟨row, lead, c, n⟩ F0 H0 D hp R hnx
  obtain ⟨⟨hc0, hc1, hn⟩, ⟨hr, hr2⟩, ⟨hl, hl2⟩⟩ := hp
  refine @go_nf _ _ _ _ _ _ [_, _, _, _, _, _, _] rfl ?go_1
  refine go_asg (de_tup (da_cons (de_ixAM (R := rInt) (0 : Int) ?xl1 ?xh2 (de_var B (i := 1) rfl rfl (.inl rfl)) (de_var B (i := 2) rfl rfl (.inl rfl))) (da_cons (de_ixAM (R := rInt) (0 : Int) ?xl3 ?xh4 (de_var B (i := 0) rfl rfl (.inl rfl)) (de_var B (i := 2) rfl rfl (.inl rfl))) da_nil)) (show (2 : Nat) ≤ sizeLine by decide)) (dg_tup B (dgs_cons (dg_name B (i := 3) rfl (.inr ⟨rfl, Bf _⟩)) (dgs_cons (dg_name B (i := 4) rfl (.inr ⟨rfl, Bf _⟩)) dgs_nil))) ?go_2 (hw := by have h := B.hsc; revert h; generalize X.env = env; intro h; cases env; subst h; with_unfolding_all rfl)
  (case xl1 => exact hc0)
  (case xh2 => omega)
  (case xl3 => exact hc0)
  (case xh4 => omega)
  refine @go_nf _ _ _ _ _ _ [_, _, _, _, _, _, _] rfl ?go_3
  refine go_retL R (CA.lst (ca_call B (ok_lowest T) (by decide) _ ?c_lowest_9 (da_cons (DL.froz (DL.to (l' := List.map rInt (crs row lead c.toNat)) (dl_lc B [("x", 5), ("y", 6)] (sr_zipS_M (R := rInt) (R2 := rInt) (0 : Int) (0 : Int) B T.b_zip (de_var B (i := 0) rfl rfl (.inl rfl)) (de_var B (i := 1) rfl rfl (.inl rfl)) rfl) (blkOk_by (by decide +kernel)) _ (fun _ => true) (fun i : Nat => rInt (row.getD i 0 * lead.getD c.toNat 0 - lead.getD i 0 * row.getD c.toNat 0)) ?sz7 (by decide) (fun _ _ _ _ _ B i hi => (dg_tup B (dgs_cons (dg_name B (i := 5) rfl (.inl rfl)) (dgs_cons (dg_name B (i := 6) rfl (.inl rfl)) dgs_nil)))) (fun _ _ _ _ _ B i hi => dts_nil) (fun _ _ _ _ _ B i hi hb => (de_sub (de_mulG ?m5 (de_var B (i := 5) rfl rfl (.inl rfl)) (de_var B (i := 3) rfl rfl (.inr (.inl rfl)))) (de_mulG ?m6 (de_var B (i := 6) rfl rfl (.inl rfl)) (de_var B (i := 4) rfl rfl (.inr (.inl rfl))))))) ?cl8)) da_nil) rfl)) ?rs_4
  (case m5 => first | exact low_m (hr2 _ (getD_memI (by omega))) (hl2 _ (getD_memI (by omega))) | exact low_m (hl2 _ (getD_memI (by omega))) (hr2 _ (getD_memI (by omega))))
  (case m6 => first | exact low_m (hr2 _ (getD_memI (by omega))) (hl2 _ (getD_memI (by omega))) | exact low_m (hl2 _ (getD_memI (by omega))) (hr2 _ (getD_memI (by omega))))
  (case sz7 => exact Nat.lt_of_le_of_lt (Nat.le_trans (Nat.min_le_left _ _) (by omega : row.length ≤ 1000)) (by decide))
  (case cl8 => exact crs_lc)
  (case c_lowest_9 => exact ⟨by rw [crs_len]; omega, crs_lg hr2 hl2⟩)
  (case rs_4 => rfl)
theorem sc_check_names : FnScope ["names", "name"] ["names"] (defScope s_check_names) := ⟨rfl, rfl, rfl, by decide +kernel, rfl, by decide +kernel, by decide +kernel⟩
def sp_check_names (K : PySem.W.Frag) (cs : Cs) : Sp := PmX (ι := List Str) (fun xs => xs.length ≤ 1000 ∧ ∀ x ∈ xs, x.length ≤ 100000) (fun xs => [rLst K (xs.map rStr)]) (fun xs => if namesOk xs = false then .err cs.BadName else .ok (.val rNon))
abbrev okr_check_names (K : PySem.W.Frag) : List Str → Ret := fun xs => .val rNon
theorem ok_check_names (T : Txt K mg cs) : Cal P w K mg base 2 "check_names" (sp_check_names K cs) := by
  refine cal_okX T.d_check_names sc_check_names (fun g => rfl) (fun _ _ _ _ _ _ us hl => match us, hl with | [_], _ => rfl) ?_
  rintro X rfl rfl rfl rfl rfl B Bf xs F0 H0 D E tk hp R hnx
  refine go_forS B (fun i => [(1, .any)]) (fun i => ∀ j, j < i → isNm (xs.getD j default) = true) (sr_listM (R := rStr) (default : Str) (de_var B (i := 0) rfl rfl (.inl rfl))) _ (fun i hi => (dg_name B (i := 1) rfl (.inl rfl))) ?h0_1 ?j0_2 (fun F1 u i hi hj => ?gb_3) (fun hj => ?ge_4)
  (case h0_1 => refine .same ?_; refine .any ?_; exact .nil)
  (case j0_2 => exact fun j hj => absurd hj (Nat.not_lt_zero j))
  case gb_3 =>
    refine go_if (dt_not (dt_val (CA.val (ca_call B (ok_is_name T) (by decide) _ ?c_is_name_1 (da_cons (de_var B (i := 1) rfl rfl (.inl rfl)) da_nil) rfl)))) (fun hc => ?gt_5) (fun hc => ?gf_6)
    (case c_is_name_1 => exact hp.2 _ (DL.getD_mem (d := (default : Str)) hi))
    case gt_5 =>
      skip
      refine go_raise B tk T.x_BadName rfl (fun F H σ en => R.er (C := cs.BadName) ?re2 H en.gr.h)
      (case re2 => first | exact if_pos (nmo_a hi hc) | exact if_pos (nmo_b hc))
    case gf_6 =>
      skip
      refine go_then ?go_7
      refine go_turnS ?jn_8 ?ln_9
      (case jn_8 => exact nmj_more hj hc)
      (case ln_9 => refine .same ?_; refine .any ?_; exact .nil)
  case ge_4 =>
    refine go_if (dt_lt (de_lenSS B T.b_len (de_setS B T.b_set ?zs3 (de_var B (i := 0) rfl rfl (.inl rfl)) rfl) rfl) (de_lenM B T.b_len (de_var B (i := 0) rfl rfl (.inl rfl)) rfl)) (fun hc => ?gt_10) (fun hc => ?gf_11)
    (case zs3 => exact nm_scan hp.1)
    case gt_10 =>
      replace hc := of_decide_eq_true hc
      refine go_raise B tk T.x_BadName rfl (fun F H σ en => R.er (C := cs.BadName) ?re4 H en.gr.h)
      (case re4 => first | exact if_pos (nmo_a hi hc) | exact if_pos (nmo_b hc))
    case gf_11 =>
      replace hc := of_decide_eq_false hc
      refine go_then ?go_12
      refine go_nil (fun F H σ en => (hnx σ H).symm ▸ (R.rt (ret := .val rNon) ?ro5) .non F H en.gr rfl)
      (case ro5 => exact if_neg (nmo_c hj hc))
theorem sc_common_bottom : FnScope ["numbers", "common", "number"] ["numbers"] (defScope s_common_bottom) := ⟨rfl, rfl, rfl, by decide +kernel, rfl, by decide +kernel, by decide +kernel⟩
def sp_common_bottom (K : PySem.W.Frag) (cs : Cs) : Sp := Pm (ι := List Rat) (fun qs => ∃ n, (∀ q ∈ qs, Sz n q) ∧ qs.length * (n + 1) < 9000 ∧ n < 9000) (fun qs => [rLst K (qs.map (rNum K))]) (fun qs => .val (rInt (lcmD qs : Nat)))
theorem ok_common_bottom (T : Txt K mg cs) : Cal P w K mg base 3 "common_bottom" (sp_common_bottom K cs) := by
  refine cal_ok T.d_common_bottom sc_common_bottom (fun g => rfl) (fun _ _ _ _ _ _ us hl => match us, hl with | [_], _ => rfl) ?_
  rintro X rfl rfl rfl rfl rfl B Bf qs F0 H0 D hp R hnx
  obtain ⟨n, hp1, hp2, hp3⟩ := hp
  refine go_set B (i := 1) de_int rfl (.inl rfl) ?go_1
  refine go_forS B (fun i => [(1, .im (rInt (lcmD (qs.take i) : Nat))), (2, .any)]) (fun i => True) (sr_listM (R := (rNum X.K)) (0 : Rat) (de_var B (i := 0) rfl rfl (.inl rfl))) _ (fun i hi => (dg_name B (i := 2) rfl (.inl rfl))) ?h0_2 ?j0_3 (fun F1 u i hi hj => ?gb_4) (fun hj => ?ge_5)
  (case h0_2 => refine .same ?_; refine .im ?h ?_; (case h => exact Sub.rfl); refine .any ?_; exact .nil)
  (case j0_3 => trivial)
  case gb_4 =>
    refine go_set B (i := 1) (de_lcm B T.m_lcm ?l1 ?l2 (de_var B (i := 1) rfl rfl (.inl rfl)) (CA.val (ca_call B (ok_bottom_of T) (by decide) _ trivial (da_cons (de_var B (i := 2) rfl rfl (.inl rfl)) da_nil) rfl)) rfl) rfl (.inl rfl) ?go_6
    (case l1 => first | exact lcmD_small hp1 hp2 (Nat.le_of_lt hi) | exact den_small hp1 hp3 hi)
    (case l2 => first | exact lcmD_small hp1 hp2 (Nat.le_of_lt hi) | exact den_small hp1 hp3 hi)
    refine go_turnS ?jn_7 ?ln_8
    (case jn_7 => trivial)
    (case ln_8 => refine .same ?_; refine .im ?h ?_; (case h => exact Sub.of (by rw [lcmD_step hi]; rfl)); refine .any ?_; exact .nil)
  case ge_5 =>
    refine go_ret R (de_var B (i := 1) rfl rfl (.inl rfl)) ?rs_9
    (case rs_9 => exact Sub.of (by rw [List.take_of_length_le (Nat.le_refl _)]))
theorem sc_without : FnScope ["rows", "lead", "cell", "row"] ["rows", "lead", "cell"] (defScope s_without) := ⟨rfl, rfl, rfl, by decide +kernel, rfl, by decide +kernel, by decide +kernel⟩
def sp_without (K : PySem.W.Frag) (cs : Cs) : Sp := Pm (ι := List (List Int) × List Int × Int × Nat) (fun ⟨rows, lead, c, n⟩ => (0 ≤ c ∧ c < n ∧ n ≤ 1000) ∧ rows.length ≤ 1000 ∧ (∀ r ∈ rows, RowOk n r) ∧ RowOk n lead) (fun ⟨rows, lead, c, n⟩ => [rLst K (rows.map (rRowS K)), rSeq K (lead.map rInt), rInt c]) (fun ⟨rows, lead, c, n⟩ => .lst ((wout rows lead c.toNat).map (rRowS K)))
theorem ok_without (T : Txt K mg cs) : Cal P w K mg base 3 "without" (sp_without K cs) := by
  refine cal_ok T.d_without sc_without (fun g => rfl) (fun _ _ _ _ _ _ us hl => match us, hl with | [_, _, _], _ => rfl) ?_
  rintro X rfl rfl rfl rfl rfl B Bf ⟨rows, lead, c, n⟩ F0 H0 D hp R hnx
  obtain ⟨hc, hrl, hro, hlo⟩ := hp
  have hc0 := hc.1
  have hc1 := hc.2.1
  refine go_retL R (DL.to (l' := List.map (fun l => rSeq X.K (List.map rInt l)) (wout rows lead c.toNat)) (dl_lc B [("row", 3)] (sr_listM (R := (fun l => rSeq X.K (List.map rInt l))) [] (de_var B (i := 0) rfl rfl (.inl rfl))) (blkOk_by (by decide +kernel)) _ (fun _ => true) (fun i : Nat => rRowS X.K (wo1 lead c.toNat (rows.getD i []))) ?sz6 (by decide) (fun _ _ _ _ _ B i hi => (dg_name B (i := 3) rfl (.inl rfl))) (fun _ _ _ _ _ B i hi => dts_nil) (fun _ _ _ _ _ B i hi hb => (DE.to (r' := rRowS X.K (wo1 lead c.toNat (rows.getD i []))) (de_if (dt_eqI (de_ixAM (R := rInt) (0 : Int) ?xl1 ?xh2 (de_var B (i := 3) rfl rfl (.inl rfl)) (de_var B (i := 2) rfl rfl (.inr (.inl rfl)))) de_int) (fun hc => DE.to (r' := rRowS X.K (wo1 lead c.toNat (rows.getD i []))) (de_var B (i := 3) rfl rfl (.inl rfl)) ?wa4) (fun hc => DE.to (r' := rRowS X.K (wo1 lead c.toNat (rows.getD i []))) (DE.sub (DL.froz (CA.lst (ca_call B (ok_lowered T) (by decide) (_, _, _, n) ?c_lowered_3 (da_cons (de_var B (i := 3) rfl rfl (.inl rfl)) (da_cons (de_var B (i := 1) rfl rfl (.inr (.inl rfl))) (da_cons (de_var B (i := 2) rfl rfl (.inr (.inl rfl))) da_nil))) rfl))) sub_lseq) ?wb5)) rfl))) ?cl7) ?rs_1
  (case xl1 => exact hc0)
  (case xh2 => have := (hro _ (getD_memL hi)).1; omega)
  (case c_lowered_3 => exact ⟨⟨hc0, hc1, by omega⟩, hro _ (getD_memL hi), hlo⟩)
  (case wa4 => exact congrArg (rRowS X.K) (wo1_t hc))
  (case wb5 => exact congrArg (rRowS X.K) (wo1_f hc))
  (case sz6 => exact Nat.lt_of_le_of_lt hrl (by decide))
  (case cl7 => exact wout_lc)
  (case rs_1 => rfl)
theorem sc_check_cell : FnScope ["book", "cell"] ["book", "cell"] (defScope s_check_cell) := ⟨rfl, rfl, rfl, by decide +kernel, rfl, by decide +kernel, by decide +kernel⟩
def sp_check_cell (K : PySem.W.Frag) (cs : Cs) : Sp := PmX (ι := Bk × Int) (fun ⟨b, c⟩ => True) (fun ⟨b, c⟩ => [rBook K cs.Book b, rInt c]) (fun ⟨b, c⟩ => if ¬ (0 ≤ c ∧ c < b.size) then .errF cs.NoCell [("cell", .int c)] else .ok (.val rNon))
abbrev okr_check_cell (K : PySem.W.Frag) : Bk × Int → Ret := fun ⟨b, c⟩ => .val rNon
theorem ok_check_cell (T : Txt K mg cs) : Cal P w K mg base 3 "check_cell" (sp_check_cell K cs) := by
  refine cal_okX T.d_check_cell sc_check_cell (fun g => rfl) (fun _ _ _ _ _ _ us hl => match us, hl with | [_, _], _ => rfl) ?_
  rintro X rfl rfl rfl rfl rfl B Bf ⟨b, c⟩ F0 H0 D E tk hp R hnx
  refine go_if (dt_not (dt_chain op_le b2_I0 op_lt b2_I0 de_int (de_var B (i := 1) rfl rfl (.inl rfl)) (fun hch => (de_bkS T.i_Book.o (de_var B (i := 0) rfl rfl (.inl rfl)))))) (fun hc => ?gt_1) (fun hc => ?gf_2)
  case gt_1 =>
    replace hc := inC_f hc
    refine go_raiseF B (by decide) tk T.x_NoCell rfl (de_var B (i := 1) rfl rfl (.inl rfl)) (fun F H σ en H1 d s1 n1 z1 => R.erF (C := cs.NoCell) ?re1 H1 d (en.gr.h.trans s1) (en.gr.h.free n1) z1)
    (case re1 => exact if_pos hc)
  case gf_2 =>
    replace hc := inC_t hc
    refine go_then ?go_3
    refine go_nil (fun F H σ en => (hnx σ H).symm ▸ (R.rt (ret := .val rNon) ?ro2) .non F H en.gr rfl)
    (case ro2 => exact if_neg (fun z => z hc))
theorem sc_primitive : FnScope ["numbers", "bottom", "number"] ["numbers"] (defScope s_primitive) := ⟨rfl, rfl, rfl, by decide +kernel, rfl, by decide +kernel, by decide +kernel⟩
def sp_primitive (K : PySem.W.Frag) (cs : Cs) : Sp := Pm (ι := List Rat) (fun qs => ∃ n, (∀ q ∈ qs, Sz n q) ∧ qs.length * (n + 1) + n < 8900 ∧ qs.length ≤ 1000) (fun qs => [rLst K (qs.map (rNum K))]) (fun qs => .lst ((prim qs).map rInt))
theorem ok_primitive (T : Txt K mg cs) : Cal P w K mg base 4 "primitive" (sp_primitive K cs) := by
  refine cal_ok T.d_primitive sc_primitive (fun g => rfl) (fun _ _ _ _ _ _ us hl => match us, hl with | [_], _ => rfl) ?_
  rintro X rfl rfl rfl rfl rfl B Bf qs F0 H0 D hp R hnx
  obtain ⟨n, hp1, hp2, hp3⟩ := hp
  refine go_set B (i := 1) (CA.val (ca_call B (ok_common_bottom T) (by decide) _ ?c_common_bottom_1 (da_cons (de_var B (i := 0) rfl rfl (.inl rfl)) da_nil) rfl)) rfl (.inr ⟨rfl, Bf _⟩) ?go_1
  (case c_common_bottom_1 => exact ⟨n, hp1, by omega, by omega⟩)
  refine go_retL R (CA.lst (ca_call B (ok_lowest T) (by decide) _ ?c_lowest_7 (da_cons (DL.froz (DL.to (l' := List.map rInt (tops qs)) (dl_lc B [("number", 2)] (sr_listM (R := (rNum X.K)) (0 : Rat) (de_var B (i := 0) rfl rfl (.inl rfl))) (blkOk_by (by decide +kernel)) _ (fun _ => true) (fun i : Nat => rInt (topq (lcmD qs) (qs.getD i 0))) ?sz5 (by decide) (fun _ _ _ _ _ B i hi => (dg_name B (i := 2) rfl (.inl rfl))) (fun _ _ _ _ _ B i hi => dts_nil) (fun _ _ _ _ _ B i hi hb => (de_mulG ?m4 (CA.val (ca_call B (ok_top_of T) (by decide) _ trivial (da_cons (de_var B (i := 2) rfl rfl (.inl rfl)) da_nil) rfl)) (de_divG ?z2 ?d3 (de_var B (i := 1) rfl rfl (.inr (.inl rfl))) (CA.val (ca_call B (ok_bottom_of T) (by decide) _ trivial (da_cons (de_var B (i := 2) rfl rfl (.inl rfl)) da_nil) rfl)))))) ?cl6)) da_nil) rfl)) ?rs_2
  (case z2 => exact den_neI _)
  (case d3 => exact Nat.lt_of_le_of_lt (hp1 _ (getD_mem hi)).2 (by omega))
  (case m4 => exact top_m hp1 (by omega) hi)
  (case sz5 => exact Nat.lt_of_le_of_lt hp3 (by decide))
  (case cl6 => exact lc_int)
  (case c_lowest_7 => exact ⟨by rw [tops_len]; exact hp3, fun x hx => tops_lg hp1 hp2 hx⟩)
  (case rs_2 => rfl)
theorem sc_cleared : FnScope ["rows", "cells", "kept", "leads", "rest", "cell", "at", "lead"] ["rows", "cells"] (defScope s_cleared) := ⟨rfl, rfl, rfl, by decide +kernel, rfl, by decide +kernel, by decide +kernel⟩
def sp_cleared (K : PySem.W.Frag) (cs : Cs) : Sp := Pm (ι := List (List Int) × List Int × Nat) (fun ⟨rows, cells, n⟩ => ClrOk n rows cells) (fun ⟨rows, cells, n⟩ => [rSeq K (rows.map (rRowS K)), rLst K (cells.map rInt)]) (fun ⟨rows, cells, n⟩ => .tfr K ((clr rows cells).K.map rInt) [rLst K ((clr rows cells).L.map (rRowS K)), rLst K ((clr rows cells).R.map (rRowS K))])
theorem ok_cleared (T : Txt K mg cs) : Cal P w K mg base 4 "cleared" (sp_cleared K cs) := by
  refine cal_ok T.d_cleared sc_cleared (fun g => rfl) (fun _ _ _ _ _ _ us hl => match us, hl with | [_, _], _ => rfl) ?_
  rintro X rfl rfl rfl rfl rfl B Bf ⟨rows, cells, n⟩ F0 H0 D hp R hnx
  refine @go_nf _ _ _ _ _ _ [_, _, _, _, _, _, _, _] rfl ?go_1
  refine go_par3 B (i1 := 2) (i2 := 3) (i3 := 4) (dl_lst da_nil (show (0 : Nat) ≤ sizeLine by decide)) (dl_lst da_nil (show (0 : Nat) ≤ sizeLine by decide)) (dl_listA B T.b_list (de_var B (i := 0) rfl rfl (.inl rfl)) rfl) rfl rfl rfl (by decide) (by decide) (by decide) rfl rfl rfl ?go_2 (fun env h => by cases env; subst h; with_unfolding_all rfl)
  refine @go_nf _ _ _ _ _ _ [_, _, _, _, _, _, _, _] rfl ?go_3
  refine go_froz 3 rfl ?go_4
  refine @go_nf _ _ _ _ _ _ [_, _, _, _, _, _, _, _] rfl ?go_5
  refine go_froz 4 rfl ?go_6
  refine @go_nf _ _ _ _ _ _ [_, _, _, _, _, _, _, _] rfl ?go_7
  refine go_forS B (fun i => [(2, .ow ((clr rows (cells.take i)).K.map rInt)), (3, .im (rLst X.K ((clr rows (cells.take i)).L.map (rRowS X.K)))), (4, .im (rLst X.K ((clr rows (cells.take i)).R.map (rRowS X.K)))), (5, .any), (6, .any), (7, .any)]) (fun i => True) (sr_listM (R := rInt) (0 : Int) (de_var B (i := 1) rfl rfl (.inl rfl))) _ (fun i hi => (dg_name B (i := 5) rfl (.inl rfl))) ?h0_8 ?j0_9 (fun F1 u i hi hj => ?gb_10) (fun hj => ?ge_11)
  (case h0_8 => refine .same ?_; refine .same ?_; refine .ow ?h ?_; (case h => rfl); refine .im ?h ?_; (case h => exact Sub.rfl); refine .im ?h ?_; (case h => exact Sub.rfl); refine .any ?_; refine .any ?_; refine .any ?_; exact .nil)
  (case j0_9 => trivial)
  case gb_10 =>
    refine @go_nf _ _ _ _ _ _ [_, _, _, _, _, _, _, _] rfl ?go_12
    have hin := hp.inn _ (getD_memI hi)
    have hok := hp.ok i (Nat.le_of_lt hi)
    have hct := hp.cnt i (Nat.le_of_lt hi)
    refine go_set B (i := 6) (CA.val (ca_call B (ok_lead_at T) (by decide) (_, _) ?c_lead_at_1 (da_cons (de_var B (i := 4) rfl rfl (.inl rfl)) (da_cons (de_var B (i := 5) rfl rfl (.inl rfl)) da_nil)) rfl)) rfl (.inl rfl) ?go_13
    (case c_lead_at_1 => exact ⟨hin.1, fun r hr => by have := (hok r (List.mem_append_right _ hr)).1; omega⟩)
    refine @go_nf _ _ _ _ _ _ [_, _, _, _, _, _, _, _] rfl ?go_14
    refine go_if (dt_oNot (R := rInt) (fun _ => notNon_int) (de_var B (i := 6) rfl rfl (.inl rfl))) (fun hc => ?gt_15) (fun hc => ?gf_16)
    case gt_15 =>
      have hn := hc
      have hat := at_lt hn
      refine go_set B (i := 7) (de_ixM (R := (fun l => rSeq X.K (List.map rInt l))) [] ?xl3 ?xh4 (de_var B (i := 4) rfl rfl (.inl rfl)) (de_oU (R := rInt) (0 : Int) ?oo2 (de_var B (i := 6) rfl rfl (.inl rfl)))) rfl (.inl rfl) ?go_17
      (case oo2 => exact nn_t hn)
      (case xl3 => exact hat.1)
      (case xh4 => have := hat; omega)
      refine @go_nf _ _ _ _ _ _ [_, _, _, _, _, _, _, _] rfl ?go_18
      refine go_append B (i := 2) rfl (de_var B (i := 5) rfl rfl (.inl rfl)) ?s5 rfl (.inl rfl) ?go_19
      (case s5 => first | exact Nat.lt_of_le_of_lt (show _ ≤ 3000 by simp [wout_len]; omega) (by decide) | exact Nat.le_trans (show _ ≤ 3000 by simp [wout_len]; omega) (by decide))
      refine @go_nf _ _ _ _ _ _ [_, _, _, _, _, _, _, _] rfl ?go_20
      refine go_setL B (i := 3) (dl_cat (CA.lst (ca_call B (ok_without T) (by decide) (_, _, _, n) ?c_without_6 (da_cons (de_var B (i := 3) rfl rfl (.inl rfl)) (da_cons (de_var B (i := 7) rfl rfl (.inl rfl)) (da_cons (de_var B (i := 5) rfl rfl (.inl rfl)) da_nil))) rfl)) (dl_lst (da_cons (de_var B (i := 7) rfl rfl (.inl rfl)) da_nil) (show (1 : Nat) ≤ sizeLine by decide)) ?s7) rfl (.inl rfl) ?go_21
      (case c_without_6 => first | exact cl_w1 hp.n1 hin hok hct hat.2 | exact cl_w2 hp.n1 hin hok hct hat.2 (by have := hat.1; omega))
      (case s7 => first | exact Nat.lt_of_le_of_lt (show _ ≤ 3000 by simp [wout_len]; omega) (by decide) | exact Nat.le_trans (show _ ≤ 3000 by simp [wout_len]; omega) (by decide))
      refine @go_nf _ _ _ _ _ _ [_, _, _, _, _, _, _, _] rfl ?go_22
      refine go_froz 3 rfl ?go_23
      refine @go_nf _ _ _ _ _ _ [_, _, _, _, _, _, _, _] rfl ?go_24
      refine go_setL B (i := 4) (CA.lst (ca_call B (ok_without T) (by decide) (_, _, _, n) ?c_without_13 (da_cons (DL.froz (dl_catM (dl_to (de_var B (i := 4) rfl rfl (.inl rfl)) ?sl9 (de_oU (R := rInt) (0 : Int) ?oo8 (de_var B (i := 6) rfl rfl (.inl rfl)))) (dl_from (de_var B (i := 4) rfl rfl (.inl rfl)) ?sl11 (de_add (de_oU (R := rInt) (0 : Int) ?oo10 (de_var B (i := 6) rfl rfl (.inl rfl))) de_int)) ?s12)) (da_cons (de_var B (i := 7) rfl rfl (.inl rfl)) (da_cons (de_var B (i := 5) rfl rfl (.inl rfl)) da_nil))) rfl)) rfl (.inl rfl) ?go_25
      (case oo8 => exact nn_t hn)
      (case sl9 => first | exact hat.1 | (have := hat.1; omega))
      (case oo10 => exact nn_t hn)
      (case sl11 => first | exact hat.1 | (have := hat.1; omega))
      (case s12 => first | exact Nat.lt_of_le_of_lt (show _ ≤ 3000 by simp [wout_len]; omega) (by decide) | exact Nat.le_trans (show _ ≤ 3000 by simp [wout_len]; omega) (by decide))
      (case c_without_13 => first | exact cl_w1 hp.n1 hin hok hct hat.2 | exact cl_w2 hp.n1 hin hok hct hat.2 (by have := hat.1; omega))
      refine @go_nf _ _ _ _ _ _ [_, _, _, _, _, _, _, _] rfl ?go_26
      refine go_froz 4 rfl ?go_27
      refine @go_nf _ _ _ _ _ _ [_, _, _, _, _, _, _, _] rfl ?go_28
      refine go_then ?go_29
      refine go_turnS ?jn_30 ?ln_31
      (case jn_30 => trivial)
      (case ln_31 => refine .same ?_; refine .same ?_; refine .ow ?h ?_; (case h => first | (rw [cl_t hi hn, List.map_append]; rfl) | rw [cl_f hi hn]); refine .im ?h ?_; (case h => first | exact Sub.of (by rw [cl_t hi hn, List.map_append]; rfl) | exact Sub.of (by rw [cl_f hi hn])); refine .im ?h ?_; (case h => first | exact Sub.of (by rw [cl_t hi hn]) | exact Sub.of (by rw [cl_f hi hn])); refine .any ?_; refine .any ?_; refine .any ?_; exact .nil)
    case gf_16 =>
      have hn := hc
      refine go_then ?go_32
      refine go_turnS ?jn_33 ?ln_34
      (case jn_33 => trivial)
      (case ln_34 => refine .same ?_; refine .same ?_; refine .ow ?h ?_; (case h => first | (rw [cl_t hi hn, List.map_append]; rfl) | rw [cl_f hi hn]); refine .im ?h ?_; (case h => first | exact Sub.of (by rw [cl_t hi hn, List.map_append]; rfl) | exact Sub.of (by rw [cl_f hi hn])); refine .im ?h ?_; (case h => first | exact Sub.of (by rw [cl_t hi hn]) | exact Sub.of (by rw [cl_f hi hn])); refine .any ?_; refine .any ?_; refine .any ?_; exact .nil)
  case ge_11 =>
    refine @go_nf _ _ _ _ _ _ [_, _, _, _, _, _, _, _] rfl ?go_35
    rw [List.take_length]
    refine go_retT B (i := 2) R rfl (da_cons (de_var B (i := 3) rfl rfl (.inl rfl)) (da_cons (de_var B (i := 4) rfl rfl (.inl rfl)) da_nil)) rfl (.inl rfl) (show (3 : Nat) ≤ sizeLine by decide)
theorem sc_check_cells : FnScope ["book", "cells", "cell"] ["book", "cells"] (defScope s_check_cells) := ⟨rfl, rfl, rfl, by decide +kernel, rfl, by decide +kernel, by decide +kernel⟩
def sp_check_cells (K : PySem.W.Frag) (cs : Cs) : Sp := PmX (ι := Bk × List Int) (fun ⟨b, cells⟩ => True) (fun ⟨b, cells⟩ => [rBook K cs.Book b, rLst K (cells.map rInt)]) (fun ⟨b, cells⟩ => if (badC b.size cells).isSome = true then .errF cs.NoCell [("cell", .int ((badC b.size cells).getD 0))] else .ok (.val rNon))
abbrev okr_check_cells (K : PySem.W.Frag) : Bk × List Int → Ret := fun ⟨b, cells⟩ => .val rNon
theorem ok_check_cells (T : Txt K mg cs) : Cal P w K mg base 4 "check_cells" (sp_check_cells K cs) := by
  refine cal_okX T.d_check_cells sc_check_cells (fun g => rfl) (fun _ _ _ _ _ _ us hl => match us, hl with | [_, _], _ => rfl) ?_
  rintro X rfl rfl rfl rfl rfl B Bf ⟨b, cells⟩ F0 H0 D E tk hp R hnx
  refine go_forS B (fun i => [(2, .any)]) (fun i => ∀ j, j < i → 0 ≤ cells.getD j 0 ∧ cells.getD j 0 < (b.size : Int)) (sr_listM (R := rInt) (0 : Int) (de_var B (i := 1) rfl rfl (.inl rfl))) _ (fun i hi => (dg_name B (i := 2) rfl (.inl rfl))) ?h0_1 ?j0_2 (fun F1 u i hi hj => ?gb_3) (fun hj => ?ge_4)
  (case h0_1 => refine .same ?_; refine .same ?_; refine .any ?_; exact .nil)
  (case j0_2 => exact fun j hj => absurd hj (Nat.not_lt_zero j))
  case gb_3 =>
    by_cases hz1 : ¬ (0 ≤ cells.getD i 0 ∧ cells.getD i 0 < (b.size : Int))
    · refine go_exprF (ex_callF B tk (ok_check_cell T) (by decide) (_, _) trivial (if_pos hz1) (da_cons (de_var B (i := 0) rfl rfl (.inl rfl)) (da_cons (de_var B (i := 2) rfl rfl (.inl rfl)) da_nil)) rfl) (fun F H σ en H1 d s1 n1 z1 => R.erF (C := cs.NoCell) (fs := [("cell", .int (cells.getD i 0))]) ?re1 H1 d (en.gr.h.trans s1) (en.gr.h.free n1) z1)
      (case re1 => have e := badC_at hj hi hz1; exact (if_pos (by rw [e]; rfl)).trans (by rw [e]; rfl))
    refine go_expr (CA.val (ca_callO (okr_check_cell X.K) B (ok_check_cell T) (by decide) (_, _) trivial (if_neg hz1) (da_cons (de_var B (i := 0) rfl rfl (.inl rfl)) (da_cons (de_var B (i := 2) rfl rfl (.inl rfl)) da_nil)) rfl)) ?go_5
    refine go_turnS ?jn_6 ?ln_7
    (case jn_6 => exact badC_more hj hz1)
    (case ln_7 => refine .same ?_; refine .same ?_; refine .any ?_; exact .nil)
  case ge_4 =>
    refine go_nil (fun F H σ en => (hnx σ H).symm ▸ (R.rt (ret := .val rNon) ?ro2) .non F H en.gr rfl)
    (case ro2 => exact if_neg (badC_no hj))
theorem sc_frame_of : FnScope ["rows", "size", "leads", "lead", "row"] ["rows", "size"] (defScope s_frame_of) := ⟨rfl, rfl, rfl, by decide +kernel, rfl, by decide +kernel, by decide +kernel⟩
def sp_frame_of (K : PySem.W.Frag) (cs : Cs) : Sp := Pm (ι := List (List Rat) × Nat) (fun ⟨rows, n⟩ => FrOk n rows) (fun ⟨rows, n⟩ => [rLst K (rows.map fun l => rLst K (l.map (rNum K))), rInt (n : Int)]) (fun ⟨rows, n⟩ => .val (rTup K ((frameQ rows n).map (rRowT K))))
theorem ok_frame_of (T : Txt K mg cs) : Cal P w K mg base 5 "frame_of" (sp_frame_of K cs) := by
  refine cal_ok T.d_frame_of sc_frame_of (fun g => rfl) (fun _ _ _ _ _ _ us hl => match us, hl with | [_, _], _ => rfl) ?_
  rintro X rfl rfl rfl rfl rfl B Bf ⟨rows, n⟩ F0 H0 D hp R hnx
  refine go_set B (i := 2) (de_ixT rfl (CA.tup (ca_call B (ok_cleared T) (by decide) (rows.map prim, upto n, n) ?c_cleared_7 (da_cons (DE.sub (DL.froz (DL.to (l' := List.map (fun l => rLst X.K (List.map rInt l)) (rows.map prim)) (dl_lc B [("row", 4)] (sr_listM (R := (fun l => rLst X.K (List.map (rNum X.K) l))) [] (de_var B (i := 0) rfl rfl (.inl rfl))) (blkOk_by (by decide +kernel)) _ (fun _ => true) (fun i : Nat => rLst X.K ((prim (rows.getD i [])).map rInt)) ?sz2 (by decide) (fun _ _ _ _ _ B i hi => (dg_name B (i := 4) rfl (.inl rfl))) (fun _ _ _ _ _ B i hi => dts_nil) (fun _ _ _ _ _ B i hi hb => (DL.froz (CA.lst (ca_call B (ok_primitive T) (by decide) _ ?c_primitive_1 (da_cons (de_var B (i := 4) rfl rfl (.inl rfl)) da_nil) rfl))))) ?cl3)) (Sub.trans (sub_lstM (R := (fun l => rLst X.K (List.map rInt l))) (R' := (fun l => rSeq X.K (List.map rInt l))) (fun _ => sub_lseq)) sub_lseq)) (da_cons (DL.froz (DL.to (l' := List.map rInt (upto n)) (dl_listRg B T.b_list T.b_range ?rg4 ?rg5 (de_var B (i := 1) rfl rfl (.inl rfl)) rfl rfl) ?cl6)) da_nil)) rfl)) de_int) rfl (.inl rfl) ?go_1
  (case c_primitive_1 => exact hp.pr _ (getD_memL hi))
  (case sz2 => first | exact Nat.lt_of_le_of_lt hp.n2 (by decide) | exact Nat.lt_of_le_of_lt (fr_len hp) (by decide))
  (case cl3 => first | exact prim_lc | exact upto_lc | exact lc_map)
  (case rg4 => first | exact Int.natCast_nonneg _ | exact Int.le_trans (Int.ofNat_le.mpr hp.n1) (by decide))
  (case rg5 => first | exact Int.natCast_nonneg _ | exact Int.le_trans (Int.ofNat_le.mpr hp.n1) (by decide))
  (case cl6 => first | exact prim_lc | exact upto_lc | exact lc_map)
  (case c_cleared_7 => exact hp.cl)
  refine go_ret R (de_tupS T.b_tuple B (DE.sub (DL.froz (DL.to (l' := List.map (fun l => rTup X.K (List.map rInt l)) (frameQ rows n)) (dl_lc B [("lead", 3)] (sr_listM (R := (fun l => rSeq X.K (List.map rInt l))) [] (de_var B (i := 2) rfl rfl (.inl rfl))) (blkOk_by (by decide +kernel)) _ (fun _ => true) (fun i : Nat => rRowT X.K ((frameQ rows n).getD i [])) ?sz8 (by decide) (fun _ _ _ _ _ B i hi => (dg_name B (i := 3) rfl (.inl rfl))) (fun _ _ _ _ _ B i hi => dts_nil) (fun _ _ _ _ _ B i hi hb => (de_tupS T.b_tuple B (de_var B (i := 3) rfl rfl (.inl rfl)) rfl))) ?cl9)) sub_lseq) rfl) ?rs_2
  (case sz8 => first | exact Nat.lt_of_le_of_lt hp.n2 (by decide) | exact Nat.lt_of_le_of_lt (fr_len hp) (by decide))
  (case cl9 => first | exact prim_lc | exact upto_lc | exact lc_map)
  (case rs_2 => exact Sub.rfl)
theorem sc_cleared_at : FnScope ["book", "cells"] ["book", "cells"] (defScope s_cleared_at) := ⟨rfl, rfl, rfl, by decide +kernel, rfl, by decide +kernel, by decide +kernel⟩
def sp_cleared_at (K : PySem.W.Frag) (cs : Cs) : Sp := PmX (ι := Bk × List Int) (fun ⟨b, cells⟩ => cells.length < 63 ∧ (¬ (badC b.size cells).isSome = true → ClrOk b.size b.frame (sset cells))) (fun ⟨b, cells⟩ => [rBook K cs.Book b, rLst K (cells.map rInt)]) (fun ⟨b, cells⟩ => if (badC b.size cells).isSome = true then .errF cs.NoCell [("cell", .int ((badC b.size cells).getD 0))] else .ok (.tfr K ((clr b.frame (sset cells)).K.map rInt) [rLst K ((clr b.frame (sset cells)).L.map (rRowS K)), rLst K ((clr b.frame (sset cells)).R.map (rRowS K))]))
abbrev okr_cleared_at (K : PySem.W.Frag) : Bk × List Int → Ret := fun ⟨b, cells⟩ => .tfr K ((clr b.frame (sset cells)).K.map rInt) [rLst K ((clr b.frame (sset cells)).L.map (rRowS K)), rLst K ((clr b.frame (sset cells)).R.map (rRowS K))]
theorem ok_cleared_at (T : Txt K mg cs) : Cal P w K mg base 5 "cleared_at" (sp_cleared_at K cs) := by
  refine cal_okX T.d_cleared_at sc_cleared_at (fun g => rfl) (fun _ _ _ _ _ _ us hl => match us, hl with | [_, _], _ => rfl) ?_
  rintro X rfl rfl rfl rfl rfl B Bf ⟨b, cells⟩ F0 H0 D E tk hp R hnx
  by_cases hz1 : (badC b.size cells).isSome = true
  · refine go_exprF (ex_callF B tk (ok_check_cells T) (by decide) (_, _) trivial (if_pos hz1) (da_cons (de_var B (i := 0) rfl rfl (.inl rfl)) (da_cons (de_var B (i := 1) rfl rfl (.inl rfl)) da_nil)) rfl) (fun F H σ en H1 d s1 n1 z1 => R.erF (C := cs.NoCell) (fs := [("cell", .int ((badC b.size cells).getD 0))]) ?re1 H1 d (en.gr.h.trans s1) (en.gr.h.free n1) z1)
    (case re1 => exact if_pos hz1)
  refine go_expr (CA.val (ca_callO (okr_check_cells X.K) B (ok_check_cells T) (by decide) (_, _) trivial (if_neg hz1) (da_cons (de_var B (i := 0) rfl rfl (.inl rfl)) (da_cons (de_var B (i := 1) rfl rfl (.inl rfl)) da_nil)) rfl)) ?go_1
  refine go_retTP (R.rt (ret := .tfr X.K ((clr b.frame (sset cells)).K.map rInt) [rLst X.K ((clr b.frame (sset cells)).L.map (rRowS X.K)), rLst X.K ((clr b.frame (sset cells)).R.map (rRowS X.K))]) ?ro2) (ca_call B (ok_cleared T) (by decide) (b.frame, sset cells, b.size) ?c_cleared_5 (da_cons (DE.sub (de_bkF T.i_Book.o (de_var B (i := 0) rfl rfl (.inl rfl))) (Sub.trans (sub_tupM (R := (fun l => rTup X.K (List.map rInt l))) (R' := (fun l => rSeq X.K (List.map rInt l))) (fun _ => sub_tseq)) sub_tseq)) (da_cons (DL.froz (dl_sortedSI B T.b_sorted ?so4 (de_setI B T.b_set ?zs3 (de_var B (i := 1) rfl rfl (.inl rfl)) rfl) rfl)) da_nil)) rfl)
  (case ro2 => exact if_neg hz1)
  (case zs3 => exact sc63 hp.1)
  (case so4 => exact Nat.lt_succ_of_lt hp.1)
  (case c_cleared_5 => exact hp.2 hz1)
theorem sc_first_free : FnScope ["book", "cells"] ["book", "cells"] (defScope s_first_free) := ⟨rfl, rfl, rfl, by decide +kernel, rfl, by decide +kernel, by decide +kernel⟩
def sp_first_free (K : PySem.W.Frag) (cs : Cs) : Sp := PmX (ι := Bk × List Int) (fun ⟨b, cells⟩ => cells.length < 63 ∧ (¬ (badC b.size cells).isSome = true → ClrOk b.size b.frame (sset cells))) (fun ⟨b, cells⟩ => [rBook K cs.Book b, rLst K (cells.map rInt)]) (fun ⟨b, cells⟩ => if (badC b.size cells).isSome = true then .errF cs.NoCell [("cell", .int ((badC b.size cells).getD 0))] else .ok (.lst ((clr b.frame (sset cells)).K.map rInt)))
abbrev okr_first_free (K : PySem.W.Frag) : Bk × List Int → Ret := fun ⟨b, cells⟩ => .lst ((clr b.frame (sset cells)).K.map rInt)
theorem ok_first_free (T : Txt K mg cs) : Cal P w K mg base 6 "first_free" (sp_first_free K cs) := by
  refine cal_okX T.d_first_free sc_first_free (fun g => rfl) (fun _ _ _ _ _ _ us hl => match us, hl with | [_, _], _ => rfl) ?_
  rintro X rfl rfl rfl rfl rfl B Bf ⟨b, cells⟩ F0 H0 D E tk hp R hnx
  by_cases hz1 : (badC b.size cells).isSome = true
  · refine go_retF (exf_ix (ex_callF B tk (ok_cleared_at T) (by decide) (_, _) ?c_cleared_at_1 (if_pos hz1) (da_cons (de_var B (i := 0) rfl rfl (.inl rfl)) (da_cons (de_var B (i := 1) rfl rfl (.inl rfl)) da_nil)) rfl)) (fun F H σ en H1 d s1 n1 z1 => R.erF (C := cs.NoCell) (fs := [("cell", .int ((badC b.size cells).getD 0))]) ?re2 H1 d (en.gr.h.trans s1) (en.gr.h.free n1) z1)
    (case c_cleared_at_1 => exact hp)
    (case re2 => exact if_pos hz1)
  refine go_retL (R.rt (ret := .lst ((clr b.frame (sset cells)).K.map rInt)) ?ro3) (dl_fst (ca_callO (okr_cleared_at X.K) B (ok_cleared_at T) (by decide) (_, _) ?c_cleared_at_4 (if_neg hz1) (da_cons (de_var B (i := 0) rfl rfl (.inl rfl)) (da_cons (de_var B (i := 1) rfl rfl (.inl rfl)) da_nil)) rfl)) ?rs_1
  (case ro3 => exact if_neg hz1)
  (case c_cleared_at_4 => exact hp)
  (case rs_1 => rfl)
theorem sc_settled : FnScope ["book", "cells", "rest", "cell"] ["book", "cells"] (defScope s_settled) := ⟨rfl, rfl, rfl, by decide +kernel, rfl, by decide +kernel, by decide +kernel⟩
def sp_settled (K : PySem.W.Frag) (cs : Cs) : Sp := PmX (ι := Bk × List Int) (fun ⟨b, cells⟩ => cells.length < 63 ∧ (¬ (badC b.size cells).isSome = true → ClrOk b.size b.frame (sset cells)) ∧ b.size ≤ 1000) (fun ⟨b, cells⟩ => [rBook K cs.Book b, rLst K (cells.map rInt)]) (fun ⟨b, cells⟩ => if (badC b.size cells).isSome = true then .errF cs.NoCell [("cell", .int ((badC b.size cells).getD 0))] else .ok (.lst ((settledL b.size (clr b.frame (sset cells)).R).map rInt)))
abbrev okr_settled (K : PySem.W.Frag) : Bk × List Int → Ret := fun ⟨b, cells⟩ => .lst ((settledL b.size (clr b.frame (sset cells)).R).map rInt)
theorem ok_settled (T : Txt K mg cs) : Cal P w K mg base 6 "settled" (sp_settled K cs) := by
  refine cal_okX T.d_settled sc_settled (fun g => rfl) (fun _ _ _ _ _ _ us hl => match us, hl with | [_, _], _ => rfl) ?_
  rintro X rfl rfl rfl rfl rfl B Bf ⟨b, cells⟩ F0 H0 D E tk hp R hnx
  by_cases hz1 : (badC b.size cells).isSome = true
  · refine go_setF B (exf_ix (ex_callF B tk (ok_cleared_at T) (by decide) (_, _) ?c_cleared_at_1 (if_pos hz1) (da_cons (de_var B (i := 0) rfl rfl (.inl rfl)) (da_cons (de_var B (i := 1) rfl rfl (.inl rfl)) da_nil)) rfl)) (i := 2) rfl (.inr ⟨rfl, Bf _⟩) (fun F H σ en H1 d s1 n1 z1 => R.erF (C := cs.NoCell) (fs := [("cell", .int ((badC b.size cells).getD 0))]) ?re2 H1 d (en.gr.h.trans s1) (en.gr.h.free n1) z1)
    (case c_cleared_at_1 => exact ⟨hp.1, hp.2.1⟩)
    (case re2 => exact if_pos hz1)
  refine go_set B (i := 2) (de_ixT rfl (CA.tup (ca_callO (okr_cleared_at X.K) B (ok_cleared_at T) (by decide) (_, _) ?c_cleared_at_3 (if_neg hz1) (da_cons (de_var B (i := 0) rfl rfl (.inl rfl)) (da_cons (de_var B (i := 1) rfl rfl (.inl rfl)) da_nil)) rfl)) de_int) rfl (.inr ⟨rfl, Bf _⟩) ?go_1
  (case c_cleared_at_3 => exact ⟨hp.1, hp.2.1⟩)
  refine go_retL (R.rt (ret := .lst ((settledL b.size (clr b.frame (sset cells)).R).map rInt)) ?ro4) (DL.to (l' := List.map rInt (settledL b.size (clr b.frame (sset cells)).R)) (dl_lc B [("cell", 3)] (sr_range1 B T.b_range (de_bkS T.i_Book.o (de_var B (i := 0) rfl rfl (.inl rfl))) rfl ?r5 ?r6) (blkOk_by (by decide +kernel)) _ _ (fun i : Nat => rInt ((i : Nat) : Int)) ?sz8 (by decide) (fun _ _ _ _ _ B i hi => (dg_name B (i := 3) rfl (.inl rfl))) (fun _ _ _ _ _ B i hi => (dts_one (dt_val (CA.val (ca_call B (ok_is_zero_at T) (by decide) (_, _) ?c_is_zero_at_7 (da_cons (de_var B (i := 2) rfl rfl (.inr (.inl rfl))) (da_cons (de_var B (i := 3) rfl rfl (.inl rfl)) da_nil)) rfl))))) (fun _ _ _ _ _ B i hi hb => (de_var B (i := 3) rfl rfl (.inl rfl)))) ?cl9) ?rs_2
  (case ro4 => exact if_neg hz1)
  (case r5 => have := hp.2.2; omega)
  (case r6 => have := hp.2.2; omega)
  (case c_is_zero_at_7 => exact za_ok (hp.2.1 hz1) (by omega))
  (case sz8 => have := hp.2.2; exact Nat.lt_of_le_of_lt (show _ ≤ 1000 by simp; omega) (by decide))
  (case cl9 => exact settled_lc)
  (case rs_2 => rfl)
theorem sc_settling_rule : FnScope ["book", "cells", "cell", "kept", "leads", "rest", "free", "lead"] ["book", "cells", "cell"] (defScope s_settling_rule) := ⟨rfl, rfl, rfl, by decide +kernel, rfl, by decide +kernel, by decide +kernel⟩
def sp_settling_rule (K : PySem.W.Frag) (cs : Cs) : Sp := PmX (ι := Bk × List Int × Int) (fun ⟨b, cells, c⟩ => (cells.length < 63 ∧ (¬ (badC b.size cells).isSome = true → ClrOk b.size b.frame (sset cells))) ∧ RuleOk b cells) (fun ⟨b, cells, c⟩ => [rBook K cs.Book b, rLst K (cells.map rInt), rInt c]) (fun ⟨b, cells, c⟩ => if (badC b.size cells).isSome = true then .errF cs.NoCell [("cell", .int ((badC b.size cells).getD 0))] else if ¬ (0 ≤ c ∧ c < b.size) then .errF cs.NoCell [("cell", .int c)] else .ok (.val (rOp (fun l => rLst K (List.map (rP K rInt (rNum K)) l)) (ruleO b cells c))))
abbrev okr_settling_rule (K : PySem.W.Frag) : Bk × List Int × Int → Ret := fun ⟨b, cells, c⟩ => .val (rOp (fun l => rLst K (List.map (rP K rInt (rNum K)) l)) (ruleO b cells c))
theorem ok_settling_rule (T : Txt K mg cs) : Cal P w K mg base 6 "settling_rule" (sp_settling_rule K cs) := by
  refine cal_okX T.d_settling_rule sc_settling_rule (fun g => rfl) (fun _ _ _ _ _ _ us hl => match us, hl with | [_, _, _], _ => rfl) ?_
  rintro X rfl rfl rfl rfl rfl B Bf ⟨b, cells, c⟩ F0 H0 D E tk hp R hnx
  refine @go_nf _ _ _ _ _ _ [_, _, _, _, _, _, _, _] rfl ?go_1
  by_cases hz1 : (badC b.size cells).isSome = true
  · refine go_asgF (ex_callF B tk (ok_cleared_at T) (by decide) (_, _) ?c_cleared_at_1 (if_pos hz1) (da_cons (de_var B (i := 0) rfl rfl (.inl rfl)) (da_cons (de_var B (i := 1) rfl rfl (.inl rfl)) da_nil)) rfl) pg_never (fun F H σ en H1 d s1 n1 z1 => R.erF (C := cs.NoCell) (fs := [("cell", .int ((badC b.size cells).getD 0))]) ?re2 H1 d (en.gr.h.trans s1) (en.gr.h.free n1) z1)
    (case c_cleared_at_1 => exact hp.1)
    (case re2 => first | exact if_pos hz1 | exact (if_neg hz1).trans (if_pos hz2))
  refine go_asg (CA.tup (ca_callO (okr_cleared_at X.K) B (ok_cleared_at T) (by decide) (_, _) ?c_cleared_at_3 (if_neg hz1) (da_cons (de_var B (i := 0) rfl rfl (.inl rfl)) (da_cons (de_var B (i := 1) rfl rfl (.inl rfl)) da_nil)) rfl)) (dg_tup B (dgs_cons (dg_name B (i := 3) rfl (.inl rfl)) (dgs_cons (dg_name B (i := 4) rfl (.inl rfl)) (dgs_cons (dg_name B (i := 5) rfl (.inl rfl)) dgs_nil)))) ?go_2
  (case c_cleared_at_3 => exact hp.1)
  refine @go_nf _ _ _ _ _ _ [_, _, _, _, _, _, _, _] rfl ?go_3
  by_cases hz2 : ¬ (0 ≤ c ∧ c < (b.size : Int))
  · refine go_exprF (ex_callF B tk (ok_check_cell T) (by decide) (_, _) trivial (if_pos hz2) (da_cons (de_var B (i := 0) rfl rfl (.inl rfl)) (da_cons (de_var B (i := 2) rfl rfl (.inr (.inl rfl))) da_nil)) rfl) (fun F H σ en H1 d s1 n1 z1 => R.erF (C := cs.NoCell) (fs := [("cell", .int c)]) ?re4 H1 d (en.gr.h.trans s1) (en.gr.h.free n1) z1)
    (case re4 => first | exact if_pos hz1 | exact (if_neg hz1).trans (if_pos hz2))
  refine go_expr (CA.val (ca_callO (okr_check_cell X.K) B (ok_check_cell T) (by decide) (_, _) trivial (if_neg hz2) (da_cons (de_var B (i := 0) rfl rfl (.inl rfl)) (da_cons (de_var B (i := 2) rfl rfl (.inr (.inl rfl))) da_nil)) rfl)) ?go_4
  refine go_if (dt_not (dt_val (CA.val (ca_call B (ok_is_zero_at T) (by decide) (_, _) ?c_is_zero_at_5 (da_cons (de_var B (i := 5) rfl rfl (.inl rfl)) (da_cons (de_var B (i := 2) rfl rfl (.inr (.inl rfl))) da_nil)) rfl)))) (fun hc => ?gt_5) (fun hc => ?gf_6)
  (case c_is_zero_at_5 => exact za_ok (hp.1.2 hz1) (Classical.not_not.mp hz2))
  case gt_5 =>
    have hzr := hc
    refine go_ret (R.rt (ret := .val (rOp (fun l => rLst X.K (List.map (rP X.K rInt (rNum X.K)) l)) (ruleO b cells c))) ?ro6) (de_oN (R := (fun l => rLst X.K (List.map (rP X.K rInt (rNum X.K)) l))) de_non) ?rs_7
    (case ro6 => exact (if_neg hz1).trans (if_neg hz2))
    (case rs_7 => exact Sub.of (congrArg (rOp _) (ruleO_n hzr).symm))
  case gf_6 =>
    have hzr := nn_f hc
    refine go_then ?go_8
    refine go_ret (R.rt (ret := .val (rOp (fun l => rLst X.K (List.map (rP X.K rInt (rNum X.K)) l)) (ruleO b cells c))) ?ro7) (de_oS (R := (fun l => rLst X.K (List.map (rP X.K rInt (rNum X.K)) l))) (DL.froz (DL.to (l' := List.map (rP X.K rInt (rNum X.K)) (ruleL (clr b.frame (sset cells)).K (clr b.frame (sset cells)).L c.toNat)) (dl_lc B [("free", 6), ("lead", 7)] (sr_zipM (R := rInt) (R2 := (fun l => rSeq X.K (List.map rInt l))) (0 : Int) [] B T.b_zip (de_var B (i := 3) rfl rfl (.inl rfl)) (de_var B (i := 4) rfl rfl (.inl rfl)) rfl) (blkOk_by (by decide +kernel)) _ _ (fun i : Nat => rP X.K rInt (rNum X.K) ((clr b.frame (sset cells)).K.getD i 0, ((((clr b.frame (sset cells)).L.getD i []).getD c.toNat 0 : Int) : Rat) / ((((clr b.frame (sset cells)).L.getD i []).getD ((clr b.frame (sset cells)).K.getD i 0).toNat 0 : Int) : Rat))) ?sz16 (by decide) (fun _ _ _ _ _ B i hi => (dg_tup B (dgs_cons (dg_name B (i := 6) rfl (.inl rfl)) (dgs_cons (dg_name B (i := 7) rfl (.inl rfl)) dgs_nil)))) (fun _ _ _ _ _ B i hi => (dts_one (dt_neI (de_ixAM (R := rInt) (0 : Int) ?xl8 ?xh9 (de_var B (i := 7) rfl rfl (.inl rfl)) (de_var B (i := 2) rfl rfl (.inr (.inl rfl)))) de_int))) (fun _ _ _ _ _ B i hi hb => (de_tup (da_cons (de_var B (i := 6) rfl rfl (.inl rfl)) (da_cons (CA.val (ca_callO (okr_ratio X.K) B (ok_ratio T) (by decide) (_, _) ?c_ratio_14 ?o_ratio_15 (da_cons (de_ixAM (R := rInt) (0 : Int) ?xl10 ?xh11 (de_var B (i := 7) rfl rfl (.inl rfl)) (de_var B (i := 2) rfl rfl (.inr (.inl rfl)))) (da_cons (de_ixAM (R := rInt) (0 : Int) ?xl12 ?xh13 (de_var B (i := 7) rfl rfl (.inl rfl)) (de_var B (i := 6) rfl rfl (.inl rfl))) da_nil)) rfl)) da_nil)) (show (2 : Nat) ≤ sizeLine by decide)))) ?cl17))) ?rs_9
    (case ro7 => exact (if_neg hz1).trans (if_neg hz2))
    (case xl8 => first | exact (Classical.not_not.mp hz2).1 | exact rl_k0 (hp.1.2 hz1) hi)
    (case xh9 => first | exact rl_c (hp.1.2 hz1) (Classical.not_not.mp hz2) hi | exact rl_k (hp.1.2 hz1) hi)
    (case xl10 => first | exact (Classical.not_not.mp hz2).1 | exact rl_k0 (hp.1.2 hz1) hi)
    (case xh11 => first | exact rl_c (hp.1.2 hz1) (Classical.not_not.mp hz2) hi | exact rl_k (hp.1.2 hz1) hi)
    (case xl12 => first | exact (Classical.not_not.mp hz2).1 | exact rl_k0 (hp.1.2 hz1) hi)
    (case xh13 => first | exact rl_c (hp.1.2 hz1) (Classical.not_not.mp hz2) hi | exact rl_k (hp.1.2 hz1) hi)
    (case c_ratio_14 => exact rl_lg (hp.1.2 hz1) hi)
    (case o_ratio_15 => exact if_neg (hp.2 hz1 _ hi))
    (case sz16 => exact Nat.lt_of_le_of_lt (rl_len (hp.1.2 hz1)) (by decide))
    (case cl17 => exact rl_lc)
    (case rs_9 => exact Sub.of (congrArg (rOp _) (ruleO_s hzr).symm))
theorem sc_Book : FnScope ["self", "names", "rows", "row"] ["self", "names", "rows"] (defScope s_Book) := ⟨rfl, rfl, rfl, by decide +kernel, rfl, by decide +kernel, by decide +kernel⟩
def sp_Book (K : PySem.W.Frag) (cs : Cs) : Sp := PmI (ι := List Str × List (List Rat)) cs.Book (fun ⟨names, rows⟩ => BookOk names rows) (fun ⟨names, rows⟩ => [rLst K (names.map rStr), rLst K (rows.map fun l => rLst K (l.map (rNum K)))]) ["names", "size", "frame"] (fun ⟨names, rows⟩ => if ¬ (1 ≤ names.length ∧ names.length ≤ 16) then .err cs.BadSize else if namesOk names = false then .err cs.BadName else if lensOk names.length rows = false then .err cs.BadSize else .ok [rTup K (names.map rStr), rInt ((names.length : Nat) : Int), rTup K ((frameQ rows names.length).map (rRowT K))])
abbrev okr_Book (K : PySem.W.Frag) : List Str × List (List Rat) → List Rep := fun ⟨names, rows⟩ => [rTup K (names.map rStr), rInt ((names.length : Nat) : Int), rTup K ((frameQ rows names.length).map (rRowT K))]
theorem ok_Book (T : Txt K mg cs) : CalI P w K mg base 6 "Book" cs.Book (sp_Book K cs) := by
  refine cal_okI T.i_Book sc_Book (fun g => rfl) (fun _ _ _ _ _ _ us hl => match us, hl with | [_, _, _], _ => rfl) ?_
  rintro X rfl rfl rfl rfl rfl B Bf ⟨names, rows⟩ F0 H0 H1 pa dx QE E tk hp nF n0 nd hne eH up R
  refine go_if (dt_not (dt_chain op_le b2_I0 op_le b2_I0 de_int (de_lenM B T.b_len (de_var B (i := 1) rfl rfl (.inl rfl)) rfl) (fun hch => (de_glob B (v := .int 16) T.c_MOST_CELLS rfl)))) (fun hc => ?gt_1) (fun hc => ?gf_2)
  case gt_1 =>
    replace hc := bk_f hc
    refine go_raise B tk T.x_BadSize rfl (fun F H σ en => PrI.er (D0 := cs.BadSize) R ?re1 H (up.trans en.gr.h))
    (case re1 => first | exact if_pos hc | exact (if_neg (fun z => z hs)).trans (if_pos hz1) | exact (if_neg (fun z => z hs)).trans ((if_neg hz1).trans (if_pos (lens_bad hi hr))))
  case gf_2 =>
    have hs := bk_t hc
    refine go_then ?go_3
    by_cases hz1 : namesOk names = false
    · refine go_exprE (ex_call B tk (ok_check_names T) (by decide) _ ?c_check_names_2 (if_pos hz1) (da_cons (de_var B (i := 1) rfl rfl (.inl rfl)) da_nil) rfl) (fun F H σ en H2 s1 => PrI.er (D0 := cs.BadName) R ?re3 H2 ((up.trans en.gr.h).trans s1))
      (case c_check_names_2 => exact ⟨hp.n1, hp.nl⟩)
      (case re3 => first | exact if_pos hc | exact (if_neg (fun z => z hs)).trans (if_pos hz1) | exact (if_neg (fun z => z hs)).trans ((if_neg hz1).trans (if_pos (lens_bad hi hr))))
    refine go_expr (CA.val (ca_callO (okr_check_names X.K) B (ok_check_names T) (by decide) _ ?c_check_names_4 (if_neg hz1) (da_cons (de_var B (i := 1) rfl rfl (.inl rfl)) da_nil) rfl)) ?go_4
    (case c_check_names_4 => exact ⟨hp.n1, hp.nl⟩)
    refine go_forS B (fun i => [(3, .any)]) (fun i => ∀ j, j < i → (rows.getD j []).length = names.length) (sr_listM (R := (fun l => rLst X.K (List.map (rNum X.K) l))) [] (de_var B (i := 2) rfl rfl (.inl rfl))) _ (fun i hi => (dg_name B (i := 3) rfl (.inl rfl))) ?h0_5 ?j0_6 (fun F1 u i hi hj => ?gb_7) (fun hj => ?ge_8)
    (case h0_5 => refine .same ?_; refine .same ?_; refine .same ?_; refine .any ?_; exact .nil)
    (case j0_6 => exact fun j hj => absurd hj (Nat.not_lt_zero j))
    case gb_7 =>
      refine go_if (dt_neI (de_lenM B T.b_len (de_var B (i := 3) rfl rfl (.inl rfl)) rfl) (de_lenM B T.b_len (de_var B (i := 1) rfl rfl (.inl rfl)) rfl)) (fun hc => ?gt_9) (fun hc => ?gf_10)
      case gt_9 =>
        have hr : ¬ (rows.getD i []).length = names.length := fun z => by rw [z] at hc; simp at hc
        refine go_raise B tk T.x_BadSize rfl (fun F H σ en => PrI.er (D0 := cs.BadSize) R ?re5 H (up.trans en.gr.h))
        (case re5 => first | exact if_pos hc | exact (if_neg (fun z => z hs)).trans (if_pos hz1) | exact (if_neg (fun z => z hs)).trans ((if_neg hz1).trans (if_pos (lens_bad hi hr))))
      case gf_10 =>
        have hr : (rows.getD i []).length = names.length := by have := nd_f hc; omega
        refine go_then ?go_11
        refine go_turnS ?jn_12 ?ln_13
        (case jn_12 => exact lens_more hj hr)
        (case ln_13 => refine .same ?_; refine .same ?_; refine .same ?_; refine .any ?_; exact .nil)
    case ge_8 =>
      refine go_fields n0 nd nF eH hne ?go_14
      refine fi_set B T.i_Book.o n0 rfl (de_tupS T.b_tuple B (DE.sub (de_var B (i := 1) rfl rfl (.inl rfl)) sub_lseq) rfl) (i := 0) rfl rfl (.inl rfl) ?go_15
      refine fi_set B T.i_Book.o n0 rfl (de_lenM B T.b_len (de_var B (i := 1) rfl rfl (.inl rfl)) rfl) (i := 0) rfl rfl (.inl rfl) ?go_16
      refine fi_set B T.i_Book.o n0 rfl (CA.val (ca_call B (ok_frame_of T) (by decide) (_, _) ?c_frame_of_6 (da_cons (de_var B (i := 2) rfl rfl (.inl rfl)) (da_cons (de_lenM B T.b_len (de_var B (i := 1) rfl rfl (.inl rfl)) rfl) da_nil)) rfl)) (i := 0) rfl rfl (.inl rfl) ?go_17
      (case c_frame_of_6 => exact hp.fr hs (lens_ok hj))
      refine fi_end (fun F H σ vs g nF hp hr => ?fe)
      (case fe => exact (PrI.ok R ((if_neg (fun z => z hs)).trans ((if_neg hz1).trans (if_neg (by rw [lens_ok hj]; exact Bool.noConfusion))))) F H vs g nF hp hr)
theorem sc_rank : FnScope ["book", "cells"] ["book", "cells"] (defScope s_rank) := ⟨rfl, rfl, rfl, by decide +kernel, rfl, by decide +kernel, by decide +kernel⟩
def sp_rank (K : PySem.W.Frag) (cs : Cs) : Sp := PmX (ι := Bk × List Int) (fun ⟨b, cells⟩ => cells.length < 63 ∧ (¬ (badC b.size cells).isSome = true → ClrOk b.size b.frame (sset cells))) (fun ⟨b, cells⟩ => [rBook K cs.Book b, rLst K (cells.map rInt)]) (fun ⟨b, cells⟩ => if (badC b.size cells).isSome = true then .errF cs.NoCell [("cell", .int ((badC b.size cells).getD 0))] else .ok (.val (rInt (((clr b.frame (sset cells)).K.length : Nat) : Int))))
abbrev okr_rank (K : PySem.W.Frag) : Bk × List Int → Ret := fun ⟨b, cells⟩ => .val (rInt (((clr b.frame (sset cells)).K.length : Nat) : Int))
theorem ok_rank (T : Txt K mg cs) : Cal P w K mg base 7 "rank" (sp_rank K cs) := by
  refine cal_okX T.d_rank sc_rank (fun g => rfl) (fun _ _ _ _ _ _ us hl => match us, hl with | [_, _], _ => rfl) ?_
  rintro X rfl rfl rfl rfl rfl B Bf ⟨b, cells⟩ F0 H0 D E tk hp R hnx
  by_cases hz1 : (badC b.size cells).isSome = true
  · refine go_retF (exf_blt B call_len_seq T.b_len PySem.boot_len (ex_callF B tk (ok_first_free T) (by decide) (_, _) ?c_first_free_1 (if_pos hz1) (da_cons (de_var B (i := 0) rfl rfl (.inl rfl)) (da_cons (de_var B (i := 1) rfl rfl (.inl rfl)) da_nil)) rfl) rfl) (fun F H σ en H1 d s1 n1 z1 => R.erF (C := cs.NoCell) (fs := [("cell", .int ((badC b.size cells).getD 0))]) ?re2 H1 d (en.gr.h.trans s1) (en.gr.h.free n1) z1)
    (case c_first_free_1 => exact hp)
    (case re2 => exact if_pos hz1)
  refine go_ret (R.rt (ret := .val (rInt (((clr b.frame (sset cells)).K.length : Nat) : Int))) ?ro3) (de_lenM B T.b_len (DL.froz (CA.lst (ca_callO (okr_first_free X.K) B (ok_first_free T) (by decide) (_, _) ?c_first_free_4 (if_neg hz1) (da_cons (de_var B (i := 0) rfl rfl (.inl rfl)) (da_cons (de_var B (i := 1) rfl rfl (.inl rfl)) da_nil)) rfl))) rfl) ?rs_1
  (case ro3 => exact if_neg hz1)
  (case c_first_free_4 => exact hp)
  (case rs_1 => exact Sub.rfl)
theorem sc_Book_free : FnScope ["cls", "names", "cell"] ["cls", "names"] (defScope s_Book_free) := ⟨rfl, rfl, rfl, by decide +kernel, rfl, by decide +kernel, by decide +kernel⟩
def sp_Book_free (K : PySem.W.Frag) (cs : Cs) : Sp := Pm (ι := List Str) (fun names => BookOk names ((freeZ names.length).map toQ) ∧ FreeOk names) (fun names => [rC (.ref cs.Book), rLst K (names.map rStr)]) (fun names => .val (rBook K cs.Book ⟨names, frameQ ((freeZ names.length).map toQ) names.length⟩))
theorem ok_Book_free (T : Txt K mg cs) : CalC P w K mg base 8 cs.Book "free" (sp_Book_free K cs) := by
  refine cal_okC T.cm_Book_free sc_Book_free (fun g => rfl) (fun _ _ _ _ _ _ us hl => match us, hl with | [_, _], _ => rfl) ?_
  rintro X rfl rfl rfl rfl rfl B Bf names F0 H0 D hp R hnx
  refine go_ret R (DE.to (r' := rBook X.K cs.Book ⟨_, frameQ _ _⟩) (de_makeL (okr_Book X.K) B (ok_Book T) (by decide) (_, _) ?c_Book_6 ?o_Book_7 rfl (i := 0) rfl rfl (.inl rfl) (da_cons (de_var B (i := 1) rfl rfl (.inr (.inl rfl))) (da_cons (de_ll2n (DL.froz (DL.to (l' := List.map (fun l => rLst X.K (List.map rInt l)) (freeZ names.length)) (dl_lc B [("cell", 2)] (sr_range1 B T.b_range (de_lenM B T.b_len (de_var B (i := 1) rfl rfl (.inr (.inl rfl))) rfl) rfl ?r1 ?r2) (blkOk_by (by decide +kernel)) _ (fun _ => true) (fun i : Nat => rLst X.K ((unitR names.length i).map rInt)) ?sz4 (by decide) (fun _ _ _ _ _ B i hi => (dg_name B (i := 2) rfl (.inl rfl))) (fun _ _ _ _ _ B i hi => dts_nil) (fun _ _ _ _ _ B i hi hb => (DL.froz (CA.lst (ca_call B (ok_unit T) (by decide) (_, _) ?c_unit_3 (da_cons (de_lenM B T.b_len (de_var B (i := 1) rfl rfl (.inr (.inl rfl))) rfl) (da_cons (de_var B (i := 2) rfl rfl (.inl rfl)) da_nil)) rfl))))) ?cl5))) da_nil))) rfl) ?rs_1
  (case r1 => have := hp.1.n1; omega)
  (case r2 => have := hp.1.n1; omega)
  (case c_unit_3 => have := hp.1.n1; exact ⟨by omega, by omega⟩)
  (case sz4 => have := hp.1.n1; exact Nat.lt_of_le_of_lt (show _ ≤ 1000 by simp; omega) (by decide))
  (case cl5 => exact free_lc)
  (case c_Book_6 => exact hp.1)
  (case o_Book_7 => exact fb_ok hp.2)
  (case rs_1 => exact Sub.rfl)
end K04

set_option Elab.async false
set_option linter.all false
set_option maxRecDepth 100000
set_option maxHeartbeats 4000000
namespace K04
open PySem PySem.Spec PyProof.Rows L2 DL
variable {P : Program} {w : World} {K : PySem.W.Frag} {mg : Str → Option Value} {base : Heap} {cs : Cs}
theorem sc__law_cell : FnScope ["_law_script", "_law_k"] ["_law_script", "_law_k"] (defScope s__law_cell) := ⟨rfl, rfl, rfl, by decide +kernel, rfl, by decide +kernel, by decide +kernel⟩
def sp__law_cell (K : PySem.W.Frag) (cs : Cs) : Sp := Pm (ι := List Int × Nat) (fun ⟨ns, k⟩ => True) (fun ⟨ns, k⟩ => [rLst K (ns.map rInt), rInt (k : Int)]) (fun ⟨ns, k⟩ => .val (rInt (cellv ns k)))
theorem ok__law_cell (T : Txt K mg cs) : Cal P w K mg base 1 "_law_cell" (sp__law_cell K cs) := by
  refine cal_ok T.d__law_cell sc__law_cell (fun g => rfl) (fun _ _ _ _ _ _ us hl => match us, hl with | [_, _], _ => rfl) ?_
  rintro X rfl rfl rfl rfl rfl B Bf ⟨ns, k⟩ F0 H0 D hp R hnx
  refine go_if (dt_lt (de_var B (i := 1) rfl rfl (.inl rfl)) (de_lenM B T.b_len (de_var B (i := 0) rfl rfl (.inl rfl)) rfl)) (fun hc => ?gt_1) (fun hc => ?gf_2)
  case gt_1 =>
    replace hc := of_decide_eq_true hc
    refine go_ret R (de_ixM (R := rInt) (0 : Int) ?xl1 ?xh2 (de_var B (i := 0) rfl rfl (.inl rfl)) (de_var B (i := 1) rfl rfl (.inl rfl))) ?rs_3
    (case xl1 => omega)
    (case xh2 => first | assumption | simpa using hc)
    (case rs_3 => exact Sub.of (congrArg rInt (cv_a hc)))
  case gf_2 =>
    replace hc := of_decide_eq_false hc; have hk := hc
    refine go_then ?go_4
    refine go_if (dt_gt (de_lenM B T.b_len (de_var B (i := 0) rfl rfl (.inl rfl)) rfl) de_int) (fun hc => ?gt_5) (fun hc => ?gf_6)
    case gt_5 =>
      replace hc := of_decide_eq_true hc
      refine go_ret R (de_mod ?z7 (de_toInt B T.b_int (de_add (de_mulC ?mc5 (de_ixM (R := rInt) (0 : Int) ?xl3 ?xh4 (de_var B (i := 0) rfl rfl (.inl rfl)) de_int) de_int) (de_mulC ?md6 de_int (de_var B (i := 1) rfl rfl (.inl rfl)))) rfl) de_int) ?rs_7
      (case xl3 => omega)
      (case xh4 => first | assumption | simpa using hc)
      (case mc5 => exact .inr (by decide))
      (case md6 => exact .inl (by decide))
      (case z7 => decide)
      (case rs_7 => exact Sub.of (congrArg rInt (cv_b hk hc)))
    case gf_6 =>
      replace hc := of_decide_eq_false hc
      refine go_then ?go_8
      refine go_ret R (de_var B (i := 1) rfl rfl (.inl rfl)) ?rs_9
      (case rs_9 => exact Sub.of (congrArg rInt (cv_c hk hc)))
theorem sc__law_gcd : FnScope ["_law_one", "_law_other", "_law_k"] ["_law_one", "_law_other"] (defScope s__law_gcd) := ⟨rfl, rfl, rfl, by decide +kernel, rfl, by decide +kernel, by decide +kernel⟩
def sp__law_gcd (K : PySem.W.Frag) (cs : Cs) : Sp := Pm (ι := Int × Int) (fun ⟨s, t⟩ => Lg s < 990 ∧ Lg t < 990) (fun ⟨s, t⟩ => [rInt s, rInt t]) (fun ⟨s, t⟩ => .val (rInt (Int.gcd s t : Nat)))
theorem ok__law_gcd (T : Txt K mg cs) : Cal P w K mg base 1 "_law_gcd" (sp__law_gcd K cs) := by
  refine cal_ok T.d__law_gcd sc__law_gcd (fun g => rfl) (fun _ _ _ _ _ _ us hl => match us, hl with | [_, _], _ => rfl) ?_
  rintro X rfl rfl rfl rfl rfl B Bf ⟨s, t⟩ F0 H0 D hp R hnx
  refine go_set B (i := 0) (de_abs B T.b_abs (de_var B (i := 0) rfl rfl (.inl rfl)) rfl) rfl (.inl rfl) ?go_1
  refine go_set B (i := 1) (de_abs B T.b_abs (de_var B (i := 1) rfl rfl (.inl rfl)) rfl) rfl (.inl rfl) ?go_2
  refine go_forS B (fun i => [(0, .im (rInt (eu i ((s.natAbs : Int), (t.natAbs : Int))).1)), (1, .im (rInt (eu i ((s.natAbs : Int), (t.natAbs : Int))).2)), (2, .any)]) (fun i => EuJ (s.natAbs : Int) (t.natAbs : Int) i) (sr_range1 B T.b_range de_int rfl ?r1 ?r2) _ (fun i hi => (dg_name B (i := 2) rfl (.inl rfl))) ?h0_3 ?j0_4 (fun F1 u i hi hj => ?gb_5) (fun hj => ?ge_6)
  (case r1 => decide)
  (case r2 => decide)
  (case h0_3 => refine .im ?h ?_; (case h => exact Sub.rfl); refine .im ?h ?_; (case h => exact Sub.rfl); refine .any ?_; exact .nil)
  (case j0_4 => exact euJ0 (by omega) (by omega))
  case gb_5 =>
    refine go_if (dt_eqI (de_var B (i := 1) rfl rfl (.inl rfl)) de_int) (fun hc => ?gt_7) (fun hc => ?gf_8)
    case gt_7 =>
      replace hc := of_decide_eq_true hc
      refine go_brk u ?gk_9
      case gk_9 =>
        refine go_ret R (de_var B (i := 0) rfl rfl (.inl rfl)) ?rs_10
        (case rs_10 => first | exact Sub.of (by rw [eu_gcd hj hc, gcd_abs]) | exact Sub.of (by rw [eu_gcd hj (eu_end hj (by omega) (by omega) (lg_abs hp.1) (lg_abs hp.2)), gcd_abs]))
    case gf_8 =>
      replace hc := of_decide_eq_false hc
      refine go_then ?go_11
      refine go_par B (i := 0) (j := 1) (de_var B (i := 1) rfl rfl (.inl rfl)) (de_mod ?z3 (de_toInt B T.b_int (de_var B (i := 0) rfl rfl (.inl rfl)) rfl) (de_var B (i := 1) rfl rfl (.inl rfl))) rfl rfl (by decide) rfl rfl ?go_12 (fun env h => by cases env; subst h; with_unfolding_all rfl)
      (case z3 => exact hc)
      refine go_turnS ?jn_13 ?ln_14
      (case jn_13 => exact euJ_step hj hc)
      (case ln_14 => refine .im ?h ?_; (case h => exact Sub.rfl); refine .im ?h ?_; (case h => exact Sub.rfl); refine .any ?_; exact .nil)
  case ge_6 =>
    refine go_ret R (de_var B (i := 0) rfl rfl (.inl rfl)) ?rs_15
    (case rs_15 => first | exact Sub.of (by rw [eu_gcd hj hc, gcd_abs]) | exact Sub.of (by rw [eu_gcd hj (eu_end hj (by omega) (by omega) (lg_abs hp.1) (lg_abs hp.2)), gcd_abs]))
theorem sc__law_is_int : FnScope ["_law_x"] ["_law_x"] (defScope s__law_is_int) := ⟨rfl, rfl, rfl, by decide +kernel, rfl, by decide +kernel, by decide +kernel⟩
def sp__law_is_int (K : PySem.W.Frag) (cs : Cs) : Sp := Pm (ι := Rat) (fun q => True) (fun q => [rNum K q]) (fun q => .val (rBl (decide (q.den = 1))))
theorem ok__law_is_int (T : Txt K mg cs) : Cal P w K mg base 1 "_law_is_int" (sp__law_is_int K cs) := by
  refine cal_ok T.d__law_is_int sc__law_is_int (fun g => rfl) (fun _ _ _ _ _ _ us hl => match us, hl with | [_], _ => rfl) ?_
  rintro X rfl rfl rfl rfl rfl B Bf q F0 H0 D hp R hnx
  refine go_ret R (de_and (de_isi (T := "int") B T.b_isinstance rty_num kit_numI (de_var B (i := 0) rfl rfl (.inl rfl)) (de_ty B T.b_int (by decide +kernel) rfl) rfl) (fun hb1 => (de_one (de_not (de_isi (T := "bool") B T.b_isinstance rty_num kit_numB (de_var B (i := 0) rfl rfl (.inl rfl)) (de_ty B T.b_bool (by decide +kernel) rfl) rfl))))) ?rs_1
  (case rs_1 => exact Sub.of (by simp))
theorem sc__law_top : FnScope ["_law_x"] ["_law_x"] (defScope s__law_top) := ⟨rfl, rfl, rfl, by decide +kernel, rfl, by decide +kernel, by decide +kernel⟩
def sp__law_top (K : PySem.W.Frag) (cs : Cs) : Sp := Pm (ι := Rat) (fun q => True) (fun q => [rNum K q]) (fun q => .val (rInt q.num))
theorem ok__law_top (T : Txt K mg cs) : Cal P w K mg base 1 "_law_top" (sp__law_top K cs) := by
  refine cal_ok T.d__law_top sc__law_top (fun g => rfl) (fun _ _ _ _ _ _ us hl => match us, hl with | [_], _ => rfl) ?_
  rintro X rfl rfl rfl rfl rfl B Bf q F0 H0 D hp R hnx
  refine go_if (dt_val (de_isi (T := "tuple") B T.b_isinstance rty_num kit_numT (de_var B (i := 0) rfl rfl (.inl rfl)) (de_ty B T.b_tuple (by decide +kernel) rfl) rfl)) (fun hc => ?gt_1) (fun hc => ?gf_2)
  case gt_1 =>
    try (simp only [decide_eq_true_eq, decide_eq_false_iff_not, Bool.not_eq_true', Bool.not_eq_false', Bool.not_eq_true, Bool.not_eq_false] at hc)
    refine go_ret R (de_num0 ?n1 (de_var B (i := 0) rfl rfl (.inl rfl))) ?rs_3
    (case n1 => simpa using hc)
    (case rs_3 => exact Sub.rfl)
  case gf_2 =>
    try (simp only [decide_eq_true_eq, decide_eq_false_iff_not, Bool.not_eq_true', Bool.not_eq_false', Bool.not_eq_true, Bool.not_eq_false] at hc)
    refine go_then ?go_4
    refine go_ret R (de_n2i ?n2 (de_var B (i := 0) rfl rfl (.inl rfl))) ?rs_5
    (case n2 => simpa using hc)
    (case rs_5 => exact Sub.rfl)
theorem sc__law_bottom : FnScope ["_law_x"] ["_law_x"] (defScope s__law_bottom) := ⟨rfl, rfl, rfl, by decide +kernel, rfl, by decide +kernel, by decide +kernel⟩
def sp__law_bottom (K : PySem.W.Frag) (cs : Cs) : Sp := Pm (ι := Rat) (fun q => True) (fun q => [rNum K q]) (fun q => .val (rInt (q.den : Int)))
theorem ok__law_bottom (T : Txt K mg cs) : Cal P w K mg base 1 "_law_bottom" (sp__law_bottom K cs) := by
  refine cal_ok T.d__law_bottom sc__law_bottom (fun g => rfl) (fun _ _ _ _ _ _ us hl => match us, hl with | [_], _ => rfl) ?_
  rintro X rfl rfl rfl rfl rfl B Bf q F0 H0 D hp R hnx
  refine go_if (dt_val (de_isi (T := "tuple") B T.b_isinstance rty_num kit_numT (de_var B (i := 0) rfl rfl (.inl rfl)) (de_ty B T.b_tuple (by decide +kernel) rfl) rfl)) (fun hc => ?gt_1) (fun hc => ?gf_2)
  case gt_1 =>
    try (simp only [decide_eq_true_eq, decide_eq_false_iff_not, Bool.not_eq_true', Bool.not_eq_false', Bool.not_eq_true, Bool.not_eq_false] at hc)
    refine go_ret R (de_num1 ?n1 (de_var B (i := 0) rfl rfl (.inl rfl))) ?rs_3
    (case n1 => simpa using hc)
    (case rs_3 => exact Sub.rfl)
  case gf_2 =>
    try (simp only [decide_eq_true_eq, decide_eq_false_iff_not, Bool.not_eq_true', Bool.not_eq_false', Bool.not_eq_true, Bool.not_eq_false] at hc)
    refine go_then ?go_4
    refine go_ret R de_int ?rs_5
    (case rs_5 => exact Sub.of (congrArg rInt (by simp at hc; omega)))
theorem sc__law_entry : FnScope ["_law_numbers_here", "_law_size", "_law_many", "_law_k", "_law_j", "_law_kind", "_law_number", "_law_reach"] ["_law_numbers_here", "_law_size", "_law_many", "_law_k", "_law_j"] (defScope s__law_entry) := ⟨rfl, rfl, rfl, by decide +kernel, rfl, by decide +kernel, by decide +kernel⟩
def sp__law_entry (K : PySem.W.Frag) (cs : Cs) : Sp := Pm (ι := List Int × Nat × Nat × Nat × Nat) (fun ⟨ds, n, many, k, j⟩ => ds.length = 60 ∧ n ≤ 16 ∧ k ≤ 5 ∧ k * n + j < 58 ∧ j ≤ 16) (fun ⟨ds, n, many, k, j⟩ => [rLst K (ds.map rInt), rInt (n : Int), rInt (many : Int), rInt (k : Int), rInt (j : Int)]) (fun ⟨ds, n, many, k, j⟩ => .val (rInt (entZ ds n many k j)))
theorem ok__law_entry (T : Txt K mg cs) : Cal P w K mg base 1 "_law_entry" (sp__law_entry K cs) := by
  refine cal_ok T.d__law_entry sc__law_entry (fun g => rfl) (fun _ _ _ _ _ _ us hl => match us, hl with | [_, _, _, _, _], _ => rfl) ?_
  rintro X rfl rfl rfl rfl rfl B Bf ⟨ds, n, many, k, j⟩ F0 H0 D hp R hnx
  obtain ⟨hl, hn, hk, hj, hj2⟩ := hp
  have e1 : (2 + (k : Int) * (n : Int) + (j : Int)) = ((2 + k * n + j : Nat) : Int) := by rw [Int.natCast_add, Int.natCast_add, Int.natCast_mul]; rfl
  have e2 : (2 + (k : Int) * (n : Int) + (j : Int)).toNat = 2 + k * n + j := by rw [e1]; rfl
  have e3 : (3 + 2 * (j : Int)).toNat = 3 + 2 * j := by omega
  have e4 : (2 + 2 * (j : Int)).toNat = 2 + 2 * j := by omega
  refine @go_nf _ _ _ _ _ _ [_, _, _, _, _, _, _, _] rfl ?go_1
  refine go_set B (i := 5) (de_mod ?z3 (de_toInt B T.b_int (de_ixM (R := rInt) (0 : Int) ?xl1 ?xh2 (de_var B (i := 0) rfl rfl (.inl rfl)) de_int) rfl) de_int) rfl (.inl rfl) ?go_2
  (case xl1 => first | decide | omega | exact (fm_b _ (by decide)).1)
  (case xh2 => first | (rw [hl]; decide) | omega | exact (fm_b _ (by decide)).2)
  (case z3 => first | decide | (have := entR_b ds; unfold entR at this; omega))
  refine @go_nf _ _ _ _ _ _ [_, _, _, _, _, _, _, _] rfl ?go_3
  refine go_set B (i := 6) (de_ixM (R := rInt) (0 : Int) ?xl5 ?xh6 (de_var B (i := 0) rfl rfl (.inl rfl)) (de_add (de_add de_int (de_mulG ?m4 (de_var B (i := 3) rfl rfl (.inl rfl)) (de_var B (i := 1) rfl rfl (.inl rfl)))) (de_var B (i := 4) rfl rfl (.inl rfl)))) rfl (.inl rfl) ?go_4
  (case m4 => first | exact mul_sm (by omega) (by omega) | (have := entR_b ds; unfold entR at this; exact mul_sm (by omega) (by omega)) | (exact mul_sm (by decide) (by split <;> decide)))
  (case xl5 => first | decide | omega | exact (fm_b _ (by decide)).1)
  (case xh6 => first | (rw [hl]; decide) | omega | exact (fm_b _ (by decide)).2)
  refine @go_nf _ _ _ _ _ _ [_, _, _, _, _, _, _, _] rfl ?go_5
  refine go_if (DW.t (dw_and (dt_eqI (de_var B (i := 5) rfl rfl (.inl rfl)) de_int) (fun hb1 => (dw_and1 (dt_lt (de_var B (i := 4) rfl rfl (.inl rfl)) (de_var B (i := 2) rfl rfl (.inl rfl))))))) (fun hc => ?gt_6) (fun hc => ?gf_7)
  case gt_6 =>
    have h1 := hc
    refine go_ret R (de_intB B T.b_int (de_eqI (de_var B (i := 4) rfl rfl (.inl rfl)) (de_var B (i := 3) rfl rfl (.inl rfl))) rfl) ?rs_8
    (case rs_8 => exact Sub.of (congrArg rInt (ent_1 h1)))
  case gf_7 =>
    have h1 : ¬ _ = true := fun z => Bool.false_ne_true (hc.symm.trans z)
    refine go_then ?go_9
    refine go_if (dt_eqI (de_var B (i := 5) rfl rfl (.inl rfl)) de_int) (fun hc => ?gt_10) (fun hc => ?gf_11)
    case gt_10 =>
      have h2 := of_decide_eq_true hc
      refine go_ret R (de_sub (de_mod ?z7 (de_toInt B T.b_int (de_var B (i := 6) rfl rfl (.inl rfl)) rfl) de_int) de_int) ?rs_12
      (case z7 => first | decide | (have := entR_b ds; unfold entR at this; omega))
      (case rs_12 => rw [e2]; exact Sub.of (congrArg rInt (ent_2 h1 h2)))
    case gf_11 =>
      have h2 := of_decide_eq_false hc
      refine go_then ?go_13
      refine go_if (dt_eqI (de_var B (i := 5) rfl rfl (.inl rfl)) de_int) (fun hc => ?gt_14) (fun hc => ?gf_15)
      case gt_14 =>
        have h3 := of_decide_eq_true hc
        refine go_ret R (de_ixM (R := rInt) (0 : Int) ?xl10 ?xh11 (DL.froz (DL.to (l' := List.map rInt ([0, 1, -1, 2, 3, 6])) (dl_lst (da_cons de_int (da_cons de_int (da_cons (de_neg de_int) (da_cons de_int (da_cons de_int (da_cons de_int da_nil)))))) (show (6 : Nat) ≤ sizeLine by decide)) ?cl8)) (de_mod ?z9 (de_toInt B T.b_int (de_var B (i := 6) rfl rfl (.inl rfl)) rfl) de_int)) ?rs_16
        (case cl8 => rfl)
        (case z9 => first | decide | (have := entR_b ds; unfold entR at this; omega))
        (case xl10 => first | decide | omega | exact (fm_b _ (by decide)).1)
        (case xh11 => first | (rw [hl]; decide) | omega | exact (fm_b _ (by decide)).2)
        (case rs_16 => rw [e2]; exact Sub.of (congrArg rInt (ent_3 h1 h2 h3)))
      case gf_15 =>
        have h3 := of_decide_eq_false hc
        refine go_then ?go_17
        refine go_if (dt_eqI (de_var B (i := 5) rfl rfl (.inl rfl)) de_int) (fun hc => ?gt_18) (fun hc => ?gf_19)
        case gt_18 =>
          have h4 := of_decide_eq_true hc
          refine go_ret R (de_sub (de_intB B T.b_int (de_eqI (de_mod ?z15 (de_toInt B T.b_int (de_ixM (R := rInt) (0 : Int) ?xl13 ?xh14 (de_var B (i := 0) rfl rfl (.inl rfl)) (de_add de_int (de_mulG ?m12 de_int (de_var B (i := 4) rfl rfl (.inl rfl))))) rfl) de_int) (de_var B (i := 3) rfl rfl (.inl rfl))) rfl) (de_intB B T.b_int (de_eqI (de_mod ?z19 (de_toInt B T.b_int (de_ixM (R := rInt) (0 : Int) ?xl17 ?xh18 (de_var B (i := 0) rfl rfl (.inl rfl)) (de_add de_int (de_mulG ?m16 de_int (de_var B (i := 4) rfl rfl (.inl rfl))))) rfl) de_int) (de_var B (i := 3) rfl rfl (.inl rfl))) rfl)) ?rs_20
          (case m12 => first | exact mul_sm (by omega) (by omega) | (have := entR_b ds; unfold entR at this; exact mul_sm (by omega) (by omega)) | (exact mul_sm (by decide) (by split <;> decide)))
          (case xl13 => first | decide | omega | exact (fm_b _ (by decide)).1)
          (case xh14 => first | (rw [hl]; decide) | omega | exact (fm_b _ (by decide)).2)
          (case z15 => first | decide | (have := entR_b ds; unfold entR at this; omega))
          (case m16 => first | exact mul_sm (by omega) (by omega) | (have := entR_b ds; unfold entR at this; exact mul_sm (by omega) (by omega)) | (exact mul_sm (by decide) (by split <;> decide)))
          (case xl17 => first | decide | omega | exact (fm_b _ (by decide)).1)
          (case xh18 => first | (rw [hl]; decide) | omega | exact (fm_b _ (by decide)).2)
          (case z19 => first | decide | (have := entR_b ds; unfold entR at this; omega))
          (case rs_20 => rw [e3, e4]; exact Sub.of (congrArg rInt (ent_4 h1 h2 h3 h4)))
        case gf_19 =>
          have h4 := of_decide_eq_false hc
          refine go_then ?go_21
          refine go_set B (i := 7) (de_add de_int (de_mulG ?m25 de_int (de_intB B T.b_int (de_eqI (de_mod ?z24 (de_divG ?z22 ?d23 (de_toInt B T.b_int (de_ixM (R := rInt) (0 : Int) ?xl20 ?xh21 (de_var B (i := 0) rfl rfl (.inl rfl)) de_int) rfl) de_int) de_int) de_int) rfl))) rfl (.inl rfl) ?go_22
          (case xl20 => first | decide | omega | exact (fm_b _ (by decide)).1)
          (case xh21 => first | (rw [hl]; decide) | omega | exact (fm_b _ (by decide)).2)
          (case z22 => first | decide | (have := entR_b ds; unfold entR at this; omega))
          (case d23 => decide)
          (case z24 => first | decide | (have := entR_b ds; unfold entR at this; omega))
          (case m25 => first | exact mul_sm (by omega) (by omega) | (have := entR_b ds; unfold entR at this; exact mul_sm (by omega) (by omega)) | (exact mul_sm (by decide) (by split <;> decide)))
          refine @go_nf _ _ _ _ _ _ [_, _, _, _, _, _, _, _] rfl ?go_23
          refine go_ret R (de_sub (de_mod ?z27 (de_toInt B T.b_int (de_var B (i := 6) rfl rfl (.inl rfl)) rfl) (de_add (de_mulG ?m26 de_int (de_var B (i := 7) rfl rfl (.inl rfl))) de_int)) (de_var B (i := 7) rfl rfl (.inl rfl))) ?rs_24
          (case m26 => first | exact mul_sm (by omega) (by omega) | (have := entR_b ds; unfold entR at this; exact mul_sm (by omega) (by omega)) | (exact mul_sm (by decide) (by split <;> decide)))
          (case z27 => first | decide | (have := entR_b ds; unfold entR at this; omega))
          (case rs_24 => rw [e2]; exact Sub.of (congrArg rInt (ent_5 h1 h2 h3 h4)))
theorem sc__law_numbers : FnScope ["_law_script", "_law_k", "_law_many", "_law_cell_here", "_law_row", "_law_j", "_law_mixed"] ["_law_script", "_law_k", "_law_many"] (defScope s__law_numbers) := ⟨rfl, rfl, rfl, by decide +kernel, rfl, by decide +kernel, by decide +kernel⟩
def sp__law_numbers (K : PySem.W.Frag) (cs : Cs) : Sp := Pm (ι := List Int × Nat × Nat) (fun ⟨ns, k, many⟩ => many ≤ 100) (fun ⟨ns, k, many⟩ => [rLst K (ns.map rInt), rInt (k : Int), rInt (many : Int)]) (fun ⟨ns, k, many⟩ => .lst ((lawN ns k many).map rInt))
theorem ok__law_numbers (T : Txt K mg cs) : Cal P w K mg base 2 "_law_numbers" (sp__law_numbers K cs) := by
  refine cal_ok T.d__law_numbers sc__law_numbers (fun g => rfl) (fun _ _ _ _ _ _ us hl => match us, hl with | [_, _, _], _ => rfl) ?_
  rintro X rfl rfl rfl rfl rfl B Bf ⟨ns, k, many⟩ F0 H0 D hp R hnx
  refine @go_nf _ _ _ _ _ _ [_, _, _, _, _, _, _] rfl ?go_1
  refine go_set B (i := 3) (de_abs B T.b_abs (CA.val (ca_call B (ok__law_cell T) (by decide) (_, _) trivial (da_cons (de_var B (i := 0) rfl rfl (.inl rfl)) (da_cons (de_var B (i := 1) rfl rfl (.inl rfl)) da_nil)) rfl)) rfl) rfl (.inl rfl) ?go_2
  refine @go_nf _ _ _ _ _ _ [_, _, _, _, _, _, _] rfl ?go_3
  refine go_setL B (i := 4) (dl_lst da_nil (show (0 : Nat) ≤ sizeLine by decide)) rfl (.inl rfl) ?go_4
  refine @go_nf _ _ _ _ _ _ [_, _, _, _, _, _, _] rfl ?go_5
  refine go_if (dt_ge (de_var B (i := 3) rfl rfl (.inl rfl)) (de_pow ⟨by decide, by decide, by decide⟩ de_int de_int)) (fun hc => ?gt_6) (fun hc => ?gf_7)
  case gt_6 =>
    replace hc : (10 : Int) ^ 18 ≤ ((cellv ns k).natAbs : Int) := of_decide_eq_true hc
    refine go_forS B (fun i => [(3, .im (rInt (divs (cellv ns k).natAbs i))), (4, .ow (((List.range i).map (bigN (cellv ns k).natAbs)).map rInt)), (5, .any)]) (fun i => True) (sr_range1 B T.b_range (de_var B (i := 2) rfl rfl (.inl rfl)) rfl ?r1 ?r2) _ (fun i hi => (dg_name B (i := 5) rfl (.inl rfl))) ?h0_8 ?j0_9 (fun F1 u i hi hj => ?gb_10) (fun hj => ?ge_11)
    (case r1 => first | omega | (have := hp; omega))
    (case r2 => first | omega | (have := hp; omega))
    (case h0_8 => refine .same ?_; refine .same ?_; refine .same ?_; refine .im ?h ?_; (case h => exact Sub.rfl); refine .ow ?h ?_; (case h => rfl); refine .any ?_; refine .same ?_; exact .nil)
    (case j0_9 => trivial)
    case gb_10 =>
      refine @go_nf _ _ _ _ _ _ [_, _, _, _, _, _, _] rfl ?go_12
      refine go_append B (i := 4) rfl (de_mod ?z3 (de_toInt B T.b_int (de_var B (i := 3) rfl rfl (.inl rfl)) rfl) de_int) ?s4 rfl (.inl rfl) ?go_13
      (case z3 => decide)
      (case s4 => simp; exact Nat.lt_of_le_of_lt (by omega : i ≤ 100) (by decide))
      refine @go_nf _ _ _ _ _ _ [_, _, _, _, _, _, _] rfl ?go_14
      refine go_set B (i := 3) (de_divG ?z5 ?d6 (de_var B (i := 3) rfl rfl (.inl rfl)) de_int) rfl (.inl rfl) ?go_15
      (case z5 => decide)
      (case d6 => decide)
      refine @go_nf _ _ _ _ _ _ [_, _, _, _, _, _, _] rfl ?go_16
      refine go_turnS ?jn_17 ?ln_18
      (case jn_17 => trivial)
      (case ln_18 => refine .same ?_; refine .same ?_; refine .same ?_; refine .im ?h ?_; (case h => exact Sub.rfl); refine .ow ?h ?_; (case h => rw [List.range_succ]; simp [bigN]); refine .any ?_; refine .same ?_; exact .nil)
    case ge_11 =>
      refine @go_nf _ _ _ _ _ _ [_, _, _, _, _, _, _] rfl ?go_19
      refine go_retV B (i := 4) R rfl ?rs_20 rfl (.inl rfl)
      (case rs_20 => first | rw [lawN_t hc, Int.toNat_natCast] | rw [lawN_f hc, Int.toNat_natCast])
  case gf_7 =>
    replace hc : ¬ (10 : Int) ^ 18 ≤ ((cellv ns k).natAbs : Int) := of_decide_eq_false hc; have hc2 : (((cellv ns k).natAbs : Int)).natAbs < 18446744073709551616 := by omega
    refine go_then ?go_21
    refine go_forS B (fun i => [(4, .ow (((List.range i).map (smallN (cellv ns k).natAbs)).map rInt)), (5, .any), (6, .any)]) (fun i => True) (sr_range1 B T.b_range (de_var B (i := 2) rfl rfl (.inl rfl)) rfl ?r7 ?r8) _ (fun i hi => (dg_name B (i := 5) rfl (.inl rfl))) ?h0_22 ?j0_23 (fun F1 u i hi hj => ?gb_24) (fun hj => ?ge_25)
    (case r7 => first | omega | (have := hp; omega))
    (case r8 => first | omega | (have := hp; omega))
    (case h0_22 => refine .same ?_; refine .same ?_; refine .same ?_; refine .same ?_; refine .ow ?h ?_; (case h => rfl); refine .any ?_; refine .any ?_; exact .nil)
    (case j0_23 => trivial)
    case gb_24 =>
      refine @go_nf _ _ _ _ _ _ [_, _, _, _, _, _, _] rfl ?go_26
      refine go_set B (i := 6) (de_mod ?z11 (de_toInt B T.b_int (de_add (de_add (de_mulG ?m9 (de_var B (i := 3) rfl rfl (.inl rfl)) de_int) (de_mulG ?m10 de_int (de_var B (i := 5) rfl rfl (.inl rfl)))) de_int) rfl) de_int) rfl (.inl rfl) ?go_27
      (case m9 => first | exact mul_s hc2 (by decide) | exact mul_s (by decide) (by omega) | exact mul_s (sm16 _) (by decide))
      (case m10 => first | exact mul_s hc2 (by decide) | exact mul_s (by decide) (by omega) | exact mul_s (sm16 _) (by decide))
      (case z11 => decide)
      refine @go_nf _ _ _ _ _ _ [_, _, _, _, _, _, _] rfl ?go_28
      refine go_append B (i := 4) rfl (de_mod ?z15 (de_toInt B T.b_int (de_add (de_mulG ?m14 (de_divG ?z12 ?d13 (de_var B (i := 6) rfl rfl (.inl rfl)) de_int) de_int) (de_var B (i := 5) rfl rfl (.inl rfl))) rfl) de_int) ?s16 rfl (.inl rfl) ?go_29
      (case z12 => decide)
      (case d13 => decide)
      (case m14 => first | exact mul_s hc2 (by decide) | exact mul_s (by decide) (by omega) | exact mul_s (sm16 _) (by decide))
      (case z15 => decide)
      (case s16 => simp; exact Nat.lt_of_le_of_lt (by omega : i ≤ 100) (by decide))
      refine @go_nf _ _ _ _ _ _ [_, _, _, _, _, _, _] rfl ?go_30
      refine go_turnS ?jn_31 ?ln_32
      (case jn_31 => trivial)
      (case ln_32 => refine .same ?_; refine .same ?_; refine .same ?_; refine .same ?_; refine .ow ?h ?_; (case h => rw [List.range_succ]; simp [smallN]); refine .any ?_; refine .any ?_; exact .nil)
    case ge_25 =>
      refine @go_nf _ _ _ _ _ _ [_, _, _, _, _, _, _] rfl ?go_33
      refine go_retV B (i := 4) R rfl ?rs_34 rfl (.inl rfl)
      (case rs_34 => first | rw [lawN_t hc, Int.toNat_natCast] | rw [lawN_f hc, Int.toNat_natCast])
theorem sc__law_make : FnScope ["_law_top_here", "_law_bottom_here", "_law_common"] ["_law_top_here", "_law_bottom_here"] (defScope s__law_make) := ⟨rfl, rfl, rfl, by decide +kernel, rfl, by decide +kernel, by decide +kernel⟩
def sp__law_make (K : PySem.W.Frag) (cs : Cs) : Sp := Pm (ι := Int × Int) (fun ⟨t, b⟩ => b ≠ 0 ∧ Lg t < 990 ∧ Lg b < 990) (fun ⟨t, b⟩ => [rInt t, rInt b]) (fun ⟨t, b⟩ => .val (rNum K ((t : Rat) / (b : Rat))))
theorem ok__law_make (T : Txt K mg cs) : Cal P w K mg base 2 "_law_make" (sp__law_make K cs) := by
  refine cal_ok T.d__law_make sc__law_make (fun g => rfl) (fun _ _ _ _ _ _ us hl => match us, hl with | [_, _], _ => rfl) ?_
  rintro X rfl rfl rfl rfl rfl B Bf ⟨t, b⟩ F0 H0 D hp R hnx
  obtain ⟨hb, hp1, hp2⟩ := hp
  refine go_set B (i := 2) (CA.val (ca_call B (ok__law_gcd T) (by decide) (_, _) ?c_law_gcd_1 (da_cons (de_var B (i := 0) rfl rfl (.inl rfl)) (da_cons (de_var B (i := 1) rfl rfl (.inl rfl)) da_nil)) rfl)) rfl (.inl rfl) ?go_1
  (case c_law_gcd_1 => exact ⟨hp1, hp2⟩)
  refine go_if (dt_lt (de_var B (i := 1) rfl rfl (.inl rfl)) de_int) (fun hc => ?gt_2) (fun hc => ?gf_3)
  case gt_2 =>
    replace hc : b < 0 := of_decide_eq_true hc; have hl : lowC t b = -(Int.gcd t b : Int) := if_pos hc
    refine go_set B (i := 2) (de_neg (de_var B (i := 2) rfl rfl (.inl rfl))) rfl (.inl rfl) ?go_4
    refine go_then ?go_5
    refine go_if (dt_eqI (de_divG ?z2 ?d3 (de_var B (i := 1) rfl rfl (.inl rfl)) (de_var B (i := 2) rfl rfl (.inl rfl))) de_int) (fun hc => ?gt_6) (fun hc => ?gf_7)
    (case z2 => rw [← hl]; exact lowC_ne hb)
    (case d3 => rw [← hl]; exact Nat.lt_of_le_of_lt (lg_lowC hb) (Nat.lt_trans hp2 (by decide)))
    case gt_6 =>
      replace hc := of_decide_eq_true hc
      refine go_ret R (de_divG ?z4 ?d5 (de_var B (i := 0) rfl rfl (.inl rfl)) (de_var B (i := 2) rfl rfl (.inl rfl))) ?rs_8
      (case z4 => rw [← hl]; exact lowC_ne hb)
      (case d5 => rw [← hl]; exact Nat.lt_of_le_of_lt (lg_lowC hb) (Nat.lt_trans hp2 (by decide)))
      (case rs_8 => rw [← hl] at hc ⊢; exact sub_whole (rat_den1b hb hc) (rat_num hb))
    case gf_7 =>
      replace hc := of_decide_eq_false hc
      refine go_then ?go_9
      refine go_ret R (de_tup (da_cons (de_divG ?z6 ?d7 (de_var B (i := 0) rfl rfl (.inl rfl)) (de_var B (i := 2) rfl rfl (.inl rfl))) (da_cons (de_divG ?z8 ?d9 (de_var B (i := 1) rfl rfl (.inl rfl)) (de_var B (i := 2) rfl rfl (.inl rfl))) da_nil)) (show (2 : Nat) ≤ sizeLine by decide)) ?rs_10
      (case z6 => rw [← hl]; exact lowC_ne hb)
      (case d7 => rw [← hl]; exact Nat.lt_of_le_of_lt (lg_lowC hb) (Nat.lt_trans hp2 (by decide)))
      (case z8 => rw [← hl]; exact lowC_ne hb)
      (case d9 => rw [← hl]; exact Nat.lt_of_le_of_lt (lg_lowC hb) (Nat.lt_trans hp2 (by decide)))
      (case rs_10 => rw [← hl] at hc ⊢; exact sub_pair hc (rat_num hb) (rat_den hb))
  case gf_3 =>
    replace hc : ¬ b < 0 := of_decide_eq_false hc; have hl : lowC t b = (Int.gcd t b : Int) := if_neg hc
    refine go_then ?go_11
    refine go_if (dt_eqI (de_divG ?z10 ?d11 (de_var B (i := 1) rfl rfl (.inl rfl)) (de_var B (i := 2) rfl rfl (.inl rfl))) de_int) (fun hc => ?gt_12) (fun hc => ?gf_13)
    (case z10 => rw [← hl]; exact lowC_ne hb)
    (case d11 => rw [← hl]; exact Nat.lt_of_le_of_lt (lg_lowC hb) (Nat.lt_trans hp2 (by decide)))
    case gt_12 =>
      replace hc := of_decide_eq_true hc
      refine go_ret R (de_divG ?z12 ?d13 (de_var B (i := 0) rfl rfl (.inl rfl)) (de_var B (i := 2) rfl rfl (.inl rfl))) ?rs_14
      (case z12 => rw [← hl]; exact lowC_ne hb)
      (case d13 => rw [← hl]; exact Nat.lt_of_le_of_lt (lg_lowC hb) (Nat.lt_trans hp2 (by decide)))
      (case rs_14 => rw [← hl] at hc ⊢; exact sub_whole (rat_den1b hb hc) (rat_num hb))
    case gf_13 =>
      replace hc := of_decide_eq_false hc
      refine go_then ?go_15
      refine go_ret R (de_tup (da_cons (de_divG ?z14 ?d15 (de_var B (i := 0) rfl rfl (.inl rfl)) (de_var B (i := 2) rfl rfl (.inl rfl))) (da_cons (de_divG ?z16 ?d17 (de_var B (i := 1) rfl rfl (.inl rfl)) (de_var B (i := 2) rfl rfl (.inl rfl))) da_nil)) (show (2 : Nat) ≤ sizeLine by decide)) ?rs_16
      (case z14 => rw [← hl]; exact lowC_ne hb)
      (case d15 => rw [← hl]; exact Nat.lt_of_le_of_lt (lg_lowC hb) (Nat.lt_trans hp2 (by decide)))
      (case z16 => rw [← hl]; exact lowC_ne hb)
      (case d17 => rw [← hl]; exact Nat.lt_of_le_of_lt (lg_lowC hb) (Nat.lt_trans hp2 (by decide)))
      (case rs_16 => rw [← hl] at hc ⊢; exact sub_pair hc (rat_num hb) (rat_den hb))
theorem sc__law_is_number : FnScope ["_law_x"] ["_law_x"] (defScope s__law_is_number) := ⟨rfl, rfl, rfl, by decide +kernel, rfl, by decide +kernel, by decide +kernel⟩
def sp__law_is_number (K : PySem.W.Frag) (cs : Cs) : Sp := Pm (ι := Rat) (fun q => Sz 989 q) (fun q => [rNum K q]) (fun q => .val (rBl true))
theorem ok__law_is_number (T : Txt K mg cs) : Cal P w K mg base 2 "_law_is_number" (sp__law_is_number K cs) := by
  refine cal_ok T.d__law_is_number sc__law_is_number (fun g => rfl) (fun _ _ _ _ _ _ us hl => match us, hl with | [_], _ => rfl) ?_
  rintro X rfl rfl rfl rfl rfl B Bf q F0 H0 D hp R hnx
  refine go_if (dt_val (CA.val (ca_call B (ok__law_is_int T) (by decide) _ trivial (da_cons (de_var B (i := 0) rfl rfl (.inl rfl)) da_nil) rfl))) (fun hc => ?gt_1) (fun hc => ?gf_2)
  case gt_1 =>
    skip
    refine go_ret R de_bl ?rs_3
    (case rs_3 => exact Sub.rfl)
  case gf_2 =>
    have hd : q.den ≠ 1 := by simpa using hc
    refine go_then ?go_4
    refine go_if (DW.t (dw_or (dt_not (dt_val (de_isi (T := "tuple") B T.b_isinstance rty_num kit_numT (de_var B (i := 0) rfl rfl (.inl rfl)) (de_ty B T.b_tuple (by decide +kernel) rfl) rfl))) (fun hb1 => (dw_or (dt_neI (de_lenT B T.b_len (de_n2t ?n1 (de_var B (i := 0) rfl rfl (.inl rfl))) rfl) de_int) (fun hb2 => (dw_or (dt_not (dt_val (CA.val (ca_call B (ok__law_is_int T) (by decide) _ trivial (da_cons (de_i2n (de_num0 ?n2 (de_var B (i := 0) rfl rfl (.inl rfl)))) da_nil) rfl)))) (fun hb3 => (dw_or1 (dt_not (dt_val (CA.val (ca_call B (ok__law_is_int T) (by decide) _ trivial (da_cons (de_i2n (de_num1 ?n3 (de_var B (i := 0) rfl rfl (.inl rfl)))) da_nil) rfl)))))))))))) (fun hc => ?gt_5) (fun hc => ?gf_6)
    (case n1 => exact hd)
    (case n2 => exact hd)
    (case n3 => exact hd)
    case gt_5 =>
      try (simp only [decide_eq_true_eq, decide_eq_false_iff_not, Bool.not_eq_true', Bool.not_eq_false', Bool.not_eq_true, Bool.not_eq_false] at hc)
      refine go_ret R de_bl ?rs_7
      (case rs_7 => exfalso; simp [hd] at hc)
    case gf_6 =>
      try (simp only [decide_eq_true_eq, decide_eq_false_iff_not, Bool.not_eq_true', Bool.not_eq_false', Bool.not_eq_true, Bool.not_eq_false] at hc)
      refine go_then ?go_8
      refine go_ret R (de_and (de_geI (de_num1 ?n4 (de_var B (i := 0) rfl rfl (.inl rfl))) de_int) (fun hb1 => (de_one (de_eqI (CA.val (ca_call B (ok__law_gcd T) (by decide) (_, _) ?c_law_gcd_7 (da_cons (de_num0 ?n5 (de_var B (i := 0) rfl rfl (.inl rfl))) (da_cons (de_num1 ?n6 (de_var B (i := 0) rfl rfl (.inl rfl))) da_nil)) rfl)) de_int)))) ?rs_9
      (case n4 => exact hd)
      (case n5 => exact hd)
      (case n6 => exact hd)
      (case c_law_gcd_7 => exact ⟨Nat.lt_of_le_of_lt hp.1 (by decide), Nat.lt_of_le_of_lt hp.2 (by decide)⟩)
      (case rs_9 => exact Sub.of (by rw [low_terms hd]))
theorem sc__law_rows : FnScope ["_law_numbers_here", "_law_size", "_law_many", "_law_rows_here", "_law_k", "_law_row", "_law_turn", "_law_j", "_law_number"] ["_law_numbers_here", "_law_size", "_law_many"] (defScope s__law_rows) := ⟨rfl, rfl, rfl, by decide +kernel, rfl, by decide +kernel, by decide +kernel⟩
def sp__law_rows (K : PySem.W.Frag) (cs : Cs) : Sp := Pm (ι := List Int × Nat × Nat) (fun ⟨ds, n, many⟩ => ds.length = 60 ∧ 1 ≤ n ∧ n ≤ 16 ∧ many < 6 ∧ many * n ≤ 58) (fun ⟨ds, n, many⟩ => [rLst K (ds.map rInt), rInt (n : Int), rInt (many : Int)]) (fun ⟨ds, n, many⟩ => .lst ((rowsZ ds n many).map fun l => rLst K (l.map rInt)))
theorem ok__law_rows (T : Txt K mg cs) : Cal P w K mg base 2 "_law_rows" (sp__law_rows K cs) := by
  refine cal_ok T.d__law_rows sc__law_rows (fun g => rfl) (fun _ _ _ _ _ _ us hl => match us, hl with | [_, _, _], _ => rfl) ?_
  rintro X rfl rfl rfl rfl rfl B Bf ⟨ds, n, many⟩ F0 H0 D hp R hnx
  obtain ⟨hl, hn, hn2, hm, hmn⟩ := hp
  refine @go_nf _ _ _ _ _ _ [_, _, _, _, _, _, _, _, _] rfl ?go_1
  refine go_setL B (i := 3) (dl_lst da_nil (show (0 : Nat) ≤ sizeLine by decide)) rfl (.inl rfl) ?go_2
  refine @go_nf _ _ _ _ _ _ [_, _, _, _, _, _, _, _, _] rfl ?go_3
  refine go_forS B (fun i => [(3, .ow ((rowsU ds n many i).map fun l => rLst X.K (l.map rInt))), (4, .any), (5, .any)]) (fun i => True) (sr_range1 B T.b_range (de_var B (i := 2) rfl rfl (.inr (.inl rfl))) rfl ?r1 ?r2) _ (fun i hi => (dg_name B (i := 4) rfl (.inr ⟨rfl, Bf _⟩))) ?h0_4 ?j0_5 (fun F1 u i hi hj => ?gb_6) (fun hj => ?ge_7)
  (case r1 => first | omega | decide)
  (case r2 => first | omega | decide)
  (case h0_4 => refine .same ?_; refine .same ?_; refine .same ?_; refine .ow ?h ?_; (case h => rfl); refine .any ?_; refine .any ?_; refine .same ?_; refine .same ?_; refine .same ?_; exact .nil)
  (case j0_5 => trivial)
  case gb_6 =>
    refine @go_nf _ _ _ _ _ _ [_, _, _, _, _, _, _, _, _] rfl ?go_8
    refine go_setLc (l' := List.map rInt (rowA ds n many i)) B [("_law_j", 7)] (sr_range1 B T.b_range (de_var B (i := 1) rfl rfl (.inr (.inl rfl))) rfl ?r3 ?r4) (blkOk_by (by decide +kernel)) _ (fun _ => true) (fun i2 : Nat => rInt (entZ ds n many i i2)) ?sz6 (by decide) (fun _ _ _ _ _ B i2 hi => (dg_name B (i := 7) rfl (.inl rfl))) (fun _ _ _ _ _ B i2 hi => dts_nil) (fun _ _ _ _ _ B i2 hi hb => (CA.val (ca_call B (ok__law_entry T) (by decide) (_, _, _, _, _) ?c_law_entry_5 (da_cons (de_var B (i := 0) rfl rfl (.inr (.inl rfl))) (da_cons (de_var B (i := 1) rfl rfl (.inr (.inl rfl))) (da_cons (de_var B (i := 2) rfl rfl (.inr (.inl rfl))) (da_cons (de_var B (i := 4) rfl rfl (.inr (.inl rfl))) (da_cons (de_var B (i := 7) rfl rfl (.inl rfl)) da_nil))))) rfl))) (hl := ?cl7) (iy := 5) (hNy := rfl) (hyl := rfl) (h := ?go_9) (hsw := fun env h => by cases env; subst h; with_unfolding_all rfl)
    (case r3 => first | omega | decide)
    (case r4 => first | omega | decide)
    (case c_law_entry_5 => exact ⟨hl, hn2, by omega, ent_in (by omega) (by omega) hmn, by omega⟩)
    (case sz6 => first | (rw [rowsU_len]; exact Nat.lt_of_le_of_lt (show _ ≤ 6 by omega) (by decide)) | exact Nat.lt_of_le_of_lt (show _ ≤ 16 by omega) (by decide) | (rw [rowB_len]; exact Nat.lt_of_le_of_lt hn2 (by decide)) | (have hk := and_l hc; rw [rowU_len (by have := rowsU_len ds n many i; omega)]; exact Nat.lt_of_le_of_lt hn2 (by decide)))
    (case cl7 => first | exact rowA_lc | (rw [im1]; exact lc_mapI (g := fun x => 2 * x)) | exact lc_mapI (g := fun _ => 0) | exact lc_mapL)
    refine @go_nf _ _ _ _ _ _ [_, _, _, _, _, _, _, _, _] rfl ?go_10
    refine go_froz 5 rfl ?go_11
    refine @go_nf _ _ _ _ _ _ [_, _, _, _, _, _, _, _, _] rfl ?go_12
    refine go_ifK [(5, .im (rLst X.K ((rowB ds n many (rowsU ds n many i) i).map rInt)))] (DW.t (dw_and (dt_gt (de_var B (i := 4) rfl rfl (.inr (.inl rfl))) de_int) (fun hb1 => (dw_and1 (dt_eqI (de_mod ?z10 (de_toInt B T.b_int (de_ixM (R := rInt) (0 : Int) ?xl8 ?xh9 (de_var B (i := 0) rfl rfl (.inr (.inl rfl))) de_int) rfl) de_int) de_int))))) ?gk_13 (fun hk hc => ?gt_14) (fun hk hc => ?gf_15)
    (case xl8 => first | decide | omega | (have hk := and_l hc; omega))
    (case xh9 => first | (rw [hl]; decide) | omega | (have hk := and_l hc; have := rowsU_len ds n many i; omega))
    (case z10 => first | decide | omega)
    case gt_14 =>
      skip
      refine go_setLc (l' := List.map rInt (((rowsU ds n many i).getD (i - 1) []).map (fun x => 2 * x))) B [("_law_number", 8)] (sr_listM (R := rInt) (0 : Int) (de_ixOM (R := (fun l => rLst X.K (List.map rInt l))) [] B (i := 3) rfl rfl (.inl rfl) ?xl17 ?xh18 (de_sub (de_var B (i := 4) rfl rfl (.inr (.inl rfl))) de_int))) (blkOk_by (by decide +kernel)) _ (fun _ => true) (fun i2 : Nat => rInt (2 * ((rowsU ds n many i).getD ((i : Int) - 1).toNat []).getD i2 0)) ?sz20 (by decide) (fun _ _ _ _ _ B i2 hi => (dg_name B (i := 8) rfl (.inl rfl))) (fun _ _ _ _ _ B i2 hi => dts_nil) (fun _ _ _ _ _ B i2 hi hb => (de_mulG ?m19 de_int (de_var B (i := 8) rfl rfl (.inl rfl)))) (hl := ?cl21) (iy := 5) (hNy := rfl) (hyl := rfl) (h := ?go_16) (hsw := fun env h => by cases env; subst h; with_unfolding_all rfl)
      (case xl17 => first | decide | omega | (have hk := and_l hc; omega))
      (case xh18 => first | (rw [hl]; decide) | omega | (have hk := and_l hc; have := rowsU_len ds n many i; omega))
      (case m19 => exact rowU_sm (by omega))
      (case sz20 => first | (rw [rowsU_len]; exact Nat.lt_of_le_of_lt (show _ ≤ 6 by omega) (by decide)) | exact Nat.lt_of_le_of_lt (show _ ≤ 16 by omega) (by decide) | (rw [rowB_len]; exact Nat.lt_of_le_of_lt hn2 (by decide)) | (have hk := and_l hc; rw [rowU_len (by have := rowsU_len ds n many i; omega)]; exact Nat.lt_of_le_of_lt hn2 (by decide)))
      (case cl21 => first | exact rowA_lc | (rw [im1]; exact lc_mapI (g := fun x => 2 * x)) | exact lc_mapI (g := fun _ => 0) | exact lc_mapL)
      refine @go_nf _ _ _ _ _ _ [_, _, _, _, _, _, _, _, _] rfl ?go_17
      refine go_froz 5 rfl ?go_18
      refine @go_nf _ _ _ _ _ _ [_, _, _, _, _, _, _, _, _] rfl ?go_19
      refine go_join hk ?jl_20
      (case jl_20 => refine .same ?_; refine .same ?_; refine .same ?_; refine .same ?_; refine .same ?_; refine .im ?h ?_; (case h => exact Sub.of (congrArg (fun l => rLst X.K (List.map rInt l)) (rowB_t hc))); refine .same ?_; refine .same ?_; refine .same ?_; exact .nil)
    case gf_15 =>
      skip
      refine go_join hk ?jl_21
      (case jl_21 => refine .same ?_; refine .same ?_; refine .same ?_; refine .same ?_; refine .same ?_; refine .im ?h ?_; (case h => exact Sub.of (congrArg (fun l => rLst X.K (List.map rInt l)) (rowB_f hc))); refine .same ?_; refine .same ?_; refine .same ?_; exact .nil)
    case gk_13 =>
      refine @go_nf _ _ _ _ _ _ [_, _, _, _, _, _, _, _, _] rfl ?go_22
      refine go_ifK [(5, .im (rLst X.K ((rowC ds n many (rowsU ds n many i) i).map rInt)))] (DW.t (dw_and (dt_gt (de_var B (i := 4) rfl rfl (.inr (.inl rfl))) de_int) (fun hb1 => (dw_and1 (dt_eqI (de_mod ?z13 (de_toInt B T.b_int (de_ixM (R := rInt) (0 : Int) ?xl11 ?xh12 (de_var B (i := 0) rfl rfl (.inr (.inl rfl))) de_int) rfl) de_int) de_int))))) ?gk_23 (fun hk hc => ?gt_24) (fun hk hc => ?gf_25)
      (case xl11 => first | decide | omega | (have hk := and_l hc; omega))
      (case xh12 => first | (rw [hl]; decide) | omega | (have hk := and_l hc; have := rowsU_len ds n many i; omega))
      (case z13 => first | decide | omega)
      case gt_24 =>
        skip
        refine go_setLc (l' := List.map rInt ((rowB ds n many (rowsU ds n many i) i).map (fun _ => 0))) B [("_law_number", 8)] (sr_listM (R := rInt) (0 : Int) (de_var B (i := 5) rfl rfl (.inl rfl))) (blkOk_by (by decide +kernel)) _ (fun _ => true) (fun i2 : Nat => rInt 0) ?sz15 (by decide) (fun _ _ _ _ _ B i2 hi => (dg_name B (i := 8) rfl (.inl rfl))) (fun _ _ _ _ _ B i2 hi => dts_nil) (fun _ _ _ _ _ B i2 hi hb => de_int) (hl := ?cl16) (iy := 5) (hNy := rfl) (hyl := rfl) (h := ?go_26) (hsw := fun env h => by cases env; subst h; with_unfolding_all rfl)
        (case sz15 => first | (rw [rowsU_len]; exact Nat.lt_of_le_of_lt (show _ ≤ 6 by omega) (by decide)) | exact Nat.lt_of_le_of_lt (show _ ≤ 16 by omega) (by decide) | (rw [rowB_len]; exact Nat.lt_of_le_of_lt hn2 (by decide)) | (have hk := and_l hc; rw [rowU_len (by have := rowsU_len ds n many i; omega)]; exact Nat.lt_of_le_of_lt hn2 (by decide)))
        (case cl16 => first | exact rowA_lc | (rw [im1]; exact lc_mapI (g := fun x => 2 * x)) | exact lc_mapI (g := fun _ => 0) | exact lc_mapL)
        refine @go_nf _ _ _ _ _ _ [_, _, _, _, _, _, _, _, _] rfl ?go_27
        refine go_froz 5 rfl ?go_28
        refine @go_nf _ _ _ _ _ _ [_, _, _, _, _, _, _, _, _] rfl ?go_29
        refine go_join hk ?jl_30
        (case jl_30 => refine .same ?_; refine .same ?_; refine .same ?_; refine .same ?_; refine .same ?_; refine .im ?h ?_; (case h => exact Sub.of (congrArg (fun l => rLst X.K (List.map rInt l)) (rowC_t hc))); refine .same ?_; refine .same ?_; refine .same ?_; exact .nil)
      case gf_25 =>
        skip
        refine go_join hk ?jl_31
        (case jl_31 => refine .same ?_; refine .same ?_; refine .same ?_; refine .same ?_; refine .same ?_; refine .im ?h ?_; (case h => exact Sub.of (congrArg (fun l => rLst X.K (List.map rInt l)) (rowC_f hc))); refine .same ?_; refine .same ?_; refine .same ?_; exact .nil)
      case gk_23 =>
        refine @go_nf _ _ _ _ _ _ [_, _, _, _, _, _, _, _, _] rfl ?go_32
        refine go_append B (i := 3) rfl (de_var B (i := 5) rfl rfl (.inl rfl)) ?s14 rfl (.inl rfl) ?go_33
        (case s14 => first | (rw [List.length_map, List.length_map, List.length_drop, List.length_take]; have h1 := (rowsU_ok ds n many many _ (getD_memL hi)).1; exact Nat.lt_of_le_of_lt (show _ ≤ 16 by omega) (by decide)) | (rw [List.length_map, rowsU_len]; exact Nat.lt_of_le_of_lt (show _ ≤ 6 by omega) (by decide)) | (rw [List.length_drop, List.length_take]; have h1 := rowU_len hi; exact Nat.le_trans (show _ ≤ 16 by omega) (by decide)))
        refine @go_nf _ _ _ _ _ _ [_, _, _, _, _, _, _, _, _] rfl ?go_34
        refine go_turnS ?jn_35 ?ln_36
        (case jn_35 => trivial)
        (case ln_36 => refine .same ?_; refine .same ?_; refine .same ?_; refine .ow ?h ?_; (case h => rw [show rowsU ds n many (i + 1) = rowsU ds n many i ++ [rowC ds n many (rowsU ds n many i) i] from rfl, List.map_append]; rfl); refine .any ?_; refine .any ?_; refine .same ?_; refine .same ?_; refine .same ?_; exact .nil)
  case ge_7 =>
    refine @go_nf _ _ _ _ _ _ [_, _, _, _, _, _, _, _, _] rfl ?go_37
    refine go_frozH 3 rfl ?go_38
    refine @go_nf _ _ _ _ _ _ [_, _, _, _, _, _, _, _, _] rfl ?go_39
    refine go_set B (i := 6) (de_mod ?z26 (de_divG ?z24 ?d25 (de_toInt B T.b_int (de_ixM (R := rInt) (0 : Int) ?xl22 ?xh23 (de_var B (i := 0) rfl rfl (.inr (.inl rfl))) de_int) rfl) de_int) (de_var B (i := 1) rfl rfl (.inr (.inl rfl)))) rfl (.inr ⟨rfl, Bf _⟩) ?go_40
    (case xl22 => first | decide | omega | (have hk := and_l hc; omega))
    (case xh23 => first | (rw [hl]; decide) | omega | (have hk := and_l hc; have := rowsU_len ds n many i; omega))
    (case z24 => first | decide | omega)
    (case d25 => decide)
    (case z26 => first | decide | omega)
    refine @go_nf _ _ _ _ _ _ [_, _, _, _, _, _, _, _, _] rfl ?go_41
    refine go_retL R (DL.to (l' := List.map (fun l => rLst X.K (List.map rInt l)) ((rowsU ds n many many).map (turned (turnT ds n)))) (dl_lc B [("_law_row", 5)] (sr_listM (R := (fun l => rLst X.K (List.map rInt l))) [] (de_h2l (de_var B (i := 3) rfl rfl (.inl rfl)))) (blkOk_by (by decide +kernel)) _ (fun _ => true) (fun i : Nat => rLst X.K ((turned (turnT ds n) ((rowsU ds n many many).getD i [])).map rInt)) ?sz30 (by decide) (fun _ _ _ _ _ B i hi => (dg_name B (i := 5) rfl (.inl rfl))) (fun _ _ _ _ _ B i hi => dts_nil) (fun _ _ _ _ _ B i hi hb => (DL.froz (dl_catM (dl_from (de_var B (i := 5) rfl rfl (.inl rfl)) ?sl27 (de_var B (i := 6) rfl rfl (.inr (.inl rfl)))) (dl_to (de_var B (i := 5) rfl rfl (.inl rfl)) ?sl28 (de_var B (i := 6) rfl rfl (.inr (.inl rfl)))) ?s29)))) ?cl31) ?rs_42
    (case sl27 => exact Int.fmod_nonneg_of_pos _ (by omega))
    (case sl28 => exact Int.fmod_nonneg_of_pos _ (by omega))
    (case s29 => first | (rw [List.length_map, List.length_map, List.length_drop, List.length_take]; have h1 := (rowsU_ok ds n many many _ (getD_memL hi)).1; exact Nat.lt_of_le_of_lt (show _ ≤ 16 by omega) (by decide)) | (rw [List.length_map, rowsU_len]; exact Nat.lt_of_le_of_lt (show _ ≤ 6 by omega) (by decide)) | (rw [List.length_drop, List.length_take]; have h1 := rowU_len hi; exact Nat.le_trans (show _ ≤ 16 by omega) (by decide)))
    (case sz30 => first | (rw [rowsU_len]; exact Nat.lt_of_le_of_lt (show _ ≤ 6 by omega) (by decide)) | exact Nat.lt_of_le_of_lt (show _ ≤ 16 by omega) (by decide) | (rw [rowB_len]; exact Nat.lt_of_le_of_lt hn2 (by decide)) | (have hk := and_l hc; rw [rowU_len (by have := rowsU_len ds n many i; omega)]; exact Nat.lt_of_le_of_lt hn2 (by decide)))
    (case cl31 => first | exact rowA_lc | (rw [im1]; exact lc_mapI (g := fun x => 2 * x)) | exact lc_mapI (g := fun _ => 0) | exact lc_mapL)
    (case rs_42 => rfl)
theorem sc__law_plus : FnScope ["_law_x", "_law_y", "_law_top_here"] ["_law_x", "_law_y"] (defScope s__law_plus) := ⟨rfl, rfl, rfl, by decide +kernel, rfl, by decide +kernel, by decide +kernel⟩
def sp__law_plus (K : PySem.W.Frag) (cs : Cs) : Sp := Pm (ι := Rat × Rat) (fun ⟨q, r⟩ => Sz 400 q ∧ Sz 400 r) (fun ⟨q, r⟩ => [rNum K q, rNum K r]) (fun ⟨q, r⟩ => .val (rNum K (q + r)))
theorem ok__law_plus (T : Txt K mg cs) : Cal P w K mg base 3 "_law_plus" (sp__law_plus K cs) := by
  refine cal_ok T.d__law_plus sc__law_plus (fun g => rfl) (fun _ _ _ _ _ _ us hl => match us, hl with | [_, _], _ => rfl) ?_
  rintro X rfl rfl rfl rfl rfl B Bf ⟨q, r⟩ F0 H0 D hp R hnx
  refine go_set B (i := 2) (de_add (de_mulG ?m1 (CA.val (ca_call B (ok__law_top T) (by decide) _ trivial (da_cons (de_var B (i := 0) rfl rfl (.inl rfl)) da_nil) rfl)) (CA.val (ca_call B (ok__law_bottom T) (by decide) _ trivial (da_cons (de_var B (i := 1) rfl rfl (.inl rfl)) da_nil) rfl))) (de_mulG ?m2 (CA.val (ca_call B (ok__law_top T) (by decide) _ trivial (da_cons (de_var B (i := 1) rfl rfl (.inl rfl)) da_nil) rfl)) (CA.val (ca_call B (ok__law_bottom T) (by decide) _ trivial (da_cons (de_var B (i := 0) rfl rfl (.inl rfl)) da_nil) rfl)))) rfl (.inl rfl) ?go_1
  (case m1 => grind [Sz])
  (case m2 => grind [Sz])
  refine go_ret R (CA.val (ca_call B (ok__law_make T) (by decide) (_, _) ?c_law_make_4 (da_cons (de_var B (i := 2) rfl rfl (.inl rfl)) (da_cons (de_mulG ?m3 (CA.val (ca_call B (ok__law_bottom T) (by decide) _ trivial (da_cons (de_var B (i := 0) rfl rfl (.inl rfl)) da_nil) rfl)) (CA.val (ca_call B (ok__law_bottom T) (by decide) _ trivial (da_cons (de_var B (i := 1) rfl rfl (.inl rfl)) da_nil) rfl))) da_nil)) rfl)) ?rs_2
  (case m3 => grind [Sz])
  (case c_law_make_4 => exact lp_ok hp.1 hp.2)
  (case rs_2 => exact Sub.of (by rw [r_plus]))
theorem sc__law_times : FnScope ["_law_x", "_law_y"] ["_law_x", "_law_y"] (defScope s__law_times) := ⟨rfl, rfl, rfl, by decide +kernel, rfl, by decide +kernel, by decide +kernel⟩
def sp__law_times (K : PySem.W.Frag) (cs : Cs) : Sp := Pm (ι := Rat × Rat) (fun ⟨q, r⟩ => Lg q.num + Lg r.num < 980 ∧ Lg (q.den : Int) + Lg (r.den : Int) < 980) (fun ⟨q, r⟩ => [rNum K q, rNum K r]) (fun ⟨q, r⟩ => .val (rNum K (q * r)))
theorem ok__law_times (T : Txt K mg cs) : Cal P w K mg base 3 "_law_times" (sp__law_times K cs) := by
  refine cal_ok T.d__law_times sc__law_times (fun g => rfl) (fun _ _ _ _ _ _ us hl => match us, hl with | [_, _], _ => rfl) ?_
  rintro X rfl rfl rfl rfl rfl B Bf ⟨q, r⟩ F0 H0 D hp R hnx
  refine go_ret R (CA.val (ca_call B (ok__law_make T) (by decide) (_, _) ?c_law_make_3 (da_cons (de_mulG ?m1 (CA.val (ca_call B (ok__law_top T) (by decide) _ trivial (da_cons (de_var B (i := 0) rfl rfl (.inl rfl)) da_nil) rfl)) (CA.val (ca_call B (ok__law_top T) (by decide) _ trivial (da_cons (de_var B (i := 1) rfl rfl (.inl rfl)) da_nil) rfl))) (da_cons (de_mulG ?m2 (CA.val (ca_call B (ok__law_bottom T) (by decide) _ trivial (da_cons (de_var B (i := 0) rfl rfl (.inl rfl)) da_nil) rfl)) (CA.val (ca_call B (ok__law_bottom T) (by decide) _ trivial (da_cons (de_var B (i := 1) rfl rfl (.inl rfl)) da_nil) rfl))) da_nil)) rfl)) ?rs_1
  (case m1 => grind [Sz])
  (case m2 => grind [Sz])
  (case c_law_make_3 => exact lt_ok hp.1 hp.2)
  (case rs_1 => exact Sub.of (by rw [r_times]))
end K04

set_option Elab.async false
set_option linter.all false
set_option maxRecDepth 100000
set_option maxHeartbeats 4000000
namespace K04
open PySem PySem.Spec PyProof.Rows L2 DL
variable {P : Program} {w : World} {K : PySem.W.Frag} {mg : Str → Option Value} {base : Heap} {cs : Cs}
theorem sc__law_cleared : FnScope ["_law_row", "_law_lead", "_law_at", "_law_made", "_law_common", "_law_number", "_law_k"] ["_law_row", "_law_lead", "_law_at"] (defScope s__law_cleared) := ⟨rfl, rfl, rfl, by decide +kernel, rfl, by decide +kernel, by decide +kernel⟩
def sp__law_cleared (K : PySem.W.Frag) (cs : Cs) : Sp := Pm (ι := List Int × List Int × Nat × Nat) (fun ⟨row, lead, n, c⟩ => (Sm n row ∧ Sm n lead) ∧ c < n ∧ n ≤ 40) (fun ⟨row, lead, n, c⟩ => [rLst K (row.map rInt), rLst K (lead.map rInt), rInt (c : Int)]) (fun ⟨row, lead, n, c⟩ => .val (rLst K ((lcl row lead c).map rInt)))
theorem ok__law_cleared (T : Txt K mg cs) : Cal P w K mg base 2 "_law_cleared" (sp__law_cleared K cs) := by
  refine cal_ok T.d__law_cleared sc__law_cleared (fun g => rfl) (fun _ _ _ _ _ _ us hl => match us, hl with | [_, _, _], _ => rfl) ?_
  rintro X rfl rfl rfl rfl rfl B Bf ⟨row, lead, n, c⟩ F0 H0 D hp R hnx
  obtain ⟨⟨hr, hd⟩, hc1, hn⟩ := hp
  have hr1 := hr.1
  have hd1 := hd.1
  refine @go_nf _ _ _ _ _ _ [_, _, _, _, _, _, _] rfl ?go_1
  refine go_setLc (l' := List.map rInt (lmade row lead c)) B [("_law_k", 6)] (sr_range1 B T.b_range (de_lenM B T.b_len (de_var B (i := 0) rfl rfl (.inr (.inl rfl))) rfl) rfl ?r1 ?r2) (blkOk_by (by decide +kernel)) _ (fun _ => true) (fun i : Nat => rInt (row.getD ((i : Nat) : Int).toNat 0 * lead.getD ((c : Nat) : Int).toNat 0 - lead.getD ((i : Nat) : Int).toNat 0 * row.getD ((c : Nat) : Int).toNat 0)) ?sz13 (by decide) (fun _ _ _ _ _ B i hi => (dg_name B (i := 6) rfl (.inl rfl))) (fun _ _ _ _ _ B i hi => dts_nil) (fun _ _ _ _ _ B i hi hb => (de_sub (de_mulG ?m7 (de_ixM (R := rInt) (0 : Int) ?xl3 ?xh4 (de_var B (i := 0) rfl rfl (.inr (.inl rfl))) (de_var B (i := 6) rfl rfl (.inl rfl))) (de_ixM (R := rInt) (0 : Int) ?xl5 ?xh6 (de_var B (i := 1) rfl rfl (.inr (.inl rfl))) (de_var B (i := 2) rfl rfl (.inr (.inl rfl))))) (de_mulG ?m12 (de_ixM (R := rInt) (0 : Int) ?xl8 ?xh9 (de_var B (i := 1) rfl rfl (.inr (.inl rfl))) (de_var B (i := 6) rfl rfl (.inl rfl))) (de_ixM (R := rInt) (0 : Int) ?xl10 ?xh11 (de_var B (i := 0) rfl rfl (.inr (.inl rfl))) (de_var B (i := 2) rfl rfl (.inr (.inl rfl))))))) (hl := ?cl14) (iy := 3) (hNy := rfl) (hyl := rfl) (h := ?go_2) (hsw := fun env h => by cases env; subst h; with_unfolding_all rfl)
  (case r1 => first | omega | decide)
  (case r2 => first | omega | decide)
  (case xl3 => omega)
  (case xh4 => omega)
  (case xl5 => omega)
  (case xh6 => omega)
  (case m7 => first | exact low_m (Nat.lt_trans (hr.2 _) (by decide)) (Nat.lt_trans (hd.2 _) (by decide)) | exact low_m (Nat.lt_trans (hd.2 _) (by decide)) (Nat.lt_trans (hr.2 _) (by decide)))
  (case xl8 => omega)
  (case xh9 => omega)
  (case xl10 => omega)
  (case xh11 => omega)
  (case m12 => first | exact low_m (Nat.lt_trans (hr.2 _) (by decide)) (Nat.lt_trans (hd.2 _) (by decide)) | exact low_m (Nat.lt_trans (hd.2 _) (by decide)) (Nat.lt_trans (hr.2 _) (by decide)))
  (case sz13 => first | (rw [lmade_len]; exact Nat.lt_of_le_of_lt (show _ ≤ 40 by omega) (by decide)) | exact Nat.lt_of_le_of_lt (show _ ≤ 40 by omega) (by decide))
  (case cl14 => first | exact lmade_lc | exact lc_mapI (g := fun x => x.fdiv (gl (lmade row lead c) : Nat)))
  refine @go_nf _ _ _ _ _ _ [_, _, _, _, _, _, _] rfl ?go_3
  refine go_froz 3 rfl ?go_4
  refine @go_nf _ _ _ _ _ _ [_, _, _, _, _, _, _] rfl ?go_5
  refine go_set B (i := 4) de_int rfl (.inr ⟨rfl, Bf _⟩) ?go_6
  refine @go_nf _ _ _ _ _ _ [_, _, _, _, _, _, _] rfl ?go_7
  refine go_forS B (fun i => [(4, .im (rInt ((gl ((lmade row lead c).take i) : Nat) : Int))), (5, .any)]) (fun i => True) (sr_listM (R := rInt) (0 : Int) (de_var B (i := 3) rfl rfl (.inl rfl))) _ (fun i hi => (dg_name B (i := 5) rfl (.inl rfl))) ?h0_8 ?j0_9 (fun F1 u i hi hj => ?gb_10) (fun hj => ?ge_11)
  (case h0_8 => refine .same ?_; refine .same ?_; refine .same ?_; refine .same ?_; refine .im ?h ?_; (case h => exact Sub.rfl); refine .any ?_; refine .same ?_; exact .nil)
  (case j0_9 => trivial)
  case gb_10 =>
    refine @go_nf _ _ _ _ _ _ [_, _, _, _, _, _, _] rfl ?go_12
    refine go_set B (i := 4) (CA.val (ca_call B (ok__law_gcd T) (by decide) (_, _) ?c_law_gcd_15 (da_cons (de_var B (i := 4) rfl rfl (.inr (.inl rfl))) (da_cons (de_var B (i := 5) rfl rfl (.inl rfl)) da_nil)) rfl)) rfl (.inr ⟨rfl, Bf _⟩) ?go_13
    (case c_law_gcd_15 => exact ⟨Nat.lt_trans (gl_lgT (m := 700) (fun j => lmade_lg hr hd) (by decide)) (by decide), Nat.lt_trans (lmade_lg hr hd) (by decide)⟩)
    refine @go_nf _ _ _ _ _ _ [_, _, _, _, _, _, _] rfl ?go_14
    refine go_turnS ?jn_15 ?ln_16
    (case jn_15 => trivial)
    (case ln_16 => refine .same ?_; refine .same ?_; refine .same ?_; refine .same ?_; refine .im ?h ?_; (case h => exact Sub.of (by rw [gl_step hi])); refine .any ?_; refine .same ?_; exact .nil)
  case ge_11 =>
    refine @go_nf _ _ _ _ _ _ [_, _, _, _, _, _, _] rfl ?go_17
    rw [List.take_length]
    refine go_if (dt_eqI (de_var B (i := 4) rfl rfl (.inr (.inl rfl))) de_int) (fun hc => ?gt_18) (fun hc => ?gf_19)
    case gt_18 =>
      have h0 := hc
      refine go_ret R (de_var B (i := 3) rfl rfl (.inl rfl)) ?rs_20
      (case rs_20 => exact Sub.of (congrArg (fun l => rLst X.K (List.map rInt l)) (lcl_t h0)))
    case gf_19 =>
      have h0 := hc
      have h1 := of_decide_eq_false hc
      refine go_then ?go_21
      refine go_ret R (DL.froz (DL.to (l' := List.map rInt ((lmade row lead c).map (fun x => x.fdiv (gl (lmade row lead c) : Nat)))) (dl_lc B [("_law_number", 5)] (sr_listM (R := rInt) (0 : Int) (de_var B (i := 3) rfl rfl (.inl rfl))) (blkOk_by (by decide +kernel)) _ (fun _ => true) (fun i : Nat => rInt (((lmade row lead c).getD i 0).fdiv (gl (lmade row lead c) : Nat))) ?sz18 (by decide) (fun _ _ _ _ _ B i hi => (dg_name B (i := 5) rfl (.inl rfl))) (fun _ _ _ _ _ B i hi => dts_nil) (fun _ _ _ _ _ B i hi hb => (de_divG ?z16 ?d17 (de_var B (i := 5) rfl rfl (.inl rfl)) (de_var B (i := 4) rfl rfl (.inr (.inl rfl)))))) ?cl19)) ?rs_22
      (case z16 => exact h1)
      (case d17 => have := gl_lgT (l := lmade row lead c) (i := (lmade row lead c).length) (m := 700) (fun j => lmade_lg hr hd) (by decide); rw [List.take_length] at this; exact Nat.lt_trans this (by decide))
      (case sz18 => first | (rw [lmade_len]; exact Nat.lt_of_le_of_lt (show _ ≤ 40 by omega) (by decide)) | exact Nat.lt_of_le_of_lt (show _ ≤ 40 by omega) (by decide))
      (case cl19 => first | exact lmade_lc | exact lc_mapI (g := fun x => x.fdiv (gl (lmade row lead c) : Nat)))
      (case rs_22 => exact Sub.of (congrArg (fun l => rLst X.K (List.map rInt l)) (lcl_f h0)))
theorem sc__law_cells : FnScope ["_law_told", "_law_due", "_law_cell_here"] ["_law_told", "_law_due"] (defScope s__law_cells) := ⟨rfl, rfl, rfl, by decide +kernel, rfl, by decide +kernel, by decide +kernel⟩
def sp__law_cells (K : PySem.W.Frag) (cs : Cs) : Sp := Pm (ι := List Int × List Int) (fun ⟨us, vs⟩ => us = vs ∧ vs.length ≤ 1000) (fun ⟨us, vs⟩ => [rLst K (us.map rInt), rLst K (vs.map rInt)]) (fun ⟨us, vs⟩ => .val (rBl true))
theorem ok__law_cells (T : Txt K mg cs) : Cal P w K mg base 2 "_law_cells" (sp__law_cells K cs) := by
  refine cal_ok T.d__law_cells sc__law_cells (fun g => rfl) (fun _ _ _ _ _ _ us hl => match us, hl with | [_, _], _ => rfl) ?_
  rintro X rfl rfl rfl rfl rfl B Bf ⟨us, vs⟩ F0 H0 D hp R hnx
  obtain ⟨rfl, hl⟩ := hp
  refine go_if (DW.t (dw_or (dt_not (dt_val (de_isi (T := "list") B T.b_isinstance rty_lst (kit_ty (r := true) (by decide +kernel)) (de_var B (i := 0) rfl rfl (.inl rfl)) (de_ty B T.b_list (by decide +kernel) rfl) rfl))) (fun hb1 => (dw_or1 (dt_neT (dat_lst dat_int) (by decide) B (de_var B (i := 0) rfl rfl (.inl rfl)) (de_var B (i := 1) rfl rfl (.inl rfl))))))) (fun hc => ?gt_1) (fun hc => ?gf_2)
  case gt_1 =>
    try (simp only [decide_eq_true_eq, decide_eq_false_iff_not, Bool.not_eq_true', Bool.not_eq_false', Bool.not_eq_true, Bool.not_eq_false] at hc)
    refine go_ret R de_bl ?rs_3
    (case rs_3 => exfalso; revert hc; simp)
  case gf_2 =>
    try (simp only [decide_eq_true_eq, decide_eq_false_iff_not, Bool.not_eq_true', Bool.not_eq_false', Bool.not_eq_true, Bool.not_eq_false] at hc)
    refine go_then ?go_4
    refine go_ret R (de_eqI (de_lenM B T.b_len (DL.froz (DL.to (l' := List.map rInt (([] : List Int))) (dl_lc B [("_law_cell_here", 2)] (sr_listM (R := rInt) (0 : Int) (de_var B (i := 0) rfl rfl (.inl rfl))) (blkOk_by (by decide +kernel)) _ _ (fun i : Nat => rInt (us.getD i 0)) ?sz1 (by decide) (fun _ _ _ _ _ B i hi => (dg_name B (i := 2) rfl (.inl rfl))) (fun _ _ _ _ _ B i hi => (dts_one (dt_not (dt_val (CA.val (ca_call B (ok__law_is_int T) (by decide) _ trivial (da_cons (de_i2n (de_var B (i := 2) rfl rfl (.inl rfl))) da_nil) rfl)))))) (fun _ _ _ _ _ B i hi hb => (de_var B (i := 2) rfl rfl (.inl rfl)))) ?cl2)) rfl) de_int) ?rs_5
    (case sz1 => exact Nat.lt_of_le_of_lt hl (by decide))
    (case cl2 => exact wl_nil)
    (case rs_5 => exact Sub.of (by simp))
theorem sc__law_rank_at : FnScope ["_law_rows_here", "_law_lot", "_law_rest", "_law_count", "_law_at", "_law_lead", "_law_others", "_law_row", "_law_cell_here"] ["_law_rows_here", "_law_lot"] (defScope s__law_rank_at) := ⟨rfl, rfl, rfl, by decide +kernel, rfl, by decide +kernel, by decide +kernel⟩
def sp__law_rank_at (K : PySem.W.Frag) (cs : Cs) : Sp := Pm (ι := List (List Int) × List Int × Nat) (fun ⟨rows, lot, n⟩ => RkOk n rows lot) (fun ⟨rows, lot, n⟩ => [rLst K (rows.map fun l => rLst K (l.map rInt)), rLst K (lot.map rInt)]) (fun ⟨rows, lot, n⟩ => .val (rInt (((gre (Sp (rows.map vi)) [] (lot.map Int.toNat)).length : Nat) : Int)))
theorem ok__law_rank_at (T : Txt K mg cs) : Cal P w K mg base 3 "_law_rank_at" (sp__law_rank_at K cs) := by
  refine cal_ok T.d__law_rank_at sc__law_rank_at (fun g => rfl) (fun _ _ _ _ _ _ us hl => match us, hl with | [_, _], _ => rfl) ?_
  rintro X rfl rfl rfl rfl rfl B Bf ⟨rows, lot, n⟩ F0 H0 D hp R hnx
  have hn := hp.d.n2
  have hm := hp.m
  have hll := hp.l
  refine @go_nf _ _ _ _ _ _ [_, _, _, _, _, _, _, _, _] rfl ?go_1
  refine go_setLc (l' := List.map (fun l => rLst X.K (List.map rInt l)) (cutL rows lot)) B [("_law_row", 7)] (sr_listM (R := (fun l => rLst X.K (List.map rInt l))) [] (de_var B (i := 0) rfl rfl (.inl rfl))) (blkOk_by (by decide +kernel)) _ (fun _ => true) (fun i : Nat => rLst X.K ((cutr (lot.map Int.toNat) (rows.getD i [])).map rInt)) ?sz5 (by decide) (fun _ _ _ _ _ B i hi => (dg_name B (i := 7) rfl (.inr ⟨rfl, rfl⟩))) (fun _ _ _ _ _ B i hi => dts_nil) (fun _ _ _ _ _ B i hi hb => (DL.froz (DL.to (l' := List.map rInt (cutr (lot.map Int.toNat) (rows.getD i []))) (dl_lc B [("_law_cell_here", 8)] (sr_listM (R := rInt) (0 : Int) (de_var B (i := 1) rfl rfl (.inr (.inl rfl)))) (blkOk_by (by decide +kernel)) _ (fun _ => true) (fun i2 : Nat => rInt ((rows.getD i []).getD (lot.getD i2 0).toNat 0)) ?sz3 (by decide) (fun _ _ _ _ _ B i2 hi => (dg_name B (i := 8) rfl (.inl rfl))) (fun _ _ _ _ _ B i2 hi => dts_nil) (fun _ _ _ _ _ B i2 hi hb => (de_ixM (R := rInt) (0 : Int) ?xl1 ?xh2 (de_var B (i := 7) rfl rfl (.inr (.inl rfl))) (de_var B (i := 8) rfl rfl (.inl rfl))))) ?cl4))) (hl := ?cl6) (iy := 2) (hNy := rfl) (hyl := rfl) (h := ?go_2) (hsw := fun env h => by cases env; subst h; with_unfolding_all rfl)
  (case xl1 => first | exact (hp.inn _ (getD_memI hi)).1 | omega)
  (case xh2 => first | (rw [hp.d.len _ (getD_memL ‹_ < rows.length›)]; exact (hp.inn _ (getD_memI hi)).2) | (rw [(hk1 _ (getD_memL hi2)).1]; omega))
  (case sz3 => first | exact Nat.lt_of_le_of_lt hll (by decide) | exact Nat.lt_trans hm (by decide) | (have := spl_all (R := (lk (cutL rows lot) i).2) (c := i); have := (spl_sub (R := (lk (cutL rows lot) i).2) (c := i) (Nat.le_refl _)).2.1; rw [spl_all] at this; exact Nat.lt_of_le_of_lt (show _ ≤ 6 by omega) (by decide)))
  (case cl4 => first | exact lc_mapL | exact cut_lc1 | exact lc_mapL (g := fun row => lcl row ((spl (lk (cutL rows lot) i).2 i).1.getD []) i))
  (case sz5 => first | exact Nat.lt_of_le_of_lt hll (by decide) | exact Nat.lt_trans hm (by decide) | (have := spl_all (R := (lk (cutL rows lot) i).2) (c := i); have := (spl_sub (R := (lk (cutL rows lot) i).2) (c := i) (Nat.le_refl _)).2.1; rw [spl_all] at this; exact Nat.lt_of_le_of_lt (show _ ≤ 6 by omega) (by decide)))
  (case cl6 => first | exact lc_mapL | exact cut_lc1 | exact lc_mapL (g := fun row => lcl row ((spl (lk (cutL rows lot) i).2 i).1.getD []) i))
  refine @go_nf _ _ _ _ _ _ [_, _, _, _, _, _, _, _, _] rfl ?go_3
  refine go_froz 2 rfl ?go_4
  refine @go_nf _ _ _ _ _ _ [_, _, _, _, _, _, _, _, _] rfl ?go_5
  refine go_set B (i := 3) de_int rfl (.inl rfl) ?go_6
  refine @go_nf _ _ _ _ _ _ [_, _, _, _, _, _, _, _, _] rfl ?go_7
  refine go_forS B (fun i => [(2, .im (rLst X.K (((lk (cutL rows lot) i).2).map fun l => rLst X.K (l.map rInt)))), (3, .im (rInt (((lk (cutL rows lot) i).1 : Nat) : Int))), (4, .any), (5, .any), (6, .any), (7, .any)]) (fun i => True) (sr_range1 B T.b_range (de_lenM B T.b_len (de_var B (i := 1) rfl rfl (.inr (.inl rfl))) rfl) rfl ?r7 ?r8) _ (fun i hi => (dg_name B (i := 4) rfl (.inr ⟨rfl, Bf _⟩))) ?h0_8 ?j0_9 (fun F1 u i hi hj => ?gb_10) (fun hj => ?ge_11)
  (case r7 => first | omega | decide)
  (case r8 => first | omega | decide)
  (case h0_8 => refine .same ?_; refine .same ?_; refine .im ?h ?_; (case h => exact Sub.rfl); refine .im ?h ?_; (case h => exact Sub.rfl); refine .any ?_; refine .any ?_; refine .any ?_; refine .any ?_; refine .same ?_; exact .nil)
  (case j0_9 => trivial)
  case gb_10 =>
    refine @go_nf _ _ _ _ _ _ [_, _, _, _, _, _, _, _, _] rfl ?go_12
    obtain ⟨hk1, hk2, hk3⟩ := lk_ok hp i
    refine go_set B (i := 5) (de_oN (R := (fun l => rLst X.K (List.map rInt l))) de_non) rfl (.inr ⟨rfl, Bf _⟩) ?go_13
    refine @go_nf _ _ _ _ _ _ [_, _, _, _, _, _, _, _, _] rfl ?go_14
    refine go_setL B (i := 6) (dl_lst da_nil (show (0 : Nat) ≤ sizeLine by decide)) rfl (.inl rfl) ?go_15
    refine @go_nf _ _ _ _ _ _ [_, _, _, _, _, _, _, _, _] rfl ?go_16
    refine go_forS B (fun i2 => [(5, .im (rOp (fun l => rLst X.K (List.map rInt l)) (spl ((lk (cutL rows lot) i).2.take i2) i).1)), (6, .ow ((spl ((lk (cutL rows lot) i).2.take i2) i).2.map fun l => rLst X.K (l.map rInt))), (7, .any)]) (fun i2 => True) (sr_listM (R := (fun l => rLst X.K (List.map rInt l))) [] (de_var B (i := 2) rfl rfl (.inl rfl))) _ (fun i2 hi2 => (dg_name B (i := 7) rfl (.inl rfl))) ?h0_17 ?j0_18 (fun F12 u2 i2 hi2 hj2 => ?gb_19) (fun hj2 => ?ge_20)
    (case h0_17 => refine .same ?_; refine .same ?_; refine .same ?_; refine .same ?_; refine .same ?_; refine .im ?h ?_; (case h => exact Sub.rfl); refine .ow ?h ?_; (case h => rfl); refine .any ?_; refine .same ?_; exact .nil)
    (case j0_18 => trivial)
    case gb_19 =>
      refine @go_nf _ _ _ _ _ _ [_, _, _, _, _, _, _, _, _] rfl ?go_21
      refine go_if (DW.t (dw_and (dt_oIs (R := (fun l => rLst X.K (List.map rInt l))) (fun _ => notNon_lst) (de_var B (i := 5) rfl rfl (.inr (.inl rfl)))) (fun hb1 => (dw_and1 (dt_neI (de_ixM (R := rInt) (0 : Int) ?xl9 ?xh10 (de_var B (i := 7) rfl rfl (.inl rfl)) (de_var B (i := 4) rfl rfl (.inr (.inl rfl)))) de_int))))) (fun hc => ?gt_22) (fun hc => ?gf_23)
      (case xl9 => first | exact (hp.inn _ (getD_memI hi)).1 | omega)
      (case xh10 => first | (rw [hp.d.len _ (getD_memL ‹_ < rows.length›)]; exact (hp.inn _ (getD_memI hi)).2) | (rw [(hk1 _ (getD_memL hi2)).1]; omega))
      case gt_22 =>
        skip
        refine go_set B (i := 5) (de_oS (R := (fun l => rLst X.K (List.map rInt l))) (de_var B (i := 7) rfl rfl (.inl rfl))) rfl (.inr ⟨rfl, Bf _⟩) ?go_24
        refine @go_nf _ _ _ _ _ _ [_, _, _, _, _, _, _, _, _] rfl ?go_25
        refine go_then ?go_26
        refine go_turnS ?jn_27 ?ln_28
        (case jn_27 => trivial)
        (case ln_28 => refine .same ?_; refine .same ?_; refine .same ?_; refine .same ?_; refine .same ?_; refine .im ?h ?_; (case h => first | exact Sub.of (by rw [spl_t hi2 hc]) | exact Sub.of (by rw [spl_f hi2 hc])); refine .ow ?h ?_; (case h => first | rw [spl_t hi2 hc] | (rw [spl_f hi2 hc, List.map_append]; rfl)); refine .any ?_; refine .same ?_; exact .nil)
      case gf_23 =>
        skip
        refine go_append B (i := 6) rfl (de_var B (i := 7) rfl rfl (.inl rfl)) ?s11 rfl (.inl rfl) ?go_29
        (case s11 => rw [List.length_map]; have := (spl_sub (c := i) (Nat.le_of_lt hi2)).2.1; exact Nat.lt_of_le_of_lt (show _ ≤ 6 by omega) (by decide))
        refine @go_nf _ _ _ _ _ _ [_, _, _, _, _, _, _, _, _] rfl ?go_30
        refine go_then ?go_31
        refine go_turnS ?jn_32 ?ln_33
        (case jn_32 => trivial)
        (case ln_33 => refine .same ?_; refine .same ?_; refine .same ?_; refine .same ?_; refine .same ?_; refine .im ?h ?_; (case h => first | exact Sub.of (by rw [spl_t hi2 hc]) | exact Sub.of (by rw [spl_f hi2 hc])); refine .ow ?h ?_; (case h => first | rw [spl_t hi2 hc] | (rw [spl_f hi2 hc, List.map_append]; rfl)); refine .any ?_; refine .same ?_; exact .nil)
    case ge_20 =>
      refine @go_nf _ _ _ _ _ _ [_, _, _, _, _, _, _, _, _] rfl ?go_34
      rw [spl_all]
      refine go_if (dt_oNot (R := (fun l => rLst X.K (List.map rInt l))) (fun _ => notNon_lst) (de_var B (i := 5) rfl rfl (.inr (.inl rfl)))) (fun hc => ?gt_35) (fun hc => ?gf_36)
      case gt_35 =>
        skip
        refine go_set B (i := 3) (de_add (de_var B (i := 3) rfl rfl (.inl rfl)) de_int) rfl (.inl rfl) ?go_37
        refine @go_nf _ _ _ _ _ _ [_, _, _, _, _, _, _, _, _] rfl ?go_38
        refine go_frozH 6 rfl ?go_39
        refine @go_nf _ _ _ _ _ _ [_, _, _, _, _, _, _, _, _] rfl ?go_40
        refine go_setLc (l' := List.map (fun l => rLst X.K (List.map rInt l)) (((spl (lk (cutL rows lot) i).2 i).2).map fun row => lcl row ((spl (lk (cutL rows lot) i).2 i).1.getD []) i)) B [("_law_row", 7)] (sr_listM (R := (fun l => rLst X.K (List.map rInt l))) [] (de_h2l (de_var B (i := 6) rfl rfl (.inl rfl)))) (blkOk_by (by decide +kernel)) _ (fun _ => true) (fun i2 : Nat => rLst X.K ((lcl ((spl (lk (cutL rows lot) i).2 i).2.getD i2 []) ((spl (lk (cutL rows lot) i).2 i).1.getD []) i).map rInt)) ?sz14 (by decide) (fun _ _ _ _ _ B i2 hi => (dg_name B (i := 7) rfl (.inl rfl))) (fun _ _ _ _ _ B i2 hi => dts_nil) (fun _ _ _ _ _ B i2 hi hb => (CA.val (ca_call B (ok__law_cleared T) (by decide) (_, _, lot.length, _) ?c_law_cleared_13 (da_cons (de_var B (i := 7) rfl rfl (.inl rfl)) (da_cons (de_oU (R := (fun l => rLst X.K (List.map rInt l))) [] ?oo12 (de_var B (i := 5) rfl rfl (.inr (.inl rfl)))) (da_cons (de_var B (i := 4) rfl rfl (.inr (.inl rfl))) da_nil))) rfl))) (hl := ?cl15) (iy := 2) (hNy := rfl) (hyl := rfl) (h := ?go_41) (hsw := fun env h => by cases env; subst h; with_unfolding_all rfl)
        (case oo12 => exact nn_t hc)
        (case c_law_cleared_13 => exact ⟨rk_cl hk1 hi hc, by omega, hll⟩)
        (case sz14 => first | exact Nat.lt_of_le_of_lt hll (by decide) | exact Nat.lt_trans hm (by decide) | (have := spl_all (R := (lk (cutL rows lot) i).2) (c := i); have := (spl_sub (R := (lk (cutL rows lot) i).2) (c := i) (Nat.le_refl _)).2.1; rw [spl_all] at this; exact Nat.lt_of_le_of_lt (show _ ≤ 6 by omega) (by decide)))
        (case cl15 => first | exact lc_mapL | exact cut_lc1 | exact lc_mapL (g := fun row => lcl row ((spl (lk (cutL rows lot) i).2 i).1.getD []) i))
        refine @go_nf _ _ _ _ _ _ [_, _, _, _, _, _, _, _, _] rfl ?go_42
        refine go_froz 2 rfl ?go_43
        refine @go_nf _ _ _ _ _ _ [_, _, _, _, _, _, _, _, _] rfl ?go_44
        refine go_then ?go_45
        refine go_turnS ?jn_46 ?ln_47
        (case jn_46 => trivial)
        (case ln_47 => refine .same ?_; refine .same ?_; refine .im ?h ?_; (case h => first | exact Sub.of (by rw [lk_t (isNone_f (d := []) (nn_t hc))]) | exact Sub.of (by rw [lk_f (isNone_t (nn_f hc))])); refine .im ?h ?_; (case h => first | exact Sub.of (by rw [lk_t (isNone_f (d := []) (nn_t hc))]; rfl) | exact Sub.of (by rw [lk_f (isNone_t (nn_f hc))])); refine .any ?_; refine .any ?_; refine .any ?_; refine .any ?_; refine .same ?_; exact .nil)
      case gf_36 =>
        skip
        refine go_then ?go_48
        refine go_turnS ?jn_49 ?ln_50
        (case jn_49 => trivial)
        (case ln_50 => refine .same ?_; refine .same ?_; refine .im ?h ?_; (case h => first | exact Sub.of (by rw [lk_t (isNone_f (d := []) (nn_t hc))]) | exact Sub.of (by rw [lk_f (isNone_t (nn_f hc))])); refine .im ?h ?_; (case h => first | exact Sub.of (by rw [lk_t (isNone_f (d := []) (nn_t hc))]; rfl) | exact Sub.of (by rw [lk_f (isNone_t (nn_f hc))])); refine .any ?_; refine .any ?_; refine .any ?_; refine .any ?_; refine .same ?_; exact .nil)
  case ge_11 =>
    refine @go_nf _ _ _ _ _ _ [_, _, _, _, _, _, _, _, _] rfl ?go_51
    refine go_ret R (de_var B (i := 3) rfl rfl (.inl rfl)) ?rs_52
    (case rs_52 => exact Sub.of (congrArg (fun k : Nat => rInt (k : Int)) (lk_cutN lot)))
theorem sc__law_first_free : FnScope ["_law_size", "_law_rows_here", "_law_lot", "_law_free", "_law_cell_here"] ["_law_size", "_law_rows_here", "_law_lot"] (defScope s__law_first_free) := ⟨rfl, rfl, rfl, by decide +kernel, rfl, by decide +kernel, by decide +kernel⟩
def sp__law_first_free (K : PySem.W.Frag) (cs : Cs) : Sp := Pm (ι := List (List Int) × List Int × Nat) (fun ⟨rows, lot, n⟩ => FfOk n rows) (fun ⟨rows, lot, n⟩ => [rInt (n : Int), rLst K (rows.map fun l => rLst K (l.map rInt)), rLst K (lot.map rInt)]) (fun ⟨rows, lot, n⟩ => .lst ((freeL rows lot n).map rInt))
theorem ok__law_first_free (T : Txt K mg cs) : Cal P w K mg base 4 "_law_first_free" (sp__law_first_free K cs) := by
  refine cal_ok T.d__law_first_free sc__law_first_free (fun g => rfl) (fun _ _ _ _ _ _ us hl => match us, hl with | [_, _, _], _ => rfl) ?_
  rintro X rfl rfl rfl rfl rfl B Bf ⟨rows, lot, n⟩ F0 H0 D hp R hnx
  have hn := hp.d.n2
  refine go_setL B (i := 3) (dl_lst da_nil (show (0 : Nat) ≤ sizeLine by decide)) rfl (.inl rfl) ?go_1
  refine go_forS B (fun i => [(3, .ow ((freeL rows lot i).map rInt)), (4, .any)]) (fun i => True) (sr_range1 B T.b_range (de_var B (i := 0) rfl rfl (.inl rfl)) rfl ?r1 ?r2) _ (fun i hi => (dg_name B (i := 4) rfl (.inl rfl))) ?h0_2 ?j0_3 (fun F1 u i hi hj => ?gb_4) (fun hj => ?ge_5)
  (case r1 => first | omega | decide)
  (case r2 => first | omega | decide)
  (case h0_2 => refine .same ?_; refine .same ?_; refine .same ?_; refine .ow ?h ?_; (case h => rfl); refine .any ?_; exact .nil)
  (case j0_3 => trivial)
  case gb_4 =>
    refine go_if (DW.t (dw_and (dt_inT dat_int (by decide) B (de_var B (i := 4) rfl rfl (.inl rfl)) (de_var B (i := 2) rfl rfl (.inl rfl))) (fun hb1 => (dw_and1 (dt_eqI (CA.val (ca_call B (ok__law_rank_at T) (by decide) (rows, freeL rows lot i ++ [(i : Int)], n) ?c_law_rank_at_5 (da_cons (de_var B (i := 1) rfl rfl (.inl rfl)) (da_cons (DL.froz (DL.to (l' := List.map rInt (freeL rows lot i ++ [(i : Int)])) (dl_catOv B (i := 3) rfl rfl (.inl rfl) (dl_lst (da_cons (de_var B (i := 4) rfl rfl (.inl rfl)) da_nil) (show (1 : Nat) ≤ sizeLine by decide)) ?s3) ?cl4)) da_nil)) rfl)) (de_add (de_lenO B T.b_len (i := 3) rfl rfl (.inl rfl) rfl) de_int)))))) (fun hc => ?gt_6) (fun hc => ?gf_7)
    (case s3 => first | (rw [List.length_map]; have := freeL_len rows lot i; first | exact Nat.lt_of_le_of_lt (show _ ≤ 40 by omega) (by decide) | exact Nat.le_trans (show _ ≤ 40 by simp; omega) (by decide)))
    (case cl4 => rw [List.map_append]; rfl)
    (case c_law_rank_at_5 => exact ff_rk hp (by omega) ⟨by omega, by omega⟩)
    case gt_6 =>
      rw [List.length_map] at hc
      refine go_append B (i := 3) rfl (de_var B (i := 4) rfl rfl (.inl rfl)) ?s6 rfl (.inl rfl) ?go_8
      (case s6 => first | (rw [List.length_map]; have := freeL_len rows lot i; first | exact Nat.lt_of_le_of_lt (show _ ≤ 40 by omega) (by decide) | exact Nat.le_trans (show _ ≤ 40 by simp; omega) (by decide)))
      refine go_then ?go_9
      refine go_turnS ?jn_10 ?ln_11
      (case jn_10 => trivial)
      (case ln_11 => refine .same ?_; refine .same ?_; refine .same ?_; refine .ow ?h ?_; (case h => first | (rw [ff_t hc, List.map_append]; rfl) | rw [ff_f hc]); refine .any ?_; exact .nil)
    case gf_7 =>
      rw [List.length_map] at hc
      refine go_then ?go_12
      refine go_turnS ?jn_13 ?ln_14
      (case jn_13 => trivial)
      (case ln_14 => refine .same ?_; refine .same ?_; refine .same ?_; refine .ow ?h ?_; (case h => first | (rw [ff_t hc, List.map_append]; rfl) | rw [ff_f hc]); refine .any ?_; exact .nil)
  case ge_5 =>
    refine go_retV B (i := 3) R rfl ?rs_15 rfl (.inl rfl)
    (case rs_15 => rfl)
end K04

set_option Elab.async false
set_option linter.all false
set_option maxRecDepth 100000
set_option maxHeartbeats 4000000
namespace K04
open PySem PySem.Spec PyProof.Rows L2 DL
variable {P : Program} {w : World} {K : PySem.W.Frag} {mg : Str → Option Value} {base : Heap} {cs : Cs}
theorem sc__law_rule : FnScope ["_law_book", "_law_rows_here", "_law_lot", "_law_free", "_law_cell_here", "_law_told", "_law_inside", "_law_last", "_law_pair", "_law_row", "_law_due"] ["_law_book", "_law_rows_here", "_law_lot", "_law_free", "_law_cell_here"] (defScope s__law_rule) := ⟨rfl, rfl, rfl, by decide +kernel, rfl, by decide +kernel, by decide +kernel⟩
def sp__law_rule (K : PySem.W.Frag) (cs : Cs) : Sp := Pm (ι := List Str × List (List Int) × List Int × Nat) (fun ⟨names, rows, lot, c⟩ => RlOk names rows lot ∧ c < names.length) (fun ⟨names, rows, lot, c⟩ => [rBook K cs.Book (bkR names rows), rLst K (rows.map fun l => rLst K (l.map rInt)), rLst K (lot.map rInt), rLh ((freeL rows lot names.length).map rInt), rInt (c : Int)]) (fun ⟨names, rows, lot, c⟩ => .val (rBl true))
theorem ok__law_rule (T : Txt K mg cs) : Cal P w K mg base 7 "_law_rule" (sp__law_rule K cs) := by
  refine cal_ok T.d__law_rule sc__law_rule (fun g => rfl) (fun _ _ _ _ _ _ us hl => match us, hl with | [_, _, _, _, _], _ => rfl) ?_
  rintro X rfl rfl rfl rfl rfl B Bf ⟨names, rows, lot, c⟩ F0 H0 D hp R hnx
  obtain ⟨hp, hcn⟩ := hp
  have hn := hp.d.n2
  have hkl := freeL_len rows lot names.length
  have hrm := hp.m
  have hrl := ru_len hp (c := c)
  refine @go_nf _ _ _ _ _ _ [_, _, _, _, _, _, _, _, _, _, _] rfl ?go_1
  refine go_set B (i := 5) (CA.val (ca_callO (okr_settling_rule X.K) B (ok_settling_rule T) (by decide) (bkR names rows, lot, (c : Int)) ?c_settling_rule_1 ?o_settling_rule_2 (da_cons (de_var B (i := 0) rfl rfl (.inl rfl)) (da_cons (DL.froz (dl_list B T.b_list (de_var B (i := 2) rfl rfl (.inl rfl)) rfl)) (da_cons (de_var B (i := 4) rfl rfl (.inl rfl)) da_nil))) rfl)) rfl (.inl rfl) ?go_2
  (case c_settling_rule_1 => exact ⟨rl_pc hp, rl_ro hp⟩)
  (case o_settling_rule_2 => exact (if_neg (bad_no2 hp)).trans (if_neg (fun z => z ⟨by omega, by show (c : Int) < (names.length : Nat); omega⟩)))
  refine @go_nf _ _ _ _ _ _ [_, _, _, _, _, _, _, _, _, _, _] rfl ?go_3
  refine go_set B (i := 6) (de_eqI (CA.val (ca_call B (ok__law_rank_at T) (by decide) (rows, freeL rows lot names.length ++ [(c : Int)], names.length) ?c_law_rank_at_5 (da_cons (de_var B (i := 1) rfl rfl (.inl rfl)) (da_cons (DL.froz (DL.to (l' := List.map rInt (freeL rows lot names.length ++ [(c : Int)])) (dl_catH ?cz3 (de_var B (i := 3) rfl rfl (.inl rfl)) (DL.hfz (dl_lst (da_cons (de_var B (i := 4) rfl rfl (.inl rfl)) da_nil) (show (1 : Nat) ≤ sizeLine by decide)))) ?cl4)) da_nil)) rfl)) (de_lenM B T.b_len (de_h2l (de_var B (i := 3) rfl rfl (.inl rfl))) rfl)) rfl (.inl rfl) ?go_4
  (case cz3 => rw [List.length_map]; exact Nat.le_trans (show _ ≤ 40 by simp; omega) (by decide))
  (case cl4 => rw [List.map_append]; rfl)
  (case c_law_rank_at_5 => exact ff_rkn ⟨hp.d, hp.m⟩ ⟨by omega, by omega⟩)
  refine @go_nf _ _ _ _ _ _ [_, _, _, _, _, _, _, _, _, _, _] rfl ?go_5
  refine go_if (DW.t (dw_or (dt_oIs (R := (fun l => rLst X.K (List.map (rP X.K rInt (rNum X.K)) l))) (fun _ => notNon_lst) (de_var B (i := 5) rfl rfl (.inl rfl))) (fun hb1 => (dw_or1 (dt_not (dt_val (de_var B (i := 6) rfl rfl (.inl rfl)))))))) (fun hc => ?gt_6) (fun hc => ?gf_7)
  case gt_6 =>
    have h1 := hc
    refine go_ret R (de_and (de_oIs (R := (fun l => rLst X.K (List.map (rP X.K rInt (rNum X.K)) l))) (fun _ => notNon_lst) (de_var B (i := 5) rfl rfl (.inl rfl))) (fun hb1 => (de_one (de_not (de_var B (i := 6) rfl rfl (.inl rfl)))))) ?rs_8
    (case rs_8 => exact Sub.of (congrArg rBl (ro_t hp rfl h1)))
  case gf_7 =>
    have h1 := ro_f hp rfl hc
    have hz := h1.2.1
    have hru := h1.2.2
    refine go_then ?go_9
    refine go_if (dt_not (dt_val (de_isi (T := "list") B T.b_isinstance rty_lst (kit_ty (r := true) (by decide +kernel)) (de_oU (R := (fun l => rLst X.K (List.map (rP X.K rInt (rNum X.K)) l))) [] ?oo6 (de_var B (i := 5) rfl rfl (.inl rfl))) (de_ty B T.b_list (by decide +kernel) rfl) rfl))) (fun hc => ?gt_10) (fun hc => ?gf_11)
    (case oo6 => exact h1.1)
    case gt_10 =>
      exfalso
      revert hc; simp
    case gf_11 =>
      try (simp only [decide_eq_true_eq, decide_eq_false_iff_not, Bool.not_eq_true', Bool.not_eq_false', Bool.not_eq_true, Bool.not_eq_false] at hc)
      refine go_then ?go_12
      refine go_set B (i := 7) (de_neg de_int) rfl (.inl rfl) ?go_13
      refine @go_nf _ _ _ _ _ _ [_, _, _, _, _, _, _, _, _, _, _] rfl ?go_14
      refine go_forS B (fun i => [(7, .im (rInt (lastP (ruR names rows lot c) i))), (8, .any)]) (fun i => True) (sr_listM (R := (rP X.K rInt (rNum X.K))) ((0 : Int), (0 : Rat)) (de_oU (R := (fun l => rLst X.K (List.map (rP X.K rInt (rNum X.K)) l))) [] ?oo7 (de_var B (i := 5) rfl rfl (.inl rfl)))) _ (fun i hi => (dg_name B (i := 8) rfl (.inl rfl))) ?h0_15 ?j0_16 (fun F1 u i hi hj => ?gb_17) (fun hj => ?ge_18)
      (case oo7 => exact h1.1)
      (case h0_15 => refine .same ?_; refine .same ?_; refine .same ?_; refine .same ?_; refine .same ?_; refine .same ?_; refine .same ?_; refine .im ?h ?_; (case h => exact Sub.rfl); refine .any ?_; refine .same ?_; refine .same ?_; exact .nil)
      (case j0_16 => trivial)
      case gb_17 =>
        refine @go_nf _ _ _ _ _ _ [_, _, _, _, _, _, _, _, _, _, _] rfl ?go_19
        refine go_if (DW.t (dw_or (dt_not (dt_val (de_isi (T := "tuple") B T.b_isinstance rty_tup (kit_ty (r := true) (by decide +kernel)) (de_var B (i := 8) rfl rfl (.inl rfl)) (de_ty B T.b_tuple (by decide +kernel) rfl) rfl))) (fun hb1 => (dw_or (dt_neI (de_lenT B T.b_len (de_var B (i := 8) rfl rfl (.inl rfl)) rfl) de_int) (fun hb2 => (dw_or (dt_not (dt_val (CA.val (ca_call B (ok__law_is_int T) (by decide) _ trivial (da_cons (de_i2n (de_ixT (r := rInt (Prod.fst _)) rfl (de_var B (i := 8) rfl rfl (.inl rfl)) de_int)) da_nil) rfl)))) (fun hb3 => (dw_or1 (dt_not (dt_val (CA.val (ca_call B (ok__law_is_number T) (by decide) _ ?c_law_is_number_8 (da_cons (de_ixT (r := (rNum X.K) (Prod.snd _)) rfl (de_var B (i := 8) rfl rfl (.inl rfl)) de_int) da_nil) rfl)))))))))))) (fun hc => ?gt_20) (fun hc => ?gf_21)
        (case c_law_is_number_8 => rw [hru] at hi ⊢; exact (ru_at hp hi).2.2.2.2.mono (by decide))
        case gt_20 =>
          exfalso
          revert hc; simp
        case gf_21 =>
          skip
          refine go_then ?go_22
          refine go_if (DW.t (dw_or (dt_le (de_ixT (r := rInt (Prod.fst _)) rfl (de_var B (i := 8) rfl rfl (.inl rfl)) de_int) (de_var B (i := 7) rfl rfl (.inl rfl))) (fun hb1 => (dw_or (dt_notInT dat_int (by decide) B (de_ixT (r := rInt (Prod.fst _)) rfl (de_var B (i := 8) rfl rfl (.inl rfl)) de_int) (de_h2l (de_var B (i := 3) rfl rfl (.inl rfl)))) (fun hb2 => (dw_or1 (dt_eqN B (de_ixT (r := (rNum X.K) (Prod.snd _)) rfl (de_var B (i := 8) rfl rfl (.inl rfl)) de_int) (de_i2n de_int)))))))) (fun hc => ?gt_23) (fun hc => ?gf_24)
          case gt_23 =>
            exfalso
            rw [hru] at hi hc; exact ru_i4 hp hi hc
          case gf_24 =>
            skip
            refine go_then ?go_25
            refine go_set B (i := 7) (de_ixT (r := rInt (Prod.fst _)) rfl (de_var B (i := 8) rfl rfl (.inl rfl)) de_int) rfl (.inl rfl) ?go_26
            refine @go_nf _ _ _ _ _ _ [_, _, _, _, _, _, _, _, _, _, _] rfl ?go_27
            refine go_turnS ?jn_28 ?ln_29
            (case jn_28 => trivial)
            (case ln_29 => refine .same ?_; refine .same ?_; refine .same ?_; refine .same ?_; refine .same ?_; refine .same ?_; refine .same ?_; refine .im ?h ?_; (case h => rw [hru]; exact Sub.rfl); refine .any ?_; refine .same ?_; refine .same ?_; exact .nil)
      case ge_18 =>
        refine @go_nf _ _ _ _ _ _ [_, _, _, _, _, _, _, _, _, _, _] rfl ?go_30
        skip
        refine go_forS B (fun i => [(8, .any), (9, .any), (10, .any)]) (fun i => True) (sr_listM (R := (fun l => rLst X.K (List.map rInt l))) [] (de_var B (i := 1) rfl rfl (.inl rfl))) _ (fun i hi => (dg_name B (i := 9) rfl (.inl rfl))) ?h0_31 ?j0_32 (fun F1 u i hi hj => ?gb_33) (fun hj => ?ge_34)
        (case h0_31 => refine .same ?_; refine .same ?_; refine .same ?_; refine .same ?_; refine .same ?_; refine .same ?_; refine .same ?_; refine .same ?_; refine .any ?_; refine .any ?_; refine .any ?_; exact .nil)
        (case j0_32 => trivial)
        case gb_33 =>
          refine @go_nf _ _ _ _ _ _ [_, _, _, _, _, _, _, _, _, _, _] rfl ?go_35
          refine go_set B (i := 10) (de_i2n de_int) rfl (.inl rfl) ?go_36
          refine @go_nf _ _ _ _ _ _ [_, _, _, _, _, _, _, _, _, _, _] rfl ?go_37
          refine go_forS B (fun i2 => [(8, .any), (10, .im (rNum X.K (sumP ((ruR names rows lot c).take i2) (vi (rows.getD i [])))))]) (fun i2 => True) (sr_listM (R := (rP X.K rInt (rNum X.K))) ((0 : Int), (0 : Rat)) (de_oU (R := (fun l => rLst X.K (List.map (rP X.K rInt (rNum X.K)) l))) [] ?oo9 (de_var B (i := 5) rfl rfl (.inl rfl)))) _ (fun i2 hi2 => (dg_name B (i := 8) rfl (.inl rfl))) ?h0_38 ?j0_39 (fun F12 u2 i2 hi2 hj2 => ?gb_40) (fun hj2 => ?ge_41)
          (case oo9 => exact h1.1)
          (case h0_38 => refine .same ?_; refine .same ?_; refine .same ?_; refine .same ?_; refine .same ?_; refine .same ?_; refine .same ?_; refine .same ?_; refine .any ?_; refine .same ?_; refine .im ?h ?_; (case h => exact Sub.rfl); exact .nil)
          (case j0_39 => trivial)
          case gb_40 =>
            refine @go_nf _ _ _ _ _ _ [_, _, _, _, _, _, _, _, _, _, _] rfl ?go_42
            refine go_set B (i := 10) (CA.val (ca_call B (ok__law_plus T) (by decide) (_, _) ?c_law_plus_13 (da_cons (de_var B (i := 10) rfl rfl (.inl rfl)) (da_cons (CA.val (ca_call B (ok__law_times T) (by decide) (_, _) ?c_law_times_12 (da_cons (de_ixT (r := (rNum X.K) (Prod.snd _)) rfl (de_var B (i := 8) rfl rfl (.inl rfl)) de_int) (da_cons (de_i2n (de_ixM (R := rInt) (0 : Int) ?xl10 ?xh11 (de_var B (i := 9) rfl rfl (.inl rfl)) (de_ixT (r := rInt (Prod.fst _)) rfl (de_var B (i := 8) rfl rfl (.inl rfl)) de_int))) da_nil)) rfl)) da_nil)) rfl)) rfl (.inl rfl) ?go_43
            (case xl10 => first | omega | (rw [hru] at hi2 ⊢; exact (ru_at hp hi2).1))
            (case xh11 => rw [rl_len2 hp hi]; first | omega | (rw [hru] at hi2 ⊢; exact (ru_at hp hi2).2.1))
            (case c_law_times_12 => rw [hru] at hi2 ⊢; exact ru_tm hp hi hi2 _)
            (case c_law_plus_13 => rw [hru] at hi2 ⊢; exact ru_pl hp hi hi2 _ _)
            refine @go_nf _ _ _ _ _ _ [_, _, _, _, _, _, _, _, _, _, _] rfl ?go_44
            refine go_turnS ?jn_45 ?ln_46
            (case jn_45 => trivial)
            (case ln_46 => refine .same ?_; refine .same ?_; refine .same ?_; refine .same ?_; refine .same ?_; refine .same ?_; refine .same ?_; refine .same ?_; refine .any ?_; refine .same ?_; refine .im ?h ?_; (case h => rw [hru] at hi2 ⊢; exact Sub.of (congrArg (rNum X.K) (sumP_step hi2 _).symm)); exact .nil)
          case ge_41 =>
            refine @go_nf _ _ _ _ _ _ [_, _, _, _, _, _, _, _, _, _, _] rfl ?go_47
            rw [hru, List.take_length]
            refine go_if (dt_neN B (de_var B (i := 10) rfl rfl (.inl rfl)) (de_i2n (de_ixM (R := rInt) (0 : Int) ?xl14 ?xh15 (de_var B (i := 9) rfl rfl (.inl rfl)) (de_var B (i := 4) rfl rfl (.inl rfl))))) (fun hc => ?gt_48) (fun hc => ?gf_49)
            (case xl14 => first | omega | (rw [hru] at hi2 ⊢; exact (ru_at hp hi2).1))
            (case xh15 => rw [rl_len2 hp hi]; first | omega | (rw [hru] at hi2 ⊢; exact (ru_at hp hi2).2.1))
            case gt_48 =>
              exfalso
              rw [ru_due hp hz (getD_memL hi)] at hc; revert hc; simp
            case gf_49 =>
              skip
              refine go_then ?go_50
              refine go_turnS ?jn_51 ?ln_52
              (case jn_51 => trivial)
              (case ln_52 => refine .same ?_; refine .same ?_; refine .same ?_; refine .same ?_; refine .same ?_; refine .same ?_; refine .same ?_; refine .same ?_; refine .any ?_; refine .any ?_; refine .any ?_; exact .nil)
        case ge_34 =>
          refine @go_nf _ _ _ _ _ _ [_, _, _, _, _, _, _, _, _, _, _] rfl ?go_53
          refine go_ret R de_bl ?rs_54
          (case rs_54 => exact Sub.rfl)
theorem sc__law_no_cell_v_ok : FnScope ["_law_book", "_law_door", "_law_cells_here", "_law_cell_here", "e"] ["_law_book", "_law_door", "_law_cells_here", "_law_cell_here"] (defScope s__law_no_cell) := ⟨rfl, rfl, rfl, by decide +kernel, rfl, by decide +kernel, by decide +kernel⟩
def sp__law_no_cell_v_ok (K : PySem.W.Frag) (cs : Cs) : Sp := Pm (ι := Bk × List Int × Int × Int) (fun ⟨b, cells, c, d⟩ => NcOk b cells ∧ badC b.size cells = none ∧ 0 ≤ c ∧ c < (b.size : Int)) (fun ⟨b, cells, c, d⟩ => [rBook K cs.Book b, rInt d, rLst K (cells.map rInt), rInt c]) (fun ⟨b, cells, c, d⟩ => .val (rStr "none"))
theorem ok__law_no_cell_v_ok (T : Txt K mg cs) : Cal P w K mg base 8 "_law_no_cell" (sp__law_no_cell_v_ok K cs) := by
  refine cal_okT T.d__law_no_cell sc__law_no_cell_v_ok (fun g => rfl) (fun _ _ _ _ _ _ us hl => match us, hl with | [_, _, _, _], _ => rfl) ?_
  rintro X rfl rfl rfl rfl rfl Z B Bf ⟨b, cells, c, d⟩ F0 H0 D hp R hnx
  obtain ⟨hnc, hb, hc0, hc1⟩ := hp
  have BO := B
  refine go_tryR B Z (i := 4) rfl rfl rfl T.x_NoCell.g (by decide) (fun pn xe B2 tk2 => ?gy_1)
  refine go_ifK [] (dt_eqI (de_var B2 (i := 1) rfl rfl (.inl rfl)) de_int) ?gk_2 (fun hk hc => ?gt_3) (fun hk hc => ?gf_4)
  case gt_3 =>
    skip
    refine go_expr (CA.val (ca_callO (okr_rank X.K) B2 (ok_rank T) (by decide) (_, _) ?c_rank_7 ?o_rank_8 (da_cons (de_var B2 (i := 0) rfl rfl (.inl rfl)) (da_cons (de_var B2 (i := 2) rfl rfl (.inl rfl)) da_nil)) rfl)) ?go_5
    (case c_rank_7 => exact ⟨hnc.l, hnc.ok⟩)
    (case o_rank_8 => exact oc_ok hb)
    refine go_join hk ?jl_6
    (case jl_6 => refine .same ?_; refine .same ?_; refine .same ?_; refine .same ?_; refine .same ?_; exact .nil)
  case gf_4 =>
    skip
    refine go_join hk ?jl_7
    (case jl_7 => refine .same ?_; refine .same ?_; refine .same ?_; refine .same ?_; refine .same ?_; exact .nil)
  case gk_2 =>
    refine go_ifK [] (dt_eqI (de_var B2 (i := 1) rfl rfl (.inl rfl)) de_int) ?gk_8 (fun hk hc => ?gt_9) (fun hk hc => ?gf_10)
    case gt_9 =>
      skip
      refine go_expr (DL.froz (CA.lst (ca_callO (okr_first_free X.K) B2 (ok_first_free T) (by decide) (_, _) ?c_first_free_5 ?o_first_free_6 (da_cons (de_var B2 (i := 0) rfl rfl (.inl rfl)) (da_cons (de_var B2 (i := 2) rfl rfl (.inl rfl)) da_nil)) rfl))) ?go_11
      (case c_first_free_5 => exact ⟨hnc.l, hnc.ok⟩)
      (case o_first_free_6 => exact oc_ok hb)
      refine go_join hk ?jl_12
      (case jl_12 => refine .same ?_; refine .same ?_; refine .same ?_; refine .same ?_; refine .same ?_; exact .nil)
    case gf_10 =>
      skip
      refine go_join hk ?jl_13
      (case jl_13 => refine .same ?_; refine .same ?_; refine .same ?_; refine .same ?_; refine .same ?_; exact .nil)
    case gk_8 =>
      refine go_ifK [] (dt_eqI (de_var B2 (i := 1) rfl rfl (.inl rfl)) de_int) ?gk_14 (fun hk hc => ?gt_15) (fun hk hc => ?gf_16)
      case gt_15 =>
        skip
        refine go_expr (DL.froz (CA.lst (ca_callO (okr_settled X.K) B2 (ok_settled T) (by decide) (_, _) ?c_settled_3 ?o_settled_4 (da_cons (de_var B2 (i := 0) rfl rfl (.inl rfl)) (da_cons (de_var B2 (i := 2) rfl rfl (.inl rfl)) da_nil)) rfl))) ?go_17
        (case c_settled_3 => exact ⟨hnc.l, hnc.ok, hnc.sz⟩)
        (case o_settled_4 => exact oc_ok hb)
        refine go_join hk ?jl_18
        (case jl_18 => refine .same ?_; refine .same ?_; refine .same ?_; refine .same ?_; refine .same ?_; exact .nil)
      case gf_16 =>
        skip
        refine go_join hk ?jl_19
        (case jl_19 => refine .same ?_; refine .same ?_; refine .same ?_; refine .same ?_; refine .same ?_; exact .nil)
      case gk_14 =>
        refine go_ifK [] (dt_eqI (de_var B2 (i := 1) rfl rfl (.inl rfl)) de_int) ?gk_20 (fun hk hc => ?gt_21) (fun hk hc => ?gf_22)
        case gt_21 =>
          skip
          refine go_expr (CA.val (ca_callO (okr_settling_rule X.K) B2 (ok_settling_rule T) (by decide) (_, _, _) ?c_settling_rule_1 ?o_settling_rule_2 (da_cons (de_var B2 (i := 0) rfl rfl (.inl rfl)) (da_cons (de_var B2 (i := 2) rfl rfl (.inl rfl)) (da_cons (de_var B2 (i := 3) rfl rfl (.inl rfl)) da_nil))) rfl)) ?go_23
          (case c_settling_rule_1 => exact ⟨⟨hnc.l, hnc.ok⟩, hnc.ru⟩)
          (case o_settling_rule_2 => exact (oc_ok hb).trans (if_neg fun z => z ⟨hc0, hc1⟩))
          refine go_join hk ?jl_24
          (case jl_24 => refine .same ?_; refine .same ?_; refine .same ?_; refine .same ?_; refine .same ?_; exact .nil)
        case gf_22 =>
          skip
          refine go_join hk ?jl_25
          (case jl_25 => refine .same ?_; refine .same ?_; refine .same ?_; refine .same ?_; refine .same ?_; exact .nil)
        case gk_20 =>
          refine go_thenY ?go_26
          refine go_ret R de_str ?rs_27
          (case rs_27 => exact Sub.rfl)
theorem sc__law_no_cell_v_bad : FnScope ["_law_book", "_law_door", "_law_cells_here", "_law_cell_here", "e"] ["_law_book", "_law_door", "_law_cells_here", "_law_cell_here"] (defScope s__law_no_cell) := ⟨rfl, rfl, rfl, by decide +kernel, rfl, by decide +kernel, by decide +kernel⟩
def sp__law_no_cell_v_bad (K : PySem.W.Frag) (cs : Cs) : Sp := Pm (ι := Bk × List Int × Int × Int × Int) (fun ⟨b, cells, c, d, x⟩ => NcBad b cells c d x) (fun ⟨b, cells, c, d, x⟩ => [rBook K cs.Book b, rInt d, rLst K (cells.map rInt), rInt c]) (fun ⟨b, cells, c, d, x⟩ => .val (rInt x))
theorem ok__law_no_cell_v_bad (T : Txt K mg cs) : Cal P w K mg base 8 "_law_no_cell" (sp__law_no_cell_v_bad K cs) := by
  refine cal_okT T.d__law_no_cell sc__law_no_cell_v_bad (fun g => rfl) (fun _ _ _ _ _ _ us hl => match us, hl with | [_, _, _, _], _ => rfl) ?_
  rintro X rfl rfl rfl rfl rfl Z B Bf ⟨b, cells, c, d, x⟩ F0 H0 D hp R hnx
  have hnc := hp.ok
  have BO := B
  refine go_tryR B Z (i := 4) rfl rfl rfl T.x_NoCell.g (by decide) (fun pn xe B2 tk2 => ?gy_1)
  refine go_if (dt_eqI (de_var B2 (i := 1) rfl rfl (.inl rfl)) de_int) (fun hc => ?gt_2) (fun hc => ?gf_3)
  case gt_2 =>
    skip
    refine go_exprF (C := cs.NoCell) (fs := [("cell", .int x)]) (ex_callF B2 tk2 (ok_rank T) (by decide) (_, _) ?c_rank_1 (oc_bad (hp.ne hc (by decide))) (da_cons (de_var B2 (i := 0) rfl rfl (.inl rfl)) (da_cons (de_var B2 (i := 2) rfl rfl (.inl rfl)) da_nil)) rfl) (fun F H σ en H1 d s1 n1 z1 => ⟨true, (PySem.W.exm_ref T.x_NoCell.oex.exC T.x_NoCell.xf.hdC T.x_NoCell.oex.tyC T.s_NoCell_NoCell), fun _ al hal oe pn2 hz hv => ?gx_4, nofun⟩)
    (case c_rank_1 => exact ⟨hnc.l, hnc.ok⟩)
    have BSu : BS (X.suite al ((al, oe) :: pn2)) _ _ := BO.su
    obtain ⟨F1, en1⟩ := en_errF (i := 4) (a := al) en s1 n1 z1
    refine go_run en1 ?go_5
    refine go_if (DW.t (dw_or (dt_not (dt_val (de_isF BSu T.e_NoCell hz hv T.b_isinstance rfl (i := 4) rfl rfl (.inl rfl) (clsE_own (BSu.gl rfl) T.x_BookError.g) T.k_NoCell_BookError))) (fun hb1 => (dw_or1 (dt_not (dt_val (de_isF BSu T.e_NoCell hz hv T.b_isinstance rfl (i := 4) rfl rfl (.inl rfl) (clsE_blt (BSu.gl rfl) T.b_ValueError (by decide +kernel)) T.k_NoCell_ValueError))))))) (fun hc => ?gt_6) (fun hc => ?gf_7)
    case gt_6 =>
      exfalso; revert hc; simp
    case gf_7 =>
      try (simp only [decide_eq_true_eq, decide_eq_false_iff_not, Bool.not_eq_true', Bool.not_eq_false', Bool.not_eq_true, Bool.not_eq_false] at hc)
      refine go_then ?go_8
      refine go_ret (RT.su R) (de_fldF BSu T.x_NoCell.xf T.x_NoCell.no hz hv (i := 4) rfl rfl (.inl rfl) (v := .int x) rfl) ?rs_9
      (case rs_9 => exact Sub.rfl)
  case gf_3 =>
    have h0 := of_decide_eq_false hc
    refine go_then ?go_10
    refine go_if (dt_eqI (de_var B2 (i := 1) rfl rfl (.inl rfl)) de_int) (fun hc => ?gt_11) (fun hc => ?gf_12)
    case gt_11 =>
      skip
      refine go_exprF (C := cs.NoCell) (fs := [("cell", .int x)]) (ex_callF B2 tk2 (ok_first_free T) (by decide) (_, _) ?c_first_free_2 (oc_bad (hp.ne hc (by decide))) (da_cons (de_var B2 (i := 0) rfl rfl (.inl rfl)) (da_cons (de_var B2 (i := 2) rfl rfl (.inl rfl)) da_nil)) rfl) (fun F H σ en H1 d s1 n1 z1 => ⟨true, (PySem.W.exm_ref T.x_NoCell.oex.exC T.x_NoCell.xf.hdC T.x_NoCell.oex.tyC T.s_NoCell_NoCell), fun _ al hal oe pn2 hz hv => ?gx_13, nofun⟩)
      (case c_first_free_2 => exact ⟨hnc.l, hnc.ok⟩)
      have BSu : BS (X.suite al ((al, oe) :: pn2)) _ _ := BO.su
      obtain ⟨F1, en1⟩ := en_errF (i := 4) (a := al) en s1 n1 z1
      refine go_run en1 ?go_14
      refine go_if (DW.t (dw_or (dt_not (dt_val (de_isF BSu T.e_NoCell hz hv T.b_isinstance rfl (i := 4) rfl rfl (.inl rfl) (clsE_own (BSu.gl rfl) T.x_BookError.g) T.k_NoCell_BookError))) (fun hb1 => (dw_or1 (dt_not (dt_val (de_isF BSu T.e_NoCell hz hv T.b_isinstance rfl (i := 4) rfl rfl (.inl rfl) (clsE_blt (BSu.gl rfl) T.b_ValueError (by decide +kernel)) T.k_NoCell_ValueError))))))) (fun hc => ?gt_15) (fun hc => ?gf_16)
      case gt_15 =>
        exfalso; revert hc; simp
      case gf_16 =>
        try (simp only [decide_eq_true_eq, decide_eq_false_iff_not, Bool.not_eq_true', Bool.not_eq_false', Bool.not_eq_true, Bool.not_eq_false] at hc)
        refine go_then ?go_17
        refine go_ret (RT.su R) (de_fldF BSu T.x_NoCell.xf T.x_NoCell.no hz hv (i := 4) rfl rfl (.inl rfl) (v := .int x) rfl) ?rs_18
        (case rs_18 => exact Sub.rfl)
    case gf_12 =>
      have h1 := of_decide_eq_false hc
      refine go_then ?go_19
      refine go_if (dt_eqI (de_var B2 (i := 1) rfl rfl (.inl rfl)) de_int) (fun hc => ?gt_20) (fun hc => ?gf_21)
      case gt_20 =>
        skip
        refine go_exprF (C := cs.NoCell) (fs := [("cell", .int x)]) (ex_callF B2 tk2 (ok_settled T) (by decide) (_, _) ?c_settled_3 (oc_bad (hp.ne hc (by decide))) (da_cons (de_var B2 (i := 0) rfl rfl (.inl rfl)) (da_cons (de_var B2 (i := 2) rfl rfl (.inl rfl)) da_nil)) rfl) (fun F H σ en H1 d s1 n1 z1 => ⟨true, (PySem.W.exm_ref T.x_NoCell.oex.exC T.x_NoCell.xf.hdC T.x_NoCell.oex.tyC T.s_NoCell_NoCell), fun _ al hal oe pn2 hz hv => ?gx_22, nofun⟩)
        (case c_settled_3 => exact ⟨hnc.l, hnc.ok, hnc.sz⟩)
        have BSu : BS (X.suite al ((al, oe) :: pn2)) _ _ := BO.su
        obtain ⟨F1, en1⟩ := en_errF (i := 4) (a := al) en s1 n1 z1
        refine go_run en1 ?go_23
        refine go_if (DW.t (dw_or (dt_not (dt_val (de_isF BSu T.e_NoCell hz hv T.b_isinstance rfl (i := 4) rfl rfl (.inl rfl) (clsE_own (BSu.gl rfl) T.x_BookError.g) T.k_NoCell_BookError))) (fun hb1 => (dw_or1 (dt_not (dt_val (de_isF BSu T.e_NoCell hz hv T.b_isinstance rfl (i := 4) rfl rfl (.inl rfl) (clsE_blt (BSu.gl rfl) T.b_ValueError (by decide +kernel)) T.k_NoCell_ValueError))))))) (fun hc => ?gt_24) (fun hc => ?gf_25)
        case gt_24 =>
          exfalso; revert hc; simp
        case gf_25 =>
          try (simp only [decide_eq_true_eq, decide_eq_false_iff_not, Bool.not_eq_true', Bool.not_eq_false', Bool.not_eq_true, Bool.not_eq_false] at hc)
          refine go_then ?go_26
          refine go_ret (RT.su R) (de_fldF BSu T.x_NoCell.xf T.x_NoCell.no hz hv (i := 4) rfl rfl (.inl rfl) (v := .int x) rfl) ?rs_27
          (case rs_27 => exact Sub.rfl)
      case gf_21 =>
        have h2 := of_decide_eq_false hc
        refine go_then ?go_28
        refine go_if (dt_eqI (de_var B2 (i := 1) rfl rfl (.inl rfl)) de_int) (fun hc => ?gt_29) (fun hc => ?gf_30)
        case gt_29 =>
          skip
          refine go_exprF (C := cs.NoCell) (fs := [("cell", .int x)]) (ex_callF B2 tk2 (ok_settling_rule T) (by decide) (_, _, _) ?c_settling_rule_4 hp.rule (da_cons (de_var B2 (i := 0) rfl rfl (.inl rfl)) (da_cons (de_var B2 (i := 2) rfl rfl (.inl rfl)) (da_cons (de_var B2 (i := 3) rfl rfl (.inl rfl)) da_nil))) rfl) (fun F H σ en H1 d s1 n1 z1 => ⟨true, (PySem.W.exm_ref T.x_NoCell.oex.exC T.x_NoCell.xf.hdC T.x_NoCell.oex.tyC T.s_NoCell_NoCell), fun _ al hal oe pn2 hz hv => ?gx_31, nofun⟩)
          (case c_settling_rule_4 => exact ⟨⟨hnc.l, hnc.ok⟩, hnc.ru⟩)
          have BSu : BS (X.suite al ((al, oe) :: pn2)) _ _ := BO.su
          obtain ⟨F1, en1⟩ := en_errF (i := 4) (a := al) en s1 n1 z1
          refine go_run en1 ?go_32
          refine go_if (DW.t (dw_or (dt_not (dt_val (de_isF BSu T.e_NoCell hz hv T.b_isinstance rfl (i := 4) rfl rfl (.inl rfl) (clsE_own (BSu.gl rfl) T.x_BookError.g) T.k_NoCell_BookError))) (fun hb1 => (dw_or1 (dt_not (dt_val (de_isF BSu T.e_NoCell hz hv T.b_isinstance rfl (i := 4) rfl rfl (.inl rfl) (clsE_blt (BSu.gl rfl) T.b_ValueError (by decide +kernel)) T.k_NoCell_ValueError))))))) (fun hc => ?gt_33) (fun hc => ?gf_34)
          case gt_33 =>
            exfalso; revert hc; simp
          case gf_34 =>
            try (simp only [decide_eq_true_eq, decide_eq_false_iff_not, Bool.not_eq_true', Bool.not_eq_false', Bool.not_eq_true, Bool.not_eq_false] at hc)
            refine go_then ?go_35
            refine go_ret (RT.su R) (de_fldF BSu T.x_NoCell.xf T.x_NoCell.no hz hv (i := 4) rfl rfl (.inl rfl) (v := .int x) rfl) ?rs_36
            (case rs_36 => exact Sub.rfl)
        case gf_30 =>
          have h3 := of_decide_eq_false hc
          refine go_then ?go_37
          refine go_thenY ?go_38
          refine go_ret R de_str ?rs_39
          (case rs_39 => exfalso; have := hp.d0; have := hp.d3; omega)
end K04

set_option Elab.async false
set_option linter.all false
set_option maxRecDepth 100000
set_option maxHeartbeats 4000000
namespace K04
open PySem PySem.Spec PyProof.Rows L2 DL
variable {P : Program} {w : World} {K : PySem.W.Frag} {mg : Str → Option Value} {base : Heap} {cs : Cs}
theorem sc__law_refusals : FnScope ["_law_book", "_law_size", "_law_lot", "_law_numbers_here", "_law_at", "_law_bad", "_law_spoilt", "_law_door"] ["_law_book", "_law_size", "_law_lot", "_law_numbers_here"] (defScope s__law_refusals) := ⟨rfl, rfl, rfl, by decide +kernel, rfl, by decide +kernel, by decide +kernel⟩
def sp__law_refusals (K : PySem.W.Frag) (cs : Cs) : Sp := Pm (ι := List Str × List (List Int) × List Int × List Int) (fun ⟨names, rows, lot, ds⟩ => RlOk names rows lot ∧ lot.length ≤ 9 ∧ 4 ≤ ds.length) (fun ⟨names, rows, lot, ds⟩ => [rBook K cs.Book (bkR names rows), rInt ((names.length : Nat) : Int), rLst K (lot.map rInt), rLst K (ds.map rInt)]) (fun ⟨names, rows, lot, ds⟩ => .val (rBl true))
theorem ok__law_refusals (T : Txt K mg cs) : Cal P w K mg base 9 "_law_refusals" (sp__law_refusals K cs) := by
  refine cal_ok T.d__law_refusals sc__law_refusals (fun g => rfl) (fun _ _ _ _ _ _ us hl => match us, hl with | [_, _, _, _], _ => rfl) ?_
  rintro X rfl rfl rfl rfl rfl B Bf ⟨names, rows, lot, ds⟩ F0 H0 D hp R hnx
  obtain ⟨hp, hl, hd⟩ := hp
  have hn1 := hp.d.n1
  have hn := hp.d.n2
  have hbz := badZ_out ds hp.d.n1
  have hsp := nc_sp (a := (ds.getD 0 0).fmod ((lot.length : Nat) + 1)) hp hl hbz
  have hlo := nc_lot hp
  refine @go_nf _ _ _ _ _ _ [_, _, _, _, _, _, _, _] rfl ?go_1
  refine go_set B (i := 4) (de_mod ?z3 (de_toInt B T.b_int (de_ixM (R := rInt) (0 : Int) ?xl1 ?xh2 (de_var B (i := 3) rfl rfl (.inl rfl)) de_int) rfl) (de_add (de_lenM B T.b_len (de_var B (i := 2) rfl rfl (.inl rfl)) rfl) de_int)) rfl (.inl rfl) ?go_2
  (case xl1 => first | decide | exact (fm_b _ (by decide)).1)
  (case xh2 => first | exact (fm_b _ (by decide)).2 | omega)
  (case z3 => first | decide | omega)
  refine @go_nf _ _ _ _ _ _ [_, _, _, _, _, _, _, _] rfl ?go_3
  refine go_set B (i := 5) (de_ixM (R := rInt) (0 : Int) ?xl14 ?xh15 (DL.froz (DL.to (l' := List.map rInt ([-1, ((names.length : Nat) : Int), -((names.length : Nat) : Int) - (ds.getD 1 0).fmod 900, ((names.length : Nat) : Int) + (ds.getD 2 0).fmod 900])) (dl_lst (da_cons (de_neg de_int) (da_cons (de_var B (i := 1) rfl rfl (.inl rfl)) (da_cons (de_sub (de_neg (de_var B (i := 1) rfl rfl (.inl rfl))) (de_mod ?z6 (de_toInt B T.b_int (de_ixM (R := rInt) (0 : Int) ?xl4 ?xh5 (de_var B (i := 3) rfl rfl (.inl rfl)) de_int) rfl) de_int)) (da_cons (de_add (de_var B (i := 1) rfl rfl (.inl rfl)) (de_mod ?z9 (de_toInt B T.b_int (de_ixM (R := rInt) (0 : Int) ?xl7 ?xh8 (de_var B (i := 3) rfl rfl (.inl rfl)) de_int) rfl) de_int)) da_nil)))) (show (4 : Nat) ≤ sizeLine by decide)) ?cl10)) (de_mod ?z13 (de_toInt B T.b_int (de_ixM (R := rInt) (0 : Int) ?xl11 ?xh12 (de_var B (i := 3) rfl rfl (.inl rfl)) de_int) rfl) de_int)) rfl (.inl rfl) ?go_4
  (case xl4 => first | decide | exact (fm_b _ (by decide)).1)
  (case xh5 => first | exact (fm_b _ (by decide)).2 | omega)
  (case z6 => first | decide | omega)
  (case xl7 => first | decide | exact (fm_b _ (by decide)).1)
  (case xh8 => first | exact (fm_b _ (by decide)).2 | omega)
  (case z9 => first | decide | omega)
  (case cl10 => first | rfl | (unfold spoilt; rw [List.map_append, List.map_append, List.map_append]; rfl))
  (case xl11 => first | decide | exact (fm_b _ (by decide)).1)
  (case xh12 => first | exact (fm_b _ (by decide)).2 | omega)
  (case z13 => first | decide | omega)
  (case xl14 => first | decide | exact (fm_b _ (by decide)).1)
  (case xh15 => first | exact (fm_b _ (by decide)).2 | omega)
  refine @go_nf _ _ _ _ _ _ [_, _, _, _, _, _, _, _] rfl ?go_5
  refine go_setL B (i := 6) (DL.to (l' := List.map rInt (spoilt lot ((ds.getD 0 0).fmod ((lot.length : Nat) + 1)) (badZ ds names.length) names.length)) (dl_catH ?cz20 (DL.hfz (dl_cat (dl_cat (dl_to (de_var B (i := 2) rfl rfl (.inl rfl)) ?sl16 (de_var B (i := 4) rfl rfl (.inl rfl))) (dl_lst (da_cons (de_var B (i := 5) rfl rfl (.inl rfl)) da_nil) (show (1 : Nat) ≤ sizeLine by decide)) ?s17) (dl_from (de_var B (i := 2) rfl rfl (.inl rfl)) ?sl18 (de_var B (i := 4) rfl rfl (.inl rfl))) ?s19)) (DL.hfz (dl_lst (da_cons (de_add (de_var B (i := 1) rfl rfl (.inl rfl)) de_int) (da_cons (de_neg de_int) da_nil)) (show (2 : Nat) ≤ sizeLine by decide)))) ?cl21) rfl (.inl rfl) ?go_6
  (case sl16 => exact Int.fmod_nonneg_of_pos _ (by omega))
  (case s17 => exact Nat.le_trans (show _ ≤ 40 by simp; omega) (by decide))
  (case sl18 => exact Int.fmod_nonneg_of_pos _ (by omega))
  (case s19 => exact Nat.le_trans (show _ ≤ 40 by simp; omega) (by decide))
  (case cz20 => exact Nat.le_trans (show _ ≤ 40 by simp; omega) (by decide))
  (case cl21 => first | rfl | (unfold spoilt; rw [List.map_append, List.map_append, List.map_append]; rfl))
  refine @go_nf _ _ _ _ _ _ [_, _, _, _, _, _, _, _] rfl ?go_7
  refine go_froz 6 rfl ?go_8
  refine @go_nf _ _ _ _ _ _ [_, _, _, _, _, _, _, _] rfl ?go_9
  refine go_forS B (fun i => [(7, .any)]) (fun i => True) (sr_range1 B T.b_range de_int rfl ?r22 ?r23) _ (fun i hi => (dg_name B (i := 7) rfl (.inl rfl))) ?h0_10 ?j0_11 (fun F1 u i hi hj => ?gb_12) (fun hj => ?ge_13)
  (case r22 => decide)
  (case r23 => decide)
  (case h0_10 => refine .same ?_; refine .same ?_; refine .same ?_; refine .same ?_; refine .same ?_; refine .same ?_; refine .same ?_; refine .any ?_; exact .nil)
  (case j0_11 => trivial)
  case gb_12 =>
    refine @go_nf _ _ _ _ _ _ [_, _, _, _, _, _, _, _] rfl ?go_14
    refine go_if (DW.t (dw_or (dt_neI (CA.val (ca_call B (ok__law_no_cell_v_bad T) (by decide) (bkR names rows, spoilt lot ((ds.getD 0 0).fmod ((lot.length : Nat) + 1)) (badZ ds names.length) names.length, 0, (i : Int), badZ ds names.length) ?c_n1_24 (da_cons (de_var B (i := 0) rfl rfl (.inl rfl)) (da_cons (de_var B (i := 7) rfl rfl (.inl rfl)) (da_cons (DL.froz (dl_list B T.b_list (de_var B (i := 6) rfl rfl (.inl rfl)) rfl)) (da_cons de_int da_nil)))) rfl)) (de_var B (i := 5) rfl rfl (.inl rfl))) (fun hb1 => (dw_or1 (dt_neS (CA.val (ca_call B (ok__law_no_cell_v_ok T) (by decide) (bkR names rows, lot, 0, (i : Int)) ?c_n2_25 (da_cons (de_var B (i := 0) rfl rfl (.inl rfl)) (da_cons (de_var B (i := 7) rfl rfl (.inl rfl)) (da_cons (DL.froz (dl_list B T.b_list (de_var B (i := 2) rfl rfl (.inl rfl)) rfl)) (da_cons de_int da_nil)))) rfl)) de_str))))) (fun hc => ?gt_15) (fun hc => ?gf_16)
    (case c_n1_24 => exact ⟨hsp.1, by omega, by omega, .inl hsp.2⟩)
    (case c_n2_25 => exact ⟨hlo.1, hlo.2, by omega, by show (0 : Int) < (names.length : Nat); omega⟩)
    case gt_15 =>
      exfalso
      revert hc; simp [badZ]
    case gf_16 =>
      try (simp only [decide_eq_true_eq, decide_eq_false_iff_not, Bool.not_eq_true', Bool.not_eq_false', Bool.not_eq_true, Bool.not_eq_false] at hc)
      refine go_then ?go_17
      refine go_turnS ?jn_18 ?ln_19
      (case jn_18 => trivial)
      (case ln_19 => refine .same ?_; refine .same ?_; refine .same ?_; refine .same ?_; refine .same ?_; refine .same ?_; refine .same ?_; refine .any ?_; exact .nil)
  case ge_13 =>
    refine @go_nf _ _ _ _ _ _ [_, _, _, _, _, _, _, _] rfl ?go_20
    refine go_if (DW.t (dw_or (dt_neI (CA.val (ca_call B (ok__law_no_cell_v_bad T) (by decide) (bkR names rows, spoilt lot ((ds.getD 0 0).fmod ((lot.length : Nat) + 1)) (badZ ds names.length) names.length, (names.length : Int) + 2, 3, badZ ds names.length) ?c_n3_26 (da_cons (de_var B (i := 0) rfl rfl (.inl rfl)) (da_cons de_int (da_cons (DL.froz (dl_list B T.b_list (de_var B (i := 6) rfl rfl (.inl rfl)) rfl)) (da_cons (de_add (de_var B (i := 1) rfl rfl (.inl rfl)) de_int) da_nil)))) rfl)) (de_var B (i := 5) rfl rfl (.inl rfl))) (fun hb1 => (dw_or1 (dt_neI (CA.val (ca_call B (ok__law_no_cell_v_bad T) (by decide) (bkR names rows, lot, badZ ds names.length, 3, badZ ds names.length) ?c_n4_27 (da_cons (de_var B (i := 0) rfl rfl (.inl rfl)) (da_cons de_int (da_cons (DL.froz (dl_list B T.b_list (de_var B (i := 2) rfl rfl (.inl rfl)) rfl)) (da_cons (de_var B (i := 5) rfl rfl (.inl rfl)) da_nil)))) rfl)) (de_var B (i := 5) rfl rfl (.inl rfl))))))) (fun hc => ?gt_21) (fun hc => ?gf_22)
    (case c_n3_26 => exact ⟨hsp.1, by decide, by decide, .inl hsp.2⟩)
    (case c_n4_27 => exact ⟨hlo.1, by decide, by decide, .inr ⟨rfl, hlo.2, hbz, rfl⟩⟩)
    case gt_21 =>
      exfalso
      revert hc; simp [badZ]
    case gf_22 =>
      try (simp only [decide_eq_true_eq, decide_eq_false_iff_not, Bool.not_eq_true', Bool.not_eq_false', Bool.not_eq_true, Bool.not_eq_false] at hc)
      refine go_then ?go_23
      refine go_ret R de_bl ?rs_24
      (case rs_24 => exact Sub.rfl)
theorem sc__law_beside : FnScope ["_law_names", "_law_size", "_law_lot", "_law_at", "_law_free", "_law_plain", "_law_zeros", "_law_cell_here"] ["_law_names", "_law_size", "_law_lot", "_law_at"] (defScope s__law_beside) := ⟨rfl, rfl, rfl, by decide +kernel, rfl, by decide +kernel, by decide +kernel⟩
def sp__law_beside (K : PySem.W.Frag) (cs : Cs) : Sp := Pm (ι := List Str × List Int × Nat) (fun ⟨names, lot, c⟩ => BsOk names lot ∧ c < names.length) (fun ⟨names, lot, c⟩ => [rLst K (names.map rStr), rInt ((names.length : Nat) : Int), rLst K (lot.map rInt), rInt (c : Int)]) (fun ⟨names, lot, c⟩ => .val (rBl true))
theorem ok__law_beside (T : Txt K mg cs) : Cal P w K mg base 9 "_law_beside" (sp__law_beside K cs) := by
  refine cal_ok T.d__law_beside sc__law_beside (fun g => rfl) (fun _ _ _ _ _ _ us hl => match us, hl with | [_, _, _, _], _ => rfl) ?_
  rintro X rfl rfl rfl rfl rfl B Bf ⟨names, lot, c⟩ F0 H0 D hp R hnx
  obtain ⟨hp, hcn⟩ := hp
  have hn1 := hp.n1
  have hn := hp.n2
  have hf := fr_nc hp
  have hz := bz_nc hp hp.inn hp.l
  have hz2 := bz_nc hp (lot2 := []) (fun c h => (List.not_mem_nil h).elim) (by decide)
  refine @go_nf _ _ _ _ _ _ [_, _, _, _, _, _, _, _] rfl ?go_1
  refine go_set B (i := 4) (CA.val (ca_cmeth B (ok_Book_free T) (by decide) _ ?c_Book_free_1 T.i_Book.g rfl rfl (da_cons (de_var B (i := 0) rfl rfl (.inl rfl)) da_nil))) rfl (.inl rfl) ?go_2
  (case c_Book_free_1 => exact bf_ok hp)
  refine @go_nf _ _ _ _ _ _ [_, _, _, _, _, _, _, _] rfl ?go_3
  refine go_setLc (l' := List.map rInt (zl (lotN lot names.length))) B [("_law_cell_here", 7)] (sr_range1 B T.b_range (de_var B (i := 1) rfl rfl (.inl rfl)) rfl ?r2 ?r3) (blkOk_by (by decide +kernel)) _ _ (fun i : Nat => rInt ((i : Nat) : Int)) ?sz4 (by decide) (fun _ _ _ _ _ B i hi => (dg_name B (i := 7) rfl (.inl rfl))) (fun _ _ _ _ _ B i hi => (dts_one (dt_inT dat_int (by decide) B (de_var B (i := 7) rfl rfl (.inl rfl)) (de_var B (i := 2) rfl rfl (.inr (.inl rfl)))))) (fun _ _ _ _ _ B i hi hb => (de_var B (i := 7) rfl rfl (.inl rfl))) (hl := ?cl5) (iy := 5) (hNy := rfl) (hyl := rfl) (h := ?go_4) (hsw := fun env h => by cases env; subst h; with_unfolding_all rfl)
  (case r2 => first | omega | decide)
  (case r3 => first | omega | decide)
  (case sz4 => first | exact Nat.lt_of_le_of_lt (show _ ≤ 16 by omega) (by decide))
  (case cl5 => first | rfl | exact plain_lc | exact upto_lc2)
  refine @go_nf _ _ _ _ _ _ [_, _, _, _, _, _, _, _] rfl ?go_5
  refine go_froz 5 rfl ?go_6
  refine @go_nf _ _ _ _ _ _ [_, _, _, _, _, _, _, _] rfl ?go_7
  refine go_if (DW.t (dw_or (dt_not (dt_val (CA.val (ca_call B (ok__law_cells T) (by decide) (_, _) ?c_k1_8 (da_cons (DL.froz (CA.lst (ca_callO (okr_first_free X.K) B (ok_first_free T) (by decide) (bkF names, lot) ?c_f_6 ?o_first_free_7 (da_cons (de_var B (i := 4) rfl rfl (.inl rfl)) (da_cons (de_var B (i := 2) rfl rfl (.inr (.inl rfl))) da_nil)) rfl))) (da_cons (de_var B (i := 5) rfl rfl (.inl rfl)) da_nil)) rfl)))) (fun hb1 => (dw_or1 (dt_not (dt_val (CA.val (ca_call B (ok__law_cells T) (by decide) (_, _) ?c_k2_11 (da_cons (DL.froz (CA.lst (ca_callO (okr_settled X.K) B (ok_settled T) (by decide) (bkF names, lot) ?c_fs_9 ?o_settled_10 (da_cons (de_var B (i := 4) rfl rfl (.inl rfl)) (da_cons (de_var B (i := 2) rfl rfl (.inr (.inl rfl))) da_nil)) rfl))) (da_cons (de_var B (i := 5) rfl rfl (.inl rfl)) da_nil)) rfl)))))))) (fun hc => ?gt_8) (fun hc => ?gf_9)
  (case c_f_6 => exact ⟨hf.1.l, hf.1.ok⟩)
  (case o_first_free_7 => first | exact oc_ok hf.2 | exact oc_ok hz.2)
  (case c_k1_8 => exact ⟨fr_K hp, zl_len hn⟩)
  (case c_fs_9 => exact ⟨hf.1.l, hf.1.ok, hf.1.sz⟩)
  (case o_settled_10 => first | exact oc_ok hf.2 | exact oc_ok hz2.2)
  (case c_k2_11 => exact ⟨fr_settled hp, zl_len hn⟩)
  case gt_8 =>
    exfalso
    revert hc; simp
  case gf_9 =>
    try (simp only [decide_eq_true_eq, decide_eq_false_iff_not, Bool.not_eq_true', Bool.not_eq_false', Bool.not_eq_true, Bool.not_eq_false] at hc)
    refine go_then ?go_10
    refine go_if (DW.t (dw_or (dt_neI (CA.val (ca_callO (okr_rank X.K) B (ok_rank T) (by decide) (bkF names, lot) ?c_f_12 ?o_rank_13 (da_cons (de_var B (i := 4) rfl rfl (.inl rfl)) (da_cons (de_var B (i := 2) rfl rfl (.inr (.inl rfl))) da_nil)) rfl)) (de_lenM B T.b_len (de_var B (i := 5) rfl rfl (.inl rfl)) rfl)) (fun hb1 => (dw_or1 (dt_neT (dat_o (dat_lst (dat_p dat_int dat_num)) (fun _ => ⟨rfl, rfl⟩)) (by decide) B (CA.val (ca_callO (okr_settling_rule X.K) B (ok_settling_rule T) (by decide) (bkF names, lot, (c : Int)) ?c_fr_14 ?o_settling_rule_15 (da_cons (de_var B (i := 4) rfl rfl (.inl rfl)) (da_cons (de_var B (i := 2) rfl rfl (.inr (.inl rfl))) (da_cons (de_var B (i := 3) rfl rfl (.inl rfl)) da_nil))) rfl)) (DE.to (r' := (rOp (fun l => rLst X.K (List.map (rP X.K rInt (rNum X.K)) l)) (rlF lot c))) (de_if (dt_inT dat_int (by decide) B (de_var B (i := 3) rfl rfl (.inl rfl)) (de_var B (i := 2) rfl rfl (.inr (.inl rfl)))) (fun hc => DE.to (r' := (rOp (fun l => rLst X.K (List.map (rP X.K rInt (rNum X.K)) l)) (rlF lot c))) (de_oS (R := fun l => rLst X.K (List.map (rP X.K rInt (rNum X.K)) l)) (v := [((c : Int), (1 : Rat))]) (DL.froz (DL.to (l' := List.map (rP X.K rInt (rNum X.K)) [((c : Int), (1 : Rat))]) (dl_lst (da_cons (de_tup (da_cons (de_var B (i := 3) rfl rfl (.inl rfl)) (da_cons (de_i2n de_int) da_nil)) (show (2 : Nat) ≤ sizeLine by decide)) da_nil) (show (1 : Nat) ≤ sizeLine by decide)) rfl))) ?sa16) (fun hc => DE.to (r' := (rOp (fun l => rLst X.K (List.map (rP X.K rInt (rNum X.K)) l)) (rlF lot c))) (de_oN (R := fun l => rLst X.K (List.map (rP X.K rInt (rNum X.K)) l)) de_non) ?sb17)) rfl)))))) (fun hc => ?gt_11) (fun hc => ?gf_12)
    (case c_f_12 => exact ⟨hf.1.l, hf.1.ok⟩)
    (case o_rank_13 => first | exact oc_ok hf.2 | exact oc_ok hz.2)
    (case c_fr_14 => exact ⟨⟨hf.1.l, hf.1.ok⟩, hf.1.ru⟩)
    (case o_settling_rule_15 => first | exact (oc_ok hf.2).trans (if_neg fun z => z ⟨by omega, by show (c : Int) < (names.length : Nat); omega⟩) | exact (oc_ok hz.2).trans (if_neg fun z => z ⟨by omega, by show (c : Int) < (names.length : Nat); omega⟩))
    (case sa16 => rw [rlF, if_pos hc])
    (case sb17 => rw [rlF, if_neg (fun z => Bool.false_ne_true (hc.symm.trans z))])
    case gt_11 =>
      exfalso
      rw [fr_K hp, fr_rule hp hcn] at hc; revert hc; simp
    case gf_12 =>
      try (simp only [decide_eq_true_eq, decide_eq_false_iff_not, Bool.not_eq_true', Bool.not_eq_false', Bool.not_eq_true, Bool.not_eq_false] at hc)
      refine go_then ?go_13
      refine go_set B (i := 6) (DE.to (r' := rBook X.K cs.Book ⟨_, frameQ _ _⟩) (de_make (okr_Book X.K) B (ok_Book T) (by decide) (names, []) ?c_Book_19 ?o_Book_20 rfl (da_cons (de_var B (i := 0) rfl rfl (.inl rfl)) (da_cons (DL.froz (DL.to (l' := List.map (fun l => rLst X.K (List.map (rNum X.K) l)) ([])) (dl_lst da_nil (show (0 : Nat) ≤ sizeLine by decide)) ?cl18)) da_nil)) rfl) rfl) rfl (.inl rfl) ?go_14
      (case cl18 => first | rfl | exact plain_lc | exact upto_lc2)
      (case c_Book_19 => exact bz_ok hp)
      (case o_Book_20 => exact bk_out ⟨hp.n1, hp.n2⟩ hp.nm rfl)
      refine @go_nf _ _ _ _ _ _ [_, _, _, _, _, _, _, _] rfl ?go_15
      refine go_if (DW.t (dw_or (dt_not (dt_val (CA.val (ca_call B (ok__law_cells T) (by decide) (_, _) ?c_k3_24 (da_cons (DL.froz (CA.lst (ca_callO (okr_first_free X.K) B (ok_first_free T) (by decide) (bkZ names, lot) ?c_g_21 ?o_first_free_22 (da_cons (de_var B (i := 6) rfl rfl (.inl rfl)) (da_cons (de_var B (i := 2) rfl rfl (.inr (.inl rfl))) da_nil)) rfl))) (da_cons (DL.froz (DL.to (l' := List.map rInt ([])) (dl_lst da_nil (show (0 : Nat) ≤ sizeLine by decide)) ?cl23)) da_nil)) rfl)))) (fun hb1 => (dw_or (dt_neI (CA.val (ca_callO (okr_rank X.K) B (ok_rank T) (by decide) (bkZ names, lot) ?c_g_25 ?o_rank_26 (da_cons (de_var B (i := 6) rfl rfl (.inl rfl)) (da_cons (de_var B (i := 2) rfl rfl (.inr (.inl rfl))) da_nil)) rfl)) de_int) (fun hb2 => (dw_or1 (dt_neT (dat_o (dat_lst (dat_p dat_int dat_num)) (fun _ => ⟨rfl, rfl⟩)) (by decide) B (CA.val (ca_callO (okr_settling_rule X.K) B (ok_settling_rule T) (by decide) (bkZ names, lot, (c : Int)) ?c_gr_27 ?o_settling_rule_28 (da_cons (de_var B (i := 6) rfl rfl (.inl rfl)) (da_cons (de_var B (i := 2) rfl rfl (.inr (.inl rfl))) (da_cons (de_var B (i := 3) rfl rfl (.inl rfl)) da_nil))) rfl)) (de_oS (R := (fun l => rLst X.K (List.map (rP X.K rInt (rNum X.K)) l))) (DL.froz (DL.to (l' := List.map (rP X.K rInt (rNum X.K)) ([])) (dl_lst da_nil (show (0 : Nat) ≤ sizeLine by decide)) ?cl29)))))))))) (fun hc => ?gt_16) (fun hc => ?gf_17)
      (case c_g_21 => exact ⟨hz.1.l, hz.1.ok⟩)
      (case o_first_free_22 => first | exact oc_ok hf.2 | exact oc_ok hz.2)
      (case cl23 => first | rfl | exact plain_lc | exact upto_lc2)
      (case c_k3_24 => exact ⟨bz_K _ _, Nat.zero_le _⟩)
      (case c_g_25 => exact ⟨hz.1.l, hz.1.ok⟩)
      (case o_rank_26 => first | exact oc_ok hf.2 | exact oc_ok hz.2)
      (case c_gr_27 => exact ⟨⟨hz.1.l, hz.1.ok⟩, hz.1.ru⟩)
      (case o_settling_rule_28 => first | exact (oc_ok hf.2).trans (if_neg fun z => z ⟨by omega, by show (c : Int) < (names.length : Nat); omega⟩) | exact (oc_ok hz.2).trans (if_neg fun z => z ⟨by omega, by show (c : Int) < (names.length : Nat); omega⟩))
      (case cl29 => first | rfl | exact plain_lc | exact upto_lc2)
      case gt_16 =>
        exfalso
        rw [bz_K, bz_rule] at hc; revert hc; simp
      case gf_17 =>
        try (simp only [decide_eq_true_eq, decide_eq_false_iff_not, Bool.not_eq_true', Bool.not_eq_false', Bool.not_eq_true, Bool.not_eq_false] at hc)
        refine go_then ?go_18
        refine go_ret R (CA.val (ca_call B (ok__law_cells T) (by decide) (_, _) ?c_k4_37 (da_cons (DL.froz (CA.lst (ca_callO (okr_settled X.K) B (ok_settled T) (by decide) (bkZ names, []) ?c_gs_31 ?o_settled_32 (da_cons (de_var B (i := 6) rfl rfl (.inl rfl)) (da_cons (DL.froz (DL.to (l' := List.map rInt ([])) (dl_lst da_nil (show (0 : Nat) ≤ sizeLine by decide)) ?cl30)) da_nil)) rfl))) (da_cons (DL.froz (DL.to (l' := List.map rInt (upto names.length)) (dl_lc B [("_law_cell_here", 7)] (sr_range1 B T.b_range (de_var B (i := 1) rfl rfl (.inl rfl)) rfl ?r33 ?r34) (blkOk_by (by decide +kernel)) _ (fun _ => true) (fun i : Nat => rInt ((i : Nat) : Int)) ?sz35 (by decide) (fun _ _ _ _ _ B i hi => (dg_name B (i := 7) rfl (.inl rfl))) (fun _ _ _ _ _ B i hi => dts_nil) (fun _ _ _ _ _ B i hi hb => (de_var B (i := 7) rfl rfl (.inl rfl)))) ?cl36)) da_nil)) rfl)) ?rs_19
        (case cl30 => first | rfl | exact plain_lc | exact upto_lc2)
        (case c_gs_31 => exact ⟨hz2.1.l, hz2.1.ok, hz2.1.sz⟩)
        (case o_settled_32 => first | exact oc_ok hf.2 | exact oc_ok hz2.2)
        (case r33 => first | omega | decide)
        (case r34 => first | omega | decide)
        (case sz35 => first | exact Nat.lt_of_le_of_lt (show _ ≤ 16 by omega) (by decide))
        (case cl36 => first | rfl | exact plain_lc | exact upto_lc2)
        (case c_k4_37 => exact ⟨bz_settled _ _, by rw [upto_len]; omega⟩)
        (case rs_19 => exact Sub.rfl)
end K04

set_option Elab.async false
set_option linter.all false
set_option maxRecDepth 100000
set_option maxHeartbeats 4000000
namespace K04
open PySem PySem.Spec PyProof.Rows L2 DL
variable {P : Program} {w : World} {K : PySem.W.Frag} {mg : Str → Option Value} {base : Heap} {cs : Cs}
theorem sc__law_answers : FnScope ["_law_book", "_law_size", "_law_rows_here", "_law_lot", "_law_names", "_law_at", "_law_kept", "_law_free", "_law_inside", "_law_told", "_law_known", "_law_cell_here"] ["_law_book", "_law_size", "_law_rows_here", "_law_lot", "_law_names", "_law_at"] (defScope s__law_answers) := ⟨rfl, rfl, rfl, by decide +kernel, rfl, by decide +kernel, by decide +kernel⟩
def sp__law_answers (K : PySem.W.Frag) (cs : Cs) : Sp := Pm (ι := List Str × List (List Int) × List Int × Nat) (fun ⟨names, rows, lot, c⟩ => RlOk names rows lot ∧ BsOk names lot ∧ lot.length ≤ 9 ∧ c < names.length) (fun ⟨names, rows, lot, c⟩ => [rBook K cs.Book (bkR names rows), rInt ((names.length : Nat) : Int), rLst K (rows.map fun l => rLst K (l.map rInt)), rLst K (lot.map rInt), rLst K (names.map rStr), rInt (c : Int)]) (fun ⟨names, rows, lot, c⟩ => .val (rBl true))
theorem ok__law_answers (T : Txt K mg cs) : Cal P w K mg base 10 "_law_answers" (sp__law_answers K cs) := by
  refine cal_ok T.d__law_answers sc__law_answers (fun g => rfl) (fun _ _ _ _ _ _ us hl => match us, hl with | [_, _, _, _, _, _], _ => rfl) ?_
  rintro X rfl rfl rfl rfl rfl B Bf ⟨names, rows, lot, c⟩ F0 H0 D hp R hnx
  obtain ⟨hp, hb, hl, hcn⟩ := hp
  have hn1 := hp.d.n1
  have hn := hp.d.n2
  have hlo := nc_lot hp
  have hfl := freeL_len rows lot names.length
  have hK : (clr (bkR names rows).frame (sset lot)).K = freeL rows lot names.length := pg_K hp.d hp.inn
  refine @go_nf _ _ _ _ _ _ [_, _, _, _, _, _, _, _, _, _, _, _] rfl ?go_1
  refine go_setL B (i := 6) (dl_list B T.b_list (de_var B (i := 3) rfl rfl (.inl rfl)) rfl) rfl (.inl rfl) ?go_2
  refine @go_nf _ _ _ _ _ _ [_, _, _, _, _, _, _, _, _, _, _, _] rfl ?go_3
  refine go_froz 6 rfl ?go_4
  refine @go_nf _ _ _ _ _ _ [_, _, _, _, _, _, _, _, _, _, _, _] rfl ?go_5
  refine go_setL B (i := 7) (CA.lst (ca_call B (ok__law_first_free T) (by decide) (rows, lot, names.length) ?c_law_first_free_1 (da_cons (de_var B (i := 1) rfl rfl (.inl rfl)) (da_cons (de_var B (i := 2) rfl rfl (.inr (.inl rfl))) (da_cons (de_var B (i := 3) rfl rfl (.inl rfl)) da_nil))) rfl)) rfl (.inr ⟨rfl, Bf _⟩) ?go_6
  (case c_law_first_free_1 => exact ⟨hp.d, hp.m⟩)
  refine @go_nf _ _ _ _ _ _ [_, _, _, _, _, _, _, _, _, _, _, _] rfl ?go_7
  refine go_frozH 7 rfl ?go_8
  refine @go_nf _ _ _ _ _ _ [_, _, _, _, _, _, _, _, _, _, _, _] rfl ?go_9
  refine go_setLc (l' := List.map rInt (insL names rows lot)) B [("_law_cell_here", 11)] (sr_range1 B T.b_range (de_var B (i := 1) rfl rfl (.inl rfl)) rfl ?r2 ?r3) (blkOk_by (by decide +kernel)) _ _ (fun i : Nat => rInt ((i : Nat) : Int)) ?sz7 (by decide) (fun _ _ _ _ _ B i hi => (dg_name B (i := 11) rfl (.inl rfl))) (fun _ _ _ _ _ B i hi => (dts_one (dt_eqI (CA.val (ca_call B (ok__law_rank_at T) (by decide) (rows, freeL rows lot names.length ++ [(i : Int)], names.length) ?c_law_rank_at_6 (da_cons (de_var B (i := 2) rfl rfl (.inr (.inl rfl))) (da_cons (DL.froz (DL.to (l' := List.map rInt (freeL rows lot names.length ++ [(i : Int)])) (dl_catH ?cz4 (de_var B (i := 7) rfl rfl (.inr (.inl rfl))) (DL.hfz (dl_lst (da_cons (de_var B (i := 11) rfl rfl (.inl rfl)) da_nil) (show (1 : Nat) ≤ sizeLine by decide)))) ?cl5)) da_nil)) rfl)) (de_lenM B T.b_len (de_h2l (de_var B (i := 7) rfl rfl (.inr (.inl rfl)))) rfl)))) (fun _ _ _ _ _ B i hi hb => (de_var B (i := 11) rfl rfl (.inl rfl))) (hl := ?cl8) (iy := 8) (hNy := rfl) (hyl := rfl) (h := ?go_10) (hsw := fun env h => by cases env; subst h; with_unfolding_all rfl)
  (case r2 => first | omega | decide)
  (case r3 => first | omega | decide)
  (case cz4 => exact Nat.le_trans (show _ ≤ 40 by simp; omega) (by decide))
  (case cl5 => first | exact ins_lc hp | (rw [List.map_append]; rfl))
  (case c_law_rank_at_6 => exact ff_rkn ⟨hp.d, hp.m⟩ ⟨by omega, by omega⟩)
  (case sz7 => exact Nat.lt_of_le_of_lt (show _ ≤ 16 by simp; omega) (by decide))
  (case cl8 => first | exact ins_lc hp | (rw [List.map_append]; rfl))
  refine @go_nf _ _ _ _ _ _ [_, _, _, _, _, _, _, _, _, _, _, _] rfl ?go_11
  refine go_froz 8 rfl ?go_12
  refine @go_nf _ _ _ _ _ _ [_, _, _, _, _, _, _, _, _, _, _, _] rfl ?go_13
  refine go_setL B (i := 9) (CA.lst (ca_callO (okr_first_free X.K) B (ok_first_free T) (by decide) (bkR names rows, lot) ?c_first_free_9 ?o_first_free_10 (da_cons (de_var B (i := 0) rfl rfl (.inl rfl)) (da_cons (de_var B (i := 3) rfl rfl (.inl rfl)) da_nil)) rfl)) rfl (.inl rfl) ?go_14
  (case c_first_free_9 => exact ⟨hlo.1.l, hlo.1.ok⟩)
  (case o_first_free_10 => exact oc_ok hlo.2)
  refine @go_nf _ _ _ _ _ _ [_, _, _, _, _, _, _, _, _, _, _, _] rfl ?go_15
  refine go_if (dt_lend 9 rfl (dt_not (dt_val (CA.val (ca_call B (ok__law_cells T) (by decide) (_, _) ?c_k1_11 (da_cons (de_var B (i := 9) rfl rfl (.inl rfl)) (da_cons (de_h2l (de_var B (i := 7) rfl rfl (.inr (.inl rfl)))) da_nil)) rfl))))) (fun hc => ?gt_16) (fun hc => ?gf_17)
  (case c_k1_11 => exact ⟨hK, fl_len hp⟩)
  case gt_16 =>
    exfalso
    revert hc; simp
  case gf_17 =>
    try (simp only [decide_eq_true_eq, decide_eq_false_iff_not, Bool.not_eq_true', Bool.not_eq_false', Bool.not_eq_true, Bool.not_eq_false] at hc)
    refine go_then ?go_18
    refine go_append B (i := 9) rfl de_int ?s12 rfl (.inl rfl) ?go_19
    (case s12 => rw [List.length_map]; first | (rw [hK]; exact Nat.lt_of_le_of_lt (fl_len hp) (by decide)) | exact Nat.lt_of_le_of_lt (ins_len hp) (by decide))
    refine @go_nf _ _ _ _ _ _ [_, _, _, _, _, _, _, _, _, _, _, _] rfl ?go_20
    refine go_set B (i := 10) (CA.val (ca_callO (okr_rank X.K) B (ok_rank T) (by decide) (bkR names rows, lot) ?c_rank_13 ?o_rank_14 (da_cons (de_var B (i := 0) rfl rfl (.inl rfl)) (da_cons (de_var B (i := 3) rfl rfl (.inl rfl)) da_nil)) rfl)) rfl (.inl rfl) ?go_21
    (case c_rank_13 => exact ⟨hlo.1.l, hlo.1.ok⟩)
    (case o_rank_14 => exact oc_ok hlo.2)
    refine @go_nf _ _ _ _ _ _ [_, _, _, _, _, _, _, _, _, _, _, _] rfl ?go_22
    refine go_if (DW.t (dw_or (dt_not (dt_val (CA.val (ca_call B (ok__law_is_int T) (by decide) _ trivial (da_cons (de_i2n (de_var B (i := 10) rfl rfl (.inl rfl))) da_nil) rfl)))) (fun hb1 => (dw_or1 (dt_neI (de_var B (i := 10) rfl rfl (.inl rfl)) (de_lenM B T.b_len (de_h2l (de_var B (i := 7) rfl rfl (.inr (.inl rfl)))) rfl)))))) (fun hc => ?gt_23) (fun hc => ?gf_24)
    case gt_23 =>
      exfalso
      rw [hK] at hc; revert hc; simp
    case gf_24 =>
      try (simp only [decide_eq_true_eq, decide_eq_false_iff_not, Bool.not_eq_true', Bool.not_eq_false', Bool.not_eq_true, Bool.not_eq_false] at hc)
      refine go_then ?go_25
      refine go_setL B (i := 9) (CA.lst (ca_callO (okr_settled X.K) B (ok_settled T) (by decide) (bkR names rows, lot) ?c_settled_15 ?o_settled_16 (da_cons (de_var B (i := 0) rfl rfl (.inl rfl)) (da_cons (de_var B (i := 3) rfl rfl (.inl rfl)) da_nil)) rfl)) rfl (.inl rfl) ?go_26
      (case c_settled_15 => exact ⟨hlo.1.l, hlo.1.ok, hlo.1.sz⟩)
      (case o_settled_16 => exact oc_ok hlo.2)
      refine @go_nf _ _ _ _ _ _ [_, _, _, _, _, _, _, _, _, _, _, _] rfl ?go_27
      refine go_if (dt_lend 9 rfl (dt_not (dt_val (CA.val (ca_call B (ok__law_cells T) (by decide) (_, _) ?c_k2_17 (da_cons (de_var B (i := 9) rfl rfl (.inl rfl)) (da_cons (de_var B (i := 8) rfl rfl (.inl rfl)) da_nil)) rfl))))) (fun hc => ?gt_28) (fun hc => ?gf_29)
      (case c_k2_17 => exact ⟨rfl, ins_len hp⟩)
      case gt_28 =>
        exfalso
        revert hc; simp
      case gf_29 =>
        try (simp only [decide_eq_true_eq, decide_eq_false_iff_not, Bool.not_eq_true', Bool.not_eq_false', Bool.not_eq_true, Bool.not_eq_false] at hc)
        refine go_then ?go_30
        refine go_append B (i := 9) rfl de_int ?s18 rfl (.inl rfl) ?go_31
        (case s18 => rw [List.length_map]; first | (rw [hK]; exact Nat.lt_of_le_of_lt (fl_len hp) (by decide)) | exact Nat.lt_of_le_of_lt (ins_len hp) (by decide))
        refine @go_nf _ _ _ _ _ _ [_, _, _, _, _, _, _, _, _, _, _, _] rfl ?go_32
        refine go_forS B (fun i => [(11, .any)]) (fun i => True) (sr_range1 B T.b_range (de_var B (i := 1) rfl rfl (.inl rfl)) rfl ?r19 ?r20) _ (fun i hi => (dg_name B (i := 11) rfl (.inl rfl))) ?h0_33 ?j0_34 (fun F1 u i hi hj => ?gb_35) (fun hj => ?ge_36)
        (case r19 => first | omega | decide)
        (case r20 => first | omega | decide)
        (case h0_33 => refine .same ?_; refine .same ?_; refine .same ?_; refine .same ?_; refine .same ?_; refine .same ?_; refine .same ?_; refine .same ?_; refine .same ?_; refine .same ?_; refine .same ?_; refine .any ?_; exact .nil)
        (case j0_34 => trivial)
        case gb_35 =>
          refine @go_nf _ _ _ _ _ _ [_, _, _, _, _, _, _, _, _, _, _, _] rfl ?go_37
          refine go_if (DW.t (dw_and (DW.t (dw_or (dt_le (de_var B (i := 1) rfl rfl (.inl rfl)) de_int) (fun hb1 => (dw_or (dt_eqI (de_var B (i := 11) rfl rfl (.inl rfl)) (de_var B (i := 5) rfl rfl (.inl rfl))) (fun hb2 => (dw_or1 (dt_inT dat_int (by decide) B (de_var B (i := 11) rfl rfl (.inl rfl)) (DL.froz (dl_to (de_var B (i := 6) rfl rfl (.inl rfl)) ?sl21 de_int))))))))) (fun hb1 => (dw_and1 (dt_not (dt_val (CA.val (ca_call B (ok__law_rule T) (by decide) (_, _, _, _) ?c_law_rule_22 (da_cons (de_var B (i := 0) rfl rfl (.inl rfl)) (da_cons (de_var B (i := 2) rfl rfl (.inr (.inl rfl))) (da_cons (de_var B (i := 3) rfl rfl (.inl rfl)) (da_cons (de_var B (i := 7) rfl rfl (.inr (.inl rfl))) (da_cons (de_var B (i := 11) rfl rfl (.inl rfl)) da_nil))))) rfl)))))))) (fun hc => ?gt_38) (fun hc => ?gf_39)
          (case sl21 => decide)
          (case c_law_rule_22 => exact ⟨hp, by omega⟩)
          case gt_38 =>
            exfalso
            revert hc; simp
          case gf_39 =>
            try (simp only [decide_eq_true_eq, decide_eq_false_iff_not, Bool.not_eq_true', Bool.not_eq_false', Bool.not_eq_true, Bool.not_eq_false] at hc)
            refine go_then ?go_40
            refine go_turnS ?jn_41 ?ln_42
            (case jn_41 => trivial)
            (case ln_42 => refine .same ?_; refine .same ?_; refine .same ?_; refine .same ?_; refine .same ?_; refine .same ?_; refine .same ?_; refine .same ?_; refine .same ?_; refine .same ?_; refine .same ?_; refine .any ?_; exact .nil)
        case ge_36 =>
          refine @go_nf _ _ _ _ _ _ [_, _, _, _, _, _, _, _, _, _, _, _] rfl ?go_43
          refine go_if (DW.t (dw_or (dt_not (dt_val (CA.val (ca_call B (ok__law_beside T) (by decide) (_, _, _) ?c_law_beside_23 (da_cons (de_var B (i := 4) rfl rfl (.inl rfl)) (da_cons (de_var B (i := 1) rfl rfl (.inl rfl)) (da_cons (de_var B (i := 3) rfl rfl (.inl rfl)) (da_cons (de_var B (i := 5) rfl rfl (.inl rfl)) da_nil)))) rfl)))) (fun hb1 => (dw_or1 (dt_neT (dat_lst dat_int) (by decide) B (de_var B (i := 3) rfl rfl (.inl rfl)) (de_var B (i := 6) rfl rfl (.inl rfl))))))) (fun hc => ?gt_44) (fun hc => ?gf_45)
          (case c_law_beside_23 => exact ⟨hb, hcn⟩)
          case gt_44 =>
            exfalso
            revert hc; simp
          case gf_45 =>
            try (simp only [decide_eq_true_eq, decide_eq_false_iff_not, Bool.not_eq_true', Bool.not_eq_false', Bool.not_eq_true, Bool.not_eq_false] at hc)
            refine go_then ?go_46
            refine go_ret R (de_and (CA.val (ca_call B (ok__law_cells T) (by decide) (_, _) ?c_k1_26 (da_cons (DL.froz (CA.lst (ca_callO (okr_first_free X.K) B (ok_first_free T) (by decide) (bkR names rows, lot) ?c_first_free_24 ?o_first_free_25 (da_cons (de_var B (i := 0) rfl rfl (.inl rfl)) (da_cons (de_var B (i := 3) rfl rfl (.inl rfl)) da_nil)) rfl))) (da_cons (de_h2l (de_var B (i := 7) rfl rfl (.inr (.inl rfl)))) da_nil)) rfl)) (fun hb1 => (de_one (CA.val (ca_call B (ok__law_cells T) (by decide) (_, _) ?c_k2_29 (da_cons (DL.froz (CA.lst (ca_callO (okr_settled X.K) B (ok_settled T) (by decide) (bkR names rows, lot) ?c_settled_27 ?o_settled_28 (da_cons (de_var B (i := 0) rfl rfl (.inl rfl)) (da_cons (de_var B (i := 3) rfl rfl (.inl rfl)) da_nil)) rfl))) (da_cons (de_var B (i := 8) rfl rfl (.inl rfl)) da_nil)) rfl))))) ?rs_47
            (case c_first_free_24 => exact ⟨hlo.1.l, hlo.1.ok⟩)
            (case o_first_free_25 => exact oc_ok hlo.2)
            (case c_k1_26 => exact ⟨hK, fl_len hp⟩)
            (case c_settled_27 => exact ⟨hlo.1.l, hlo.1.ok, hlo.1.sz⟩)
            (case o_settled_28 => exact oc_ok hlo.2)
            (case c_k2_29 => exact ⟨rfl, ins_len hp⟩)
            (case rs_47 => exact Sub.of (by simp))
end K04

set_option Elab.async false
set_option linter.all false
set_option maxRecDepth 100000
set_option maxHeartbeats 4000000
namespace K04
open PySem PySem.Spec PyProof.Rows L2 DL
variable {P : Program} {w : World} {K : PySem.W.Frag} {mg : Str → Option Value} {base : Heap} {cs : Cs}
theorem sc_law : FnScope ["_law_script", "_law_numbers_here", "_law_more", "_law_size", "_law_many", "_law_rows_here", "_law_names", "_law_book", "_law_lot", "_law_at", "_law_k", "_law_row"] ["_law_script"] (defScope s_law) := ⟨rfl, rfl, rfl, by decide +kernel, rfl, by decide +kernel, by decide +kernel⟩
def sp_law (K : PySem.W.Frag) (cs : Cs) : Sp := Pm (ι := List Int) (fun ns => True) (fun ns => [rLst K (ns.map rInt)]) (fun ns => .val (rBl true))
theorem ok_law (T : Txt K mg cs) {f : Addr} {fd : FuncData} (F : Fun K "law" "law" s_law f fd) : FnOk P w K mg base (L2.CX P w) 11 f fd ["_law_script"] (sp_law K cs) := by
  refine cal_okF F sc_law (fun g => rfl) ?_
  rintro X rfl rfl rfl rfl rfl B Bf ns F0 H0 D hp R hnx
  have hnb := nmL_b ns
  have hn := wN_b ns
  have hlt := wL_ok ns
  have hl3 : (lawN ns 1 30).length = 30 := lawN_len ns 1 30
  refine @go_nf _ _ _ _ _ _ [_, _, _, _, _, _, _, _, _, _, _, _] rfl ?go_1
  refine go_setL B (i := 1) (CA.lst (ca_call B (ok__law_numbers T) (by decide) (ns, 0, 60) ?c_law_numbers_1 (da_cons (de_var B (i := 0) rfl rfl (.inl rfl)) (da_cons de_int (da_cons de_int da_nil))) rfl)) rfl (.inl rfl) ?go_2
  (case c_law_numbers_1 => first | (show (60 : Nat) ≤ 100; decide) | (show (30 : Nat) ≤ 100; decide))
  refine @go_nf _ _ _ _ _ _ [_, _, _, _, _, _, _, _, _, _, _, _] rfl ?go_3
  refine go_froz 1 rfl ?go_4
  refine @go_nf _ _ _ _ _ _ [_, _, _, _, _, _, _, _, _, _, _, _] rfl ?go_5
  refine go_setL B (i := 2) (CA.lst (ca_call B (ok__law_numbers T) (by decide) (ns, 1, 30) ?c_law_numbers_2 (da_cons (de_var B (i := 0) rfl rfl (.inl rfl)) (da_cons de_int (da_cons de_int da_nil))) rfl)) rfl (.inr ⟨rfl, Bf _⟩) ?go_6
  (case c_law_numbers_2 => first | (show (60 : Nat) ≤ 100; decide) | (show (30 : Nat) ≤ 100; decide))
  refine @go_nf _ _ _ _ _ _ [_, _, _, _, _, _, _, _, _, _, _, _] rfl ?go_7
  refine go_froz 2 rfl ?go_8
  refine @go_nf _ _ _ _ _ _ [_, _, _, _, _, _, _, _, _, _, _, _] rfl ?go_9
  refine go_set B (i := 3) (de_add de_int (de_mod ?z7 (de_divG ?z5 ?d6 (de_toInt B T.b_int (de_ixM (R := rInt) (0 : Int) ?xl3 ?xh4 (de_var B (i := 2) rfl rfl (.inr (.inl rfl))) de_int) rfl) de_int) de_int)) rfl (.inr ⟨rfl, Bf _⟩) ?go_10
  (case xl3 => first | decide | omega)
  (case xh4 => first | (rw [hl3]; decide) | (have h2 := Int.fmod_lt_of_pos ((lawN ns 1 30).getD (Int.toNat 2) 0) (show (0 : Int) < 10 by decide); show (3 : Int) + k < ((lawN ns 1 30).length : Nat); rw [hl3]; omega))
  (case z5 => first | decide | omega | (have := (fd58 hnb.1).1; omega))
  (case d6 => first | decide | exact Nat.lt_trans (lg_b (B := 16) (by omega) (n := 30) (by decide) (by decide)) (by decide))
  (case z7 => first | decide | omega | (have := (fd58 hnb.1).1; omega))
  refine @go_nf _ _ _ _ _ _ [_, _, _, _, _, _, _, _, _, _, _, _] rfl ?go_11
  refine go_ifK [(3, .im (rInt ((((nmL ns).length : Nat)) : Int)))] (dt_eqI (de_mod ?z10 (de_toInt B T.b_int (de_ixM (R := rInt) (0 : Int) ?xl8 ?xh9 (de_var B (i := 2) rfl rfl (.inr (.inl rfl))) de_int) rfl) de_int) de_int) ?gk_12 (fun hk hc => ?gt_13) (fun hk hc => ?gf_14)
  (case xl8 => first | decide | omega)
  (case xh9 => first | (rw [hl3]; decide) | (have h2 := Int.fmod_lt_of_pos ((lawN ns 1 30).getD (Int.toNat 2) 0) (show (0 : Int) < 10 by decide); show (3 : Int) + k < ((lawN ns 1 30).length : Nat); rw [hl3]; omega))
  (case z10 => first | decide | omega | (have := (fd58 hnb.1).1; omega))
  case gt_13 =>
    skip
    refine go_set B (i := 3) (de_add de_int (de_mod ?z49 (de_divG ?z47 ?d48 (de_toInt B T.b_int (de_ixM (R := rInt) (0 : Int) ?xl45 ?xh46 (de_var B (i := 2) rfl rfl (.inr (.inl rfl))) de_int) rfl) de_int) de_int)) rfl (.inr ⟨rfl, Bf _⟩) ?go_15
    (case xl45 => first | decide | omega)
    (case xh46 => first | (rw [hl3]; decide) | (have h2 := Int.fmod_lt_of_pos ((lawN ns 1 30).getD (Int.toNat 2) 0) (show (0 : Int) < 10 by decide); show (3 : Int) + k < ((lawN ns 1 30).length : Nat); rw [hl3]; omega))
    (case z47 => first | decide | omega | (have := (fd58 hnb.1).1; omega))
    (case d48 => first | decide | exact Nat.lt_trans (lg_b (B := 16) (by omega) (n := 30) (by decide) (by decide)) (by decide))
    (case z49 => first | decide | omega | (have := (fd58 hnb.1).1; omega))
    refine @go_nf _ _ _ _ _ _ [_, _, _, _, _, _, _, _, _, _, _, _] rfl ?go_16
    refine go_join hk ?jl_17
    (case jl_17 => refine .same ?_; refine .same ?_; refine .same ?_; refine .im ?h ?_; (case h => exact Sub.of (congrArg rInt (nmL_t hc))); refine .same ?_; refine .same ?_; refine .same ?_; refine .same ?_; refine .same ?_; refine .same ?_; refine .same ?_; refine .same ?_; exact .nil)
  case gf_14 =>
    skip
    refine go_join hk ?jl_18
    (case jl_18 => refine .same ?_; refine .same ?_; refine .same ?_; refine .im ?h ?_; (case h => exact Sub.of (congrArg rInt (nmL_f hc))); refine .same ?_; refine .same ?_; refine .same ?_; refine .same ?_; refine .same ?_; refine .same ?_; refine .same ?_; refine .same ?_; exact .nil)
  case gk_12 =>
    refine @go_nf _ _ _ _ _ _ [_, _, _, _, _, _, _, _, _, _, _, _] rfl ?go_19
    refine go_set B (i := 4) (DE.to (r' := rInt ((wN ns : Nat) : Int)) (de_mod ?z15 (de_toInt B T.b_int (de_ixM (R := rInt) (0 : Int) ?xl11 ?xh12 (de_var B (i := 2) rfl rfl (.inr (.inl rfl))) de_int) rfl) (de_add de_int (de_min3 B T.b_min (de_var B (i := 3) rfl rfl (.inr (.inl rfl))) (de_divG ?z13 ?d14 de_int (de_var B (i := 3) rfl rfl (.inr (.inl rfl)))) de_int rfl))) ?wn16) rfl (.inl rfl) ?go_20
    (case xl11 => first | decide | omega)
    (case xh12 => first | (rw [hl3]; decide) | (have h2 := Int.fmod_lt_of_pos ((lawN ns 1 30).getD (Int.toNat 2) 0) (show (0 : Int) < 10 by decide); show (3 : Int) + k < ((lawN ns 1 30).length : Nat); rw [hl3]; omega))
    (case z13 => first | decide | omega | (have := (fd58 hnb.1).1; omega))
    (case d14 => first | decide | exact Nat.lt_trans (lg_b (B := 16) (by omega) (n := 30) (by decide) (by decide)) (by decide))
    (case z15 => first | decide | omega | (have := (fd58 hnb.1).1; omega))
    (case wn16 => exact congrArg rInt hn.1.symm)
    refine @go_nf _ _ _ _ _ _ [_, _, _, _, _, _, _, _, _, _, _, _] rfl ?go_21
    refine go_setL B (i := 5) (CA.lst (ca_call B (ok__law_rows T) (by decide) (wD ns, (nmL ns).length, wN ns) ?c_law_rows_17 (da_cons (de_var B (i := 1) rfl rfl (.inl rfl)) (da_cons (de_var B (i := 3) rfl rfl (.inr (.inl rfl))) (da_cons (de_var B (i := 4) rfl rfl (.inl rfl)) da_nil))) rfl)) rfl (.inl rfl) ?go_22
    (case c_law_rows_17 => exact ⟨lawN_len ns 0 60, hnb.1, hnb.2, hn.2.1, hn.2.2⟩)
    refine @go_nf _ _ _ _ _ _ [_, _, _, _, _, _, _, _, _, _, _, _] rfl ?go_23
    refine go_froz 5 rfl ?go_24
    refine @go_nf _ _ _ _ _ _ [_, _, _, _, _, _, _, _, _, _, _, _] rfl ?go_25
    refine go_setLc (l' := List.map rStr (nmL ns)) B [("_law_k", 10)] (sr_range1 B T.b_range (de_var B (i := 3) rfl rfl (.inr (.inl rfl))) rfl ?r18 ?r19) (blkOk_by (by decide +kernel)) _ (fun _ => true) (fun k : Nat => rStr (("c" : Str) ++ ((toString ((k : Nat) : Int) : String) : Str))) ?sz22 (by decide) (fun _ _ _ _ _ B k hi => (dg_name B (i := 10) rfl (.inl rfl))) (fun _ _ _ _ _ B k hi => dts_nil) (fun _ _ _ _ _ B k hi hb => (de_catS ?ct21 de_str (de_strI B T.b_str ?sg20 (de_var B (i := 10) rfl rfl (.inl rfl)) rfl))) (hl := ?cl23) (iy := 6) (hNy := rfl) (hyl := rfl) (h := ?go_26) (hsw := fun env h => by cases env; subst h; with_unfolding_all rfl)
    (case r18 => first | omega | decide | exact Int.lt_trans (Int.fmod_lt_of_pos _ (by decide)) (by decide) | exact Int.le_trans (by decide) (Int.fmod_nonneg_of_pos _ (by decide)))
    (case r19 => first | omega | decide | exact Int.lt_trans (Int.fmod_lt_of_pos _ (by decide)) (by decide) | exact Int.le_trans (by decide) (Int.fmod_nonneg_of_pos _ (by decide)))
    (case sg20 => exact Nat.lt_trans (lg_b (B := 16) (by omega) (n := 30) (by decide) (by decide)) (by decide))
    (case ct21 => exact Nat.le_trans (nameK_len k (by omega)) (by decide))
    (case sz22 => first | exact Nat.lt_of_le_of_lt (show _ ≤ 16 by omega) (by decide) | (rw [rowsZ_len]; exact Nat.lt_trans hn.2.1 (by decide)) | (have h2 := Int.fmod_lt_of_pos ((lawN ns 1 30).getD (Int.toNat 2) 0) (show (0 : Int) < 10 by decide); exact Nat.lt_of_le_of_lt (show _ ≤ 16 by omega) (by decide)))
    (case cl23 => first | exact nmL_lc ns | exact wL_lc ns | exact lc_map (f := fun r : List Int => rLst X.K (r.map rInt)))
    refine @go_nf _ _ _ _ _ _ [_, _, _, _, _, _, _, _, _, _, _, _] rfl ?go_27
    refine go_froz 6 rfl ?go_28
    refine @go_nf _ _ _ _ _ _ [_, _, _, _, _, _, _, _, _, _, _, _] rfl ?go_29
    refine go_set B (i := 7) (DE.to (r' := rBook X.K cs.Book ⟨_, frameQ _ _⟩) (de_make (okr_Book X.K) B (ok_Book T) (by decide) (nmL ns, (rws ns).map toQ) ?c_Book_26 ?o_Book_27 rfl (da_cons (de_var B (i := 6) rfl rfl (.inl rfl)) (da_cons (de_ll2n (DL.froz (DL.to (l' := List.map (fun l => rLst X.K (List.map rInt l)) (rws ns)) (dl_lc B [("_law_row", 11)] (sr_listM (R := (fun l => rLst X.K (List.map rInt l))) [] (de_var B (i := 5) rfl rfl (.inl rfl))) (blkOk_by (by decide +kernel)) _ (fun _ => true) (fun i : Nat => rLst X.K (((rws ns).getD i []).map rInt)) ?sz24 (by decide) (fun _ _ _ _ _ B i hi => (dg_name B (i := 11) rfl (.inl rfl))) (fun _ _ _ _ _ B i hi => dts_nil) (fun _ _ _ _ _ B i hi hb => (DL.froz (dl_list B T.b_list (de_var B (i := 11) rfl rfl (.inl rfl)) rfl)))) ?cl25))) da_nil)) rfl) rfl) rfl (.inl rfl) ?go_30
    (case sz24 => first | exact Nat.lt_of_le_of_lt (show _ ≤ 16 by omega) (by decide) | (rw [rowsZ_len]; exact Nat.lt_trans hn.2.1 (by decide)) | (have h2 := Int.fmod_lt_of_pos ((lawN ns 1 30).getD (Int.toNat 2) 0) (show (0 : Int) < 10 by decide); exact Nat.lt_of_le_of_lt (show _ ≤ 16 by omega) (by decide)))
    (case cl25 => first | exact nmL_lc ns | exact wL_lc ns | exact lc_map (f := fun r : List Int => rLst X.K (r.map rInt)))
    (case c_Book_26 => exact w_bk ns)
    (case o_Book_27 => exact bk_out hnb (nmL_ok ns).1 (w_lens ns))
    refine @go_nf _ _ _ _ _ _ [_, _, _, _, _, _, _, _, _, _, _, _] rfl ?go_31
    refine go_setLc (l' := List.map rInt (wL ns)) B [("_law_k", 10)] (sr_range1 B T.b_range (de_mod ?z30 (de_toInt B T.b_int (de_ixM (R := rInt) (0 : Int) ?xl28 ?xh29 (de_var B (i := 2) rfl rfl (.inr (.inl rfl))) de_int) rfl) de_int) rfl ?r31 ?r32) (blkOk_by (by decide +kernel)) _ (fun _ => true) (fun k : Nat => rInt (((wM ns).getD (3 + (k : Int)).toNat 0).fmod (((nmL ns).length : Nat) : Int))) ?sz36 (by decide) (fun _ _ _ _ _ B k hi => (dg_name B (i := 10) rfl (.inl rfl))) (fun _ _ _ _ _ B k hi => dts_nil) (fun _ _ _ _ _ B k hi hb => (de_mod ?z35 (de_toInt B T.b_int (de_ixM (R := rInt) (0 : Int) ?xl33 ?xh34 (de_var B (i := 2) rfl rfl (.inr (.inl rfl))) (de_add de_int (de_var B (i := 10) rfl rfl (.inl rfl)))) rfl) (de_var B (i := 3) rfl rfl (.inr (.inl rfl))))) (hl := ?cl37) (iy := 8) (hNy := rfl) (hyl := rfl) (h := ?go_32) (hsw := fun env h => by cases env; subst h; with_unfolding_all rfl)
    (case xl28 => first | decide | omega)
    (case xh29 => first | (rw [hl3]; decide) | (have h2 := Int.fmod_lt_of_pos ((lawN ns 1 30).getD (Int.toNat 2) 0) (show (0 : Int) < 10 by decide); show (3 : Int) + k < ((lawN ns 1 30).length : Nat); rw [hl3]; omega))
    (case z30 => first | decide | omega | (have := (fd58 hnb.1).1; omega))
    (case r31 => first | omega | decide | exact Int.lt_trans (Int.fmod_lt_of_pos _ (by decide)) (by decide) | exact Int.le_trans (by decide) (Int.fmod_nonneg_of_pos _ (by decide)))
    (case r32 => first | omega | decide | exact Int.lt_trans (Int.fmod_lt_of_pos _ (by decide)) (by decide) | exact Int.le_trans (by decide) (Int.fmod_nonneg_of_pos _ (by decide)))
    (case xl33 => first | decide | omega)
    (case xh34 => first | (rw [hl3]; decide) | (have h2 := Int.fmod_lt_of_pos ((lawN ns 1 30).getD (Int.toNat 2) 0) (show (0 : Int) < 10 by decide); show (3 : Int) + k < ((lawN ns 1 30).length : Nat); rw [hl3]; omega))
    (case z35 => first | decide | omega | (have := (fd58 hnb.1).1; omega))
    (case sz36 => first | exact Nat.lt_of_le_of_lt (show _ ≤ 16 by omega) (by decide) | (rw [rowsZ_len]; exact Nat.lt_trans hn.2.1 (by decide)) | (have h2 := Int.fmod_lt_of_pos ((lawN ns 1 30).getD (Int.toNat 2) 0) (show (0 : Int) < 10 by decide); exact Nat.lt_of_le_of_lt (show _ ≤ 16 by omega) (by decide)))
    (case cl37 => first | exact nmL_lc ns | exact wL_lc ns | exact lc_map (f := fun r : List Int => rLst X.K (r.map rInt)))
    refine @go_nf _ _ _ _ _ _ [_, _, _, _, _, _, _, _, _, _, _, _] rfl ?go_33
    refine go_froz 8 rfl ?go_34
    refine @go_nf _ _ _ _ _ _ [_, _, _, _, _, _, _, _, _, _, _, _] rfl ?go_35
    refine go_set B (i := 9) (DE.to (r' := rInt ((wA ns : Nat) : Int)) (de_mod ?z40 (de_toInt B T.b_int (de_ixM (R := rInt) (0 : Int) ?xl38 ?xh39 (de_var B (i := 2) rfl rfl (.inr (.inl rfl))) de_int) rfl) (de_var B (i := 3) rfl rfl (.inr (.inl rfl)))) ?wa41) rfl (.inl rfl) ?go_36
    (case xl38 => first | decide | omega)
    (case xh39 => first | (rw [hl3]; decide) | (have h2 := Int.fmod_lt_of_pos ((lawN ns 1 30).getD (Int.toNat 2) 0) (show (0 : Int) < 10 by decide); show (3 : Int) + k < ((lawN ns 1 30).length : Nat); rw [hl3]; omega))
    (case z40 => first | decide | omega | (have := (fd58 hnb.1).1; omega))
    (case wa41 => exact congrArg rInt (wA_b ns).1.symm)
    refine @go_nf _ _ _ _ _ _ [_, _, _, _, _, _, _, _, _, _, _, _] rfl ?go_37
    refine go_if (dt_not (dt_val (CA.val (ca_call B (ok__law_answers T) (by decide) (nmL ns, rws ns, wL ns, wA ns) ?c_law_answers_42 (da_cons (de_var B (i := 7) rfl rfl (.inl rfl)) (da_cons (de_var B (i := 3) rfl rfl (.inr (.inl rfl))) (da_cons (de_var B (i := 5) rfl rfl (.inl rfl)) (da_cons (de_var B (i := 8) rfl rfl (.inl rfl)) (da_cons (de_var B (i := 6) rfl rfl (.inl rfl)) (da_cons (de_var B (i := 9) rfl rfl (.inl rfl)) da_nil)))))) rfl)))) (fun hc => ?gt_38) (fun hc => ?gf_39)
    (case c_law_answers_42 => exact ⟨w_rl ns, w_bs ns, hlt.1, (wA_b ns).2⟩)
    case gt_38 =>
      try (simp only [decide_eq_true_eq, decide_eq_false_iff_not, Bool.not_eq_true', Bool.not_eq_false', Bool.not_eq_true, Bool.not_eq_false] at hc)
      refine go_ret R de_bl ?rs_40
      (case rs_40 => exfalso; revert hc; simp)
    case gf_39 =>
      try (simp only [decide_eq_true_eq, decide_eq_false_iff_not, Bool.not_eq_true', Bool.not_eq_false', Bool.not_eq_true, Bool.not_eq_false] at hc)
      refine go_then ?go_41
      refine go_ret R (CA.val (ca_call B (ok__law_refusals T) (by decide) (nmL ns, rws ns, wL ns, (wM ns).drop 14) ?c_law_refusals_44 (da_cons (de_var B (i := 7) rfl rfl (.inl rfl)) (da_cons (de_var B (i := 3) rfl rfl (.inr (.inl rfl))) (da_cons (de_var B (i := 8) rfl rfl (.inl rfl)) (da_cons (DL.froz (dl_from (de_var B (i := 2) rfl rfl (.inr (.inl rfl))) ?sl43 de_int)) da_nil)))) rfl)) ?rs_42
      (case sl43 => decide)
      (case c_law_refusals_44 => exact ⟨w_rl ns, hlt.1, by rw [List.length_drop, hl3]; decide⟩)
      (case rs_42 => exact Sub.rfl)
end K04

namespace K04
open PySem PySem.Spec PyProof.Rows L2 DL
theorem td_mk {K : PySem.W.Frag} {mg : Str → Option Value} {h : Heap} {x : Str} {st : Stmt} {f : Addr} {od an : Option Addr} {sl : Array (Option Value)} {oc kV dc pm cd ct : Value} (X : K.In h) (G : h.Ns mainGlobals mg)
    (a : PySem.W.nsIn K mainGlobals x = some (some (.ref f))) (l : K.lookup f = some ⟨oc, od, .func (PySem.W.fnOf x x (defArgs st) (defBody st) (defScope st) .none kV dc pm an cd ct), sl⟩) (c : PySem.W.codeIn K cd x = true) (k : PySem.W.keepIn K (.ref f) = true) : TD K mg x st :=
  ⟨f, _, fun_mk l c k, PySem.W.mg_of X G a⟩
theorem xcls_mk {K : PySem.W.Frag} {mg : Str → Option Value} {h : Heap} {x : Str} {C : Addr} (X : K.In h) (G : h.Ns mainGlobals mg) (g : PySem.W.nsIn K mainGlobals x = some (some (.ref C)))
    (e : PySem.W.excIn K C [.type "ValueError", .type "Exception", .type "BaseException", .type "object"] "ValueError.__new__" = true) (k : PySem.W.keepIn K (.ref C) = true) (b : PySem.W.subIn K (.ref C) (.type "BaseException") = some true)
    (t : PySem.W.typeIn K (.ref C) = some (.type "type")) (hd : PySem.W.hasDictIn K C = true) : XCls K mg x C := ⟨PySem.W.mg_of X G g, e, k, b, t, hd⟩
theorem int_mk {K : PySem.W.Frag} {mg : Str → Option Value} {h : Heap} {x : Str} {n : Int} {tk : Nat} (X : K.In h) (G : h.Ns mainGlobals mg) (g : PySem.W.nsIn K mainGlobals x = some (some (.int n tk))) : ∃ u, mg x = some u ∧ RelV (.int n) u := ⟨_, PySem.W.mg_of X G g, _, rfl⟩
theorem str_mk {K : PySem.W.Frag} {mg : Str → Option Value} {h : Heap} {x s : Str} {tk : Nat} (X : K.In h) (G : h.Ns mainGlobals mg) (g : PySem.W.nsIn K mainGlobals x = some (some (.str s tk))) : ∃ u, mg x = some u ∧ RelV (.str s) u := ⟨_, PySem.W.mg_of X G g, _, rfl⟩
abbrev i_NoCell : Stmt := inClass (topS 3) 0
theorem sci_NoCell : FnScope ["self", "cell"] ["self", "cell"] (defScope i_NoCell) := ⟨rfl, rfl, rfl, by decide +kernel, rfl, by decide +kernel, by decide +kernel⟩
theorem ini_NoCell {P : Program} {w : World} {K : PySem.W.Frag} {mg : Str → Option Value} {base : Heap} {f : Addr} {fd : FuncData} (F : Fun K "__init__" "NoCell.__init__" i_NoCell f fd) : FnOk P w K mg base CX0 1 f fd ["self", "cell"] (spIni K "cell") := by
  refine F.ok sci_NoCell (fun vs H Q E h => ?_) (fun cdv A outer s H vs Q E hr h => ?_)
  · obtain ⟨a, C, v, e, _⟩ := h
    rw [e]; rfl
  · obtain ⟨a, C, v, e, he, ho, hn, q⟩ := h
    subst e
    refine ⟨_, pss_one (ps_ost (pe_var (i := 0) rfl (.inl rfl)) (pe_var (i := 1) rfl (.inl rfl))), ?_⟩
    refine ⟨v, rfl, ?_⟩
    refine ⟨.ref a, rfl, a, C, rfl, ho, hn, .inl ⟨he, fun dx n ne => ?_⟩⟩
    exact q dx n ne
theorem xclsF_NoCell {K : PySem.W.Frag} {mg : Str → Option Value} {h : Heap} {C f : Addr} {nm q N bs bm sn sub ab col dd k0 k1 k2 k3 k5} {od an : Option Addr} {sl : Array (Option Value)} {oc kV dc pm cd ct : Value} (X : K.In h) (G : h.Ns mainGlobals mg)
    (g : PySem.W.nsIn K mainGlobals "NoCell" = some (some (.ref C))) (cl : K.lookup C = some (excClassObj nm q C N bs bm true sn sub ab col dd k0 k1 k2 k3 k5 "ValueError.__new__")) (rv : PySem.HandSPX.refsVE bm = true)
    (sa : PySem.W.findIn K (.ref C) "__setattr__" = some (some (.builtin "object.__setattr__"))) (ex : PySem.W.subIn K (.ref C) (.type "BaseException") = some true) (ty : PySem.W.typeIn K (.ref C) = some (.type "type")) (k : PySem.W.keepIn K (.ref C) = true)
    (no : PySem.W.findIn K (.ref C) "cell" = some none) (ga : PySem.W.findIn K (.ref C) "__getattribute__" = some (some (.builtin "BaseException.__getattribute__"))) (gg : PySem.W.findIn K (.ref C) "__getattr__" = some none) (hd : PySem.W.hasDictIn K C = true)
    (fi : PySem.W.findIn K (.ref C) "__init__" = some (some (.ref f))) (ft : PySem.W.typeIn K (.ref f) = some (.type "function"))
    (l : K.lookup f = some ⟨oc, od, .func (PySem.W.fnOf "__init__" "NoCell.__init__" (defArgs i_NoCell) (defBody i_NoCell) (defScope i_NoCell) .none kV dc pm an cd ct), sl⟩) (c : PySem.W.codeIn K cd "NoCell.__init__" = true) (kf : PySem.W.keepIn K (.ref f) = true) : XClsF K mg "NoCell" "cell" C :=
  ⟨PySem.W.mg_of X G g, ⟨⟨nm, q, N, bs, bm, sn, sub, ab, col, dd, k0, k1, k2, k3, k5, cl, rv⟩, sa, ex, ty, k⟩, no, ⟨ga, gg, ex, hd⟩, fun P w base => ⟨f, _, fi, ft, ini_NoCell (fun_mk l c kf), (fun_mk l c kf).binds (fun _ _ _ _ _ _ us hl => match us, hl with | [_, _], _ => rfl)⟩⟩
theorem ti_Book {K : PySem.W.Frag} {mg : Str → Option Value} {h : Heap} {C f : Addr} {od an : Option Addr} {sl : Array (Option Value)} {oc kV dc pm cd ct : Value} (X : K.In h) (G : h.Ns mainGlobals mg)
    (g : PySem.W.nsIn K mainGlobals "Book" = some (some (.ref C))) (fi : PySem.W.findIn K (.ref C) "__init__" = some (some (.ref f))) (l : K.lookup f = some ⟨oc, od, .func (PySem.W.fnOf "__init__" "Book.__init__" (defArgs s_Book) (defBody s_Book) (defScope s_Book) .none kV dc pm an cd ct), sl⟩) (c : PySem.W.codeIn K cd "Book.__init__" = true) (kf : PySem.W.keepIn K (.ref f) = true)
    (mk : PySem.W.makesIn K C = true) (fn : PySem.W.isFn K (.ref f) = true) (kp : PySem.W.keepIn K (.ref C) = true) (pg : PySem.W.plainGet K C Str.empty = true) (hd : PySem.W.hasDictIn K C = true) (po : PySem.W.plainOver K C = true) (sa : PySem.W.findIn K (.ref C) "__setattr__" = some (some (.builtin "object.__setattr__")))
    (n0 : PySem.W.findIn K (.ref C) "names" = some none) (n1 : PySem.W.findIn K (.ref C) "size" = some none) (n2 : PySem.W.findIn K (.ref C) "frame" = some none) : TI K mg "Book" "Book.__init__" C s_Book ["names", "size", "frame"] :=
  ⟨⟨f, _, fun_mk l c kf, ⟨mk, fi, fn, kp⟩⟩, PySem.W.mg_of X G g, ⟨⟨pg, hd, po, sa⟩, fun y hy => by
    simp only [List.mem_cons, List.not_mem_nil, or_false] at hy
    rcases hy with rfl | rfl | rfl
    · exact n0
    · exact n1
    · exact n2⟩⟩
theorem tc_Book_free {K : PySem.W.Frag} {C p g : Addr} {rest : List Value} {od an : Option Addr} {sl : Array (Option Value)} {oc kV dc pm cd ct : Value}
    (rd : PySem.W.readsIn K C (.type "type") = true) (ga : PySem.W.specialIn K (.ref C) "__getattribute__" = some (some (.builtin "type.__getattribute__"))) (at_ : PySem.W.findCls K (.ref C) (.type "type") "free" = some (.get (.builtin "classmethod.__get__") (.ref p) .none (.ref C)))
    (rc : PySem.W.recIn K p "classmethod" = some (.ref g :: rest)) (fi : PySem.W.fnIn K g = true) (l : K.lookup g = some ⟨oc, od, .func (PySem.W.fnOf "free" "Book.free" (defArgs s_Book_free) (defBody s_Book_free) (defScope s_Book_free) .none kV dc pm an cd ct), sl⟩) (c : PySem.W.codeIn K cd "Book.free" = true) (kf : PySem.W.keepIn K (.ref g) = true) : TC K C "free" "Book.free" s_Book_free :=
  ⟨.type "type", p, g, _, ⟨rd, ga⟩, ⟨at_, ⟨rest, rc⟩, fi⟩, fun_mk l c kf⟩
theorem txt_of {K : PySem.W.Frag} {mg : Str → Option Value} {C_BookError C_NoCell C_ZeroBottom C_BadName C_BadSize C_Book : Addr}
    (b_ValueError : mg "ValueError" = none)
    (b_abs : mg "abs" = none)
    (b_all : mg "all" = none)
    (b_bool : mg "bool" = none)
    (b_classmethod : mg "classmethod" = none)
    (b_enumerate : mg "enumerate" = none)
    (b_int : mg "int" = none)
    (b_isinstance : mg "isinstance" = none)
    (b_len : mg "len" = none)
    (b_list : mg "list" = none)
    (b_min : mg "min" = none)
    (b_range : mg "range" = none)
    (b_set : mg "set" = none)
    (b_sorted : mg "sorted" = none)
    (b_str : mg "str" = none)
    (b_tuple : mg "tuple" = none)
    (b_zip : mg "zip" = none)
    (m_gcd : mg "gcd" = some (.builtin "math.gcd"))
    (m_lcm : mg "lcm" = some (.builtin "math.lcm"))
    (x_BookError : XCls K mg "BookError" C_BookError)
    (x_NoCell : XClsF K mg "NoCell" "cell" C_NoCell)
    (x_ZeroBottom : XCls K mg "ZeroBottom" C_ZeroBottom)
    (x_BadName : XCls K mg "BadName" C_BadName)
    (x_BadSize : XCls K mg "BadSize" C_BadSize)
    (i_Book : TI K mg "Book" "Book.__init__" C_Book s_Book ["names", "size", "frame"])
    (cm_Book_free : TC K C_Book "free" "Book.free" s_Book_free)
    (c_LETTERS : ∃ u, mg "LETTERS" = some u ∧ RelV (.str "abcdefghijklmnopqrstuvwxyz") u)
    (c_DIGITS : ∃ u, mg "DIGITS" = some u ∧ RelV (.str "0123456789") u)
    (c_MOST_CELLS : ∃ u, mg "MOST_CELLS" = some u ∧ RelV (.int 16) u)
    (c_MOST_SIGNS : ∃ u, mg "MOST_SIGNS" = some u ∧ RelV (.int 12) u)
    (d_ratio : TD K mg "ratio" s_ratio)
    (d_is_whole : TD K mg "is_whole" s_is_whole)
    (d_top_of : TD K mg "top_of" s_top_of)
    (d_bottom_of : TD K mg "bottom_of" s_bottom_of)
    (d_common_bottom : TD K mg "common_bottom" s_common_bottom)
    (d_primitive : TD K mg "primitive" s_primitive)
    (d_lowest : TD K mg "lowest" s_lowest)
    (d_cleared : TD K mg "cleared" s_cleared)
    (d_lead_at : TD K mg "lead_at" s_lead_at)
    (d_without : TD K mg "without" s_without)
    (d_lowered : TD K mg "lowered" s_lowered)
    (d_check_names : TD K mg "check_names" s_check_names)
    (d_is_name : TD K mg "is_name" s_is_name)
    (d_unit : TD K mg "unit" s_unit)
    (d_frame_of : TD K mg "frame_of" s_frame_of)
    (d_check_cell : TD K mg "check_cell" s_check_cell)
    (d_check_cells : TD K mg "check_cells" s_check_cells)
    (d_first_free : TD K mg "first_free" s_first_free)
    (d_rank : TD K mg "rank" s_rank)
    (d_settled : TD K mg "settled" s_settled)
    (d_settling_rule : TD K mg "settling_rule" s_settling_rule)
    (d_cleared_at : TD K mg "cleared_at" s_cleared_at)
    (d_is_zero_at : TD K mg "is_zero_at" s_is_zero_at)
    (d__law_cell : TD K mg "_law_cell" s__law_cell)
    (d__law_numbers : TD K mg "_law_numbers" s__law_numbers)
    (d__law_gcd : TD K mg "_law_gcd" s__law_gcd)
    (d__law_is_int : TD K mg "_law_is_int" s__law_is_int)
    (d__law_make : TD K mg "_law_make" s__law_make)
    (d__law_top : TD K mg "_law_top" s__law_top)
    (d__law_bottom : TD K mg "_law_bottom" s__law_bottom)
    (d__law_is_number : TD K mg "_law_is_number" s__law_is_number)
    (d__law_plus : TD K mg "_law_plus" s__law_plus)
    (d__law_times : TD K mg "_law_times" s__law_times)
    (d__law_entry : TD K mg "_law_entry" s__law_entry)
    (d__law_rows : TD K mg "_law_rows" s__law_rows)
    (d__law_cleared : TD K mg "_law_cleared" s__law_cleared)
    (d__law_rank_at : TD K mg "_law_rank_at" s__law_rank_at)
    (d__law_first_free : TD K mg "_law_first_free" s__law_first_free)
    (d__law_cells : TD K mg "_law_cells" s__law_cells)
    (d__law_rule : TD K mg "_law_rule" s__law_rule)
    (d__law_no_cell : TD K mg "_law_no_cell" s__law_no_cell)
    (d__law_refusals : TD K mg "_law_refusals" s__law_refusals)
    (d__law_beside : TD K mg "_law_beside" s__law_beside)
    (d__law_answers : TD K mg "_law_answers" s__law_answers)
    (d_law : TD K mg "law" s_law)
    (e_NoCell : ExcC K C_NoCell)
    (s_NoCell_BookError : PySem.W.subIn K (.ref C_NoCell) (.ref C_BookError) = some true)
    (k_NoCell_BookError : PySem.W.kitOne K (.ref C_NoCell) (.ref C_BookError) = some true)
    (s_NoCell_NoCell : PySem.W.subIn K (.ref C_NoCell) (.ref C_NoCell) = some true)
    (k_NoCell_NoCell : PySem.W.kitOne K (.ref C_NoCell) (.ref C_NoCell) = some true)
    (s_NoCell_ZeroBottom : PySem.W.subIn K (.ref C_NoCell) (.ref C_ZeroBottom) = some false)
    (k_NoCell_ZeroBottom : PySem.W.kitOne K (.ref C_NoCell) (.ref C_ZeroBottom) = some false)
    (s_NoCell_BadName : PySem.W.subIn K (.ref C_NoCell) (.ref C_BadName) = some false)
    (k_NoCell_BadName : PySem.W.kitOne K (.ref C_NoCell) (.ref C_BadName) = some false)
    (s_NoCell_BadSize : PySem.W.subIn K (.ref C_NoCell) (.ref C_BadSize) = some false)
    (k_NoCell_BadSize : PySem.W.kitOne K (.ref C_NoCell) (.ref C_BadSize) = some false)
    (s_NoCell_Book : PySem.W.subIn K (.ref C_NoCell) (.ref C_Book) = some false)
    (k_NoCell_Book : PySem.W.kitOne K (.ref C_NoCell) (.ref C_Book) = some false)
    (k_NoCell_ValueError : PySem.W.kitOne K (.ref C_NoCell) (.type "ValueError") = some true) : ∃ cs : Cs, Txt K mg cs :=
  ⟨⟨C_BookError, C_NoCell, C_ZeroBottom, C_BadName, C_BadSize, C_Book⟩, { b_ValueError := b_ValueError, b_abs := b_abs, b_all := b_all, b_bool := b_bool, b_classmethod := b_classmethod, b_enumerate := b_enumerate, b_int := b_int, b_isinstance := b_isinstance, b_len := b_len, b_list := b_list, b_min := b_min, b_range := b_range, b_set := b_set, b_sorted := b_sorted, b_str := b_str, b_tuple := b_tuple, b_zip := b_zip, m_gcd := m_gcd, m_lcm := m_lcm, x_BookError := x_BookError, x_NoCell := x_NoCell, x_ZeroBottom := x_ZeroBottom, x_BadName := x_BadName, x_BadSize := x_BadSize, i_Book := i_Book, cm_Book_free := cm_Book_free, c_LETTERS := c_LETTERS, c_DIGITS := c_DIGITS, c_MOST_CELLS := c_MOST_CELLS, c_MOST_SIGNS := c_MOST_SIGNS, d_ratio := d_ratio, d_is_whole := d_is_whole, d_top_of := d_top_of, d_bottom_of := d_bottom_of, d_common_bottom := d_common_bottom, d_primitive := d_primitive, d_lowest := d_lowest, d_cleared := d_cleared, d_lead_at := d_lead_at, d_without := d_without, d_lowered := d_lowered, d_check_names := d_check_names, d_is_name := d_is_name, d_unit := d_unit, d_frame_of := d_frame_of, d_check_cell := d_check_cell, d_check_cells := d_check_cells, d_first_free := d_first_free, d_rank := d_rank, d_settled := d_settled, d_settling_rule := d_settling_rule, d_cleared_at := d_cleared_at, d_is_zero_at := d_is_zero_at, d__law_cell := d__law_cell, d__law_numbers := d__law_numbers, d__law_gcd := d__law_gcd, d__law_is_int := d__law_is_int, d__law_make := d__law_make, d__law_top := d__law_top, d__law_bottom := d__law_bottom, d__law_is_number := d__law_is_number, d__law_plus := d__law_plus, d__law_times := d__law_times, d__law_entry := d__law_entry, d__law_rows := d__law_rows, d__law_cleared := d__law_cleared, d__law_rank_at := d__law_rank_at, d__law_first_free := d__law_first_free, d__law_cells := d__law_cells, d__law_rule := d__law_rule, d__law_no_cell := d__law_no_cell, d__law_refusals := d__law_refusals, d__law_beside := d__law_beside, d__law_answers := d__law_answers, d_law := d_law, e_NoCell := e_NoCell, s_NoCell_BookError := s_NoCell_BookError, k_NoCell_BookError := k_NoCell_BookError, s_NoCell_NoCell := s_NoCell_NoCell, k_NoCell_NoCell := k_NoCell_NoCell, s_NoCell_ZeroBottom := s_NoCell_ZeroBottom, k_NoCell_ZeroBottom := k_NoCell_ZeroBottom, s_NoCell_BadName := s_NoCell_BadName, k_NoCell_BadName := k_NoCell_BadName, s_NoCell_BadSize := s_NoCell_BadSize, k_NoCell_BadSize := k_NoCell_BadSize, s_NoCell_Book := s_NoCell_Book, k_NoCell_Book := k_NoCell_Book, k_NoCell_ValueError := k_NoCell_ValueError }⟩
def spLaw (K : PySem.W.Frag) : Sp := Pm (ι := List Int) (fun ns => True) (fun ns => [rLst K (ns.map rInt)]) (fun ns => .val (rBl true))
theorem law_end {l : PySem.W.OpenLaw} {w : World} {K : PySem.W.Frag} {mg : Str → Option Value} {h : Heap} {fa : Addr} {cs : Cs} (hmg : mg "law" = some (.ref fa)) (T : Txt K mg cs) :
    ∃ fd : FuncData, (∀ (s : Shared) (u : Value), BindsTo s fd ⟨[u], []⟩ [("_law_script", u)]) ∧ ∀ base : Heap, K.In base → base.Ns mainGlobals mg → FnOk l.prog w K mg base (L2.CX l.prog w) 11 fa fd ["_law_script"] (spLaw K) := by
  obtain ⟨f, fd, F, hm⟩ := T.d_law.ex
  have e : f = fa := by rw [hm] at hmg; cases hmg; rfl
  subst e
  refine ⟨fd, fun s u => ?_, fun base hK hn => ?_⟩
  · obtain ⟨oc, od, kV, doc, pm, an, cdv, ct, osl, rfl, _, _⟩ := F.ex
    exact .of_eq rfl
  · exact ok_law (P := l.prog) (w := w) (base := base) T F
theorem walk {l : PySem.W.OpenLaw} {q : Program} {loose : List Str} {XP : (Str → Option Value) → Heap → Prop} {YP : World → Heap → Prop} {d : DefRec} {K : Params → PySem.W.Frag} (hn : l.most = some 63) (hdf : d.params.defaults = []) (hd : d.name = "law")
    (hY : ∀ (w : World) (h : Heap), YP w h → (K w.params).In h)
    (F : ∀ (w : World) (mg : Str → Option Value) (h : Heap), (K w.params).In h → h.Ns mainGlobals mg → ∃ cs : Cs, Txt (K w.params) mg cs) :
    PySem.W.WalkO q loose XP YP l.row.toRowW d [] (fun f vs => PySem.call f vs) :=
  L2.walk_of (n := 63) (k := 11) (x := "_law_script") (CX := fun w => L2.CX l.prog w) (sp := fun w => spLaw (K w.params)) hn (by decide) hdf ⟨rfl, by decide, by decide⟩ hY
    (fun w mg fa h KX G hmg => by
      obtain ⟨cs, T⟩ := F w mg h KX G
      exact law_end (h := h) (hd ▸ hmg) T)
    (fun _ H a ns hl _ hS => ⟨ns, H, trivial, fun _ _ z => z, .cons ⟨a, ns.map V.int, rfl, hS, rl_ints H ns⟩ .nil, fun v _ _ _ hv => hv⟩)
    (fun _ _ _ _ _ ⟨_, _, _, _, _, _, _, _, _, _, _, _, z⟩ => z)
end K04
open PySem PySem.W PyProof.Rows
set_option maxRecDepth 100000 in
set_option maxHeartbeats 0 in
theorem PySem.Challenge.cw_fineststep_k04_settled_cells_holds : PySem.Challenge.rw_fineststep_k04_settled_cells.Holds := by
  w_on; o_law; k_head; (case hw => w_witness2)
  k_fill
  refine K04.walk (l := PySem.Challenge.rw_fineststep_k04_settled_cells) rfl rfl rfl (fun w h Y => PySem.W.kIn_of Y) ?F
  case F =>
    intro w mg h KX G
    refine' K04.txt_of (PySem.W.mg_none_of KX G ?zb_ValueError) (PySem.W.mg_none_of KX G ?zb_abs) (PySem.W.mg_none_of KX G ?zb_all) (PySem.W.mg_none_of KX G ?zb_bool) (PySem.W.mg_none_of KX G ?zb_classmethod) (PySem.W.mg_none_of KX G ?zb_enumerate) (PySem.W.mg_none_of KX G ?zb_int) (PySem.W.mg_none_of KX G ?zb_isinstance) (PySem.W.mg_none_of KX G ?zb_len) (PySem.W.mg_none_of KX G ?zb_list) (PySem.W.mg_none_of KX G ?zb_min) (PySem.W.mg_none_of KX G ?zb_range) (PySem.W.mg_none_of KX G ?zb_set) (PySem.W.mg_none_of KX G ?zb_sorted) (PySem.W.mg_none_of KX G ?zb_str) (PySem.W.mg_none_of KX G ?zb_tuple) (PySem.W.mg_none_of KX G ?zb_zip) (PySem.W.mg_of KX G ?zm_gcd) (PySem.W.mg_of KX G ?zm_lcm) (K04.xcls_mk KX G ?xg_BookError ?xe_BookError ?xk_BookError ?xb_BookError ?xt_BookError ?xh_BookError) (K04.xclsF_NoCell KX G ?yg_NoCell ?yc_NoCell ?yv_NoCell ?ysa_NoCell ?yex_NoCell ?yty_NoCell ?yk_NoCell ?yno_NoCell ?yga_NoCell ?ygg_NoCell ?yhd_NoCell ?yfi_NoCell ?yft_NoCell ?yl_NoCell ?ycd_NoCell ?ykf_NoCell) (K04.xcls_mk KX G ?xg_ZeroBottom ?xe_ZeroBottom ?xk_ZeroBottom ?xb_ZeroBottom ?xt_ZeroBottom ?xh_ZeroBottom) (K04.xcls_mk KX G ?xg_BadName ?xe_BadName ?xk_BadName ?xb_BadName ?xt_BadName ?xh_BadName) (K04.xcls_mk KX G ?xg_BadSize ?xe_BadSize ?xk_BadSize ?xb_BadSize ?xt_BadSize ?xh_BadSize) (K04.ti_Book KX G ?ig_Book ?ifi_Book ?il_Book ?icd_Book ?ikf_Book ?imk_Book ?ifn_Book ?ikp_Book ?ipg_Book ?ihd_Book ?ipo_Book ?isa_Book ?in0_Book ?in1_Book ?in2_Book) (K04.tc_Book_free ?trd_Book_free ?tga_Book_free ?tat_Book_free ?trc_Book_free ?tfi_Book_free ?tl_Book_free ?tcd_Book_free ?tkf_Book_free) (K04.str_mk KX G ?zs_LETTERS) (K04.str_mk KX G ?zs_DIGITS) (K04.int_mk KX G ?zc_MOST_CELLS) (K04.int_mk KX G ?zc_MOST_SIGNS) (K04.td_mk KX G ?da_0 ?dl_0 ?dc_0 ?dk_0) (K04.td_mk KX G ?da_1 ?dl_1 ?dc_1 ?dk_1) (K04.td_mk KX G ?da_2 ?dl_2 ?dc_2 ?dk_2) (K04.td_mk KX G ?da_3 ?dl_3 ?dc_3 ?dk_3) (K04.td_mk KX G ?da_4 ?dl_4 ?dc_4 ?dk_4) (K04.td_mk KX G ?da_5 ?dl_5 ?dc_5 ?dk_5) (K04.td_mk KX G ?da_6 ?dl_6 ?dc_6 ?dk_6) (K04.td_mk KX G ?da_7 ?dl_7 ?dc_7 ?dk_7) (K04.td_mk KX G ?da_8 ?dl_8 ?dc_8 ?dk_8) (K04.td_mk KX G ?da_9 ?dl_9 ?dc_9 ?dk_9) (K04.td_mk KX G ?da_10 ?dl_10 ?dc_10 ?dk_10) (K04.td_mk KX G ?da_11 ?dl_11 ?dc_11 ?dk_11) (K04.td_mk KX G ?da_12 ?dl_12 ?dc_12 ?dk_12) (K04.td_mk KX G ?da_13 ?dl_13 ?dc_13 ?dk_13) (K04.td_mk KX G ?da_14 ?dl_14 ?dc_14 ?dk_14) (K04.td_mk KX G ?da_15 ?dl_15 ?dc_15 ?dk_15) (K04.td_mk KX G ?da_16 ?dl_16 ?dc_16 ?dk_16) (K04.td_mk KX G ?da_17 ?dl_17 ?dc_17 ?dk_17) (K04.td_mk KX G ?da_18 ?dl_18 ?dc_18 ?dk_18) (K04.td_mk KX G ?da_19 ?dl_19 ?dc_19 ?dk_19) (K04.td_mk KX G ?da_20 ?dl_20 ?dc_20 ?dk_20) (K04.td_mk KX G ?da_21 ?dl_21 ?dc_21 ?dk_21) (K04.td_mk KX G ?da_22 ?dl_22 ?dc_22 ?dk_22) (K04.td_mk KX G ?da_23 ?dl_23 ?dc_23 ?dk_23) (K04.td_mk KX G ?da_24 ?dl_24 ?dc_24 ?dk_24) (K04.td_mk KX G ?da_25 ?dl_25 ?dc_25 ?dk_25) (K04.td_mk KX G ?da_26 ?dl_26 ?dc_26 ?dk_26) (K04.td_mk KX G ?da_27 ?dl_27 ?dc_27 ?dk_27) (K04.td_mk KX G ?da_28 ?dl_28 ?dc_28 ?dk_28) (K04.td_mk KX G ?da_29 ?dl_29 ?dc_29 ?dk_29) (K04.td_mk KX G ?da_30 ?dl_30 ?dc_30 ?dk_30) (K04.td_mk KX G ?da_31 ?dl_31 ?dc_31 ?dk_31) (K04.td_mk KX G ?da_32 ?dl_32 ?dc_32 ?dk_32) (K04.td_mk KX G ?da_33 ?dl_33 ?dc_33 ?dk_33) (K04.td_mk KX G ?da_34 ?dl_34 ?dc_34 ?dk_34) (K04.td_mk KX G ?da_35 ?dl_35 ?dc_35 ?dk_35) (K04.td_mk KX G ?da_36 ?dl_36 ?dc_36 ?dk_36) (K04.td_mk KX G ?da_37 ?dl_37 ?dc_37 ?dk_37) (K04.td_mk KX G ?da_38 ?dl_38 ?dc_38 ?dk_38) (K04.td_mk KX G ?da_39 ?dl_39 ?dc_39 ?dk_39) (K04.td_mk KX G ?da_40 ?dl_40 ?dc_40 ?dk_40) (K04.td_mk KX G ?da_41 ?dl_41 ?dc_41 ?dk_41) (K04.td_mk KX G ?da_42 ?dl_42 ?dc_42 ?dk_42) (K04.td_mk KX G ?da_43 ?dl_43 ?dc_43 ?dk_43) (K04.td_mk KX G ?da_44 ?dl_44 ?dc_44 ?dk_44) ⟨?e0_NoCell, ?e1_NoCell, ?e2_NoCell, ?e3_NoCell, ?e4_NoCell, ?e5_NoCell, ?e6_NoCell, ?e7_NoCell⟩ ?s_NoCell_BookError ?k_NoCell_BookError ?s_NoCell_NoCell ?k_NoCell_NoCell ?s_NoCell_ZeroBottom ?k_NoCell_ZeroBottom ?s_NoCell_BadName ?k_NoCell_BadName ?s_NoCell_BadSize ?k_NoCell_BadSize ?s_NoCell_Book ?k_NoCell_Book ?k_NoCell_VE
    (case zb_ValueError => k_is)
    (case zb_abs => k_is)
    (case zb_all => k_is)
    (case zb_bool => k_is)
    (case zb_classmethod => k_is)
    (case zb_enumerate => k_is)
    (case zb_int => k_is)
    (case zb_isinstance => k_is)
    (case zb_len => k_is)
    (case zb_list => k_is)
    (case zb_min => k_is)
    (case zb_range => k_is)
    (case zb_set => k_is)
    (case zb_sorted => k_is)
    (case zb_str => k_is)
    (case zb_tuple => k_is)
    (case zb_zip => k_is)
    (case zm_gcd => k_is)
    (case zm_lcm => k_is)
    (case xg_BookError => k_is)
    (case xe_BookError => k_exc)
    (case xk_BookError => k_is)
    (case xb_BookError => k_is)
    (case xt_BookError => k_is)
    (case xh_BookError => k_is)
    (case yg_NoCell => first | k_is | rfl | decide +kernel)
    (case yc_NoCell => first | k_is | rfl | decide +kernel)
    (case yv_NoCell => first | k_is | rfl | decide +kernel)
    (case ysa_NoCell => first | k_is | rfl | decide +kernel)
    (case yex_NoCell => first | k_is | rfl | decide +kernel)
    (case yty_NoCell => first | k_is | rfl | decide +kernel)
    (case yk_NoCell => first | k_is | rfl | decide +kernel)
    (case yno_NoCell => first | k_is | rfl | decide +kernel)
    (case yga_NoCell => first | k_is | rfl | decide +kernel)
    (case ygg_NoCell => first | k_is | rfl | decide +kernel)
    (case yhd_NoCell => first | k_is | rfl | decide +kernel)
    (case yfi_NoCell => first | k_is | rfl | decide +kernel)
    (case yft_NoCell => first | k_is | rfl | decide +kernel)
    (case yl_NoCell => first | k_is | rfl | decide +kernel)
    (case ycd_NoCell => first | k_is | rfl | decide +kernel)
    (case ykf_NoCell => first | k_is | rfl | decide +kernel)
    (case xg_ZeroBottom => k_is)
    (case xe_ZeroBottom => k_exc)
    (case xk_ZeroBottom => k_is)
    (case xb_ZeroBottom => k_is)
    (case xt_ZeroBottom => k_is)
    (case xh_ZeroBottom => k_is)
    (case xg_BadName => k_is)
    (case xe_BadName => k_exc)
    (case xk_BadName => k_is)
    (case xb_BadName => k_is)
    (case xt_BadName => k_is)
    (case xh_BadName => k_is)
    (case xg_BadSize => k_is)
    (case xe_BadSize => k_exc)
    (case xk_BadSize => k_is)
    (case xb_BadSize => k_is)
    (case xt_BadSize => k_is)
    (case xh_BadSize => k_is)
    (case ig_Book => first | k_is | rfl | decide +kernel)
    (case ifi_Book => first | k_is | rfl | decide +kernel)
    (case il_Book => first | k_is | rfl | decide +kernel)
    (case icd_Book => first | k_is | rfl | decide +kernel)
    (case ikf_Book => first | k_is | rfl | decide +kernel)
    (case imk_Book => first | k_is | rfl | decide +kernel)
    (case ifn_Book => first | k_is | rfl | decide +kernel)
    (case ikp_Book => first | k_is | rfl | decide +kernel)
    (case ipg_Book => first | k_is | rfl | decide +kernel)
    (case ihd_Book => first | k_is | rfl | decide +kernel)
    (case ipo_Book => first | k_is | rfl | decide +kernel)
    (case isa_Book => first | k_is | rfl | decide +kernel)
    (case in0_Book => first | k_is | rfl | decide +kernel)
    (case in1_Book => first | k_is | rfl | decide +kernel)
    (case in2_Book => first | k_is | rfl | decide +kernel)
    (case trd_Book_free => first | k_is | rfl | decide +kernel)
    (case tga_Book_free => first | k_is | rfl | decide +kernel)
    (case tat_Book_free => first | k_is | rfl | decide +kernel)
    (case trc_Book_free => first | k_is | rfl | decide +kernel)
    (case tfi_Book_free => first | k_is | rfl | decide +kernel)
    (case tl_Book_free => first | k_is | rfl | decide +kernel)
    (case tcd_Book_free => first | k_is | rfl | decide +kernel)
    (case tkf_Book_free => first | k_is | rfl | decide +kernel)
    (case zs_LETTERS => k_is)
    (case zs_DIGITS => k_is)
    (case zc_MOST_CELLS => k_is)
    (case zc_MOST_SIGNS => k_is)
    (case da_0 => k_is)
    (case dl_0 => k_is)
    (case dc_0 => k_is)
    (case dk_0 => k_is)
    (case da_1 => k_is)
    (case dl_1 => k_is)
    (case dc_1 => k_is)
    (case dk_1 => k_is)
    (case da_2 => k_is)
    (case dl_2 => k_is)
    (case dc_2 => k_is)
    (case dk_2 => k_is)
    (case da_3 => k_is)
    (case dl_3 => k_is)
    (case dc_3 => k_is)
    (case dk_3 => k_is)
    (case da_4 => k_is)
    (case dl_4 => k_is)
    (case dc_4 => k_is)
    (case dk_4 => k_is)
    (case da_5 => k_is)
    (case dl_5 => k_is)
    (case dc_5 => k_is)
    (case dk_5 => k_is)
    (case da_6 => k_is)
    (case dl_6 => k_is)
    (case dc_6 => k_is)
    (case dk_6 => k_is)
    (case da_7 => k_is)
    (case dl_7 => k_is)
    (case dc_7 => k_is)
    (case dk_7 => k_is)
    (case da_8 => k_is)
    (case dl_8 => k_is)
    (case dc_8 => k_is)
    (case dk_8 => k_is)
    (case da_9 => k_is)
    (case dl_9 => k_is)
    (case dc_9 => k_is)
    (case dk_9 => k_is)
    (case da_10 => k_is)
    (case dl_10 => k_is)
    (case dc_10 => k_is)
    (case dk_10 => k_is)
    (case da_11 => k_is)
    (case dl_11 => k_is)
    (case dc_11 => k_is)
    (case dk_11 => k_is)
    (case da_12 => k_is)
    (case dl_12 => k_is)
    (case dc_12 => k_is)
    (case dk_12 => k_is)
    (case da_13 => k_is)
    (case dl_13 => k_is)
    (case dc_13 => k_is)
    (case dk_13 => k_is)
    (case da_14 => k_is)
    (case dl_14 => k_is)
    (case dc_14 => k_is)
    (case dk_14 => k_is)
    (case da_15 => k_is)
    (case dl_15 => k_is)
    (case dc_15 => k_is)
    (case dk_15 => k_is)
    (case da_16 => k_is)
    (case dl_16 => k_is)
    (case dc_16 => k_is)
    (case dk_16 => k_is)
    (case da_17 => k_is)
    (case dl_17 => k_is)
    (case dc_17 => k_is)
    (case dk_17 => k_is)
    (case da_18 => k_is)
    (case dl_18 => k_is)
    (case dc_18 => k_is)
    (case dk_18 => k_is)
    (case da_19 => k_is)
    (case dl_19 => k_is)
    (case dc_19 => k_is)
    (case dk_19 => k_is)
    (case da_20 => k_is)
    (case dl_20 => k_is)
    (case dc_20 => k_is)
    (case dk_20 => k_is)
    (case da_21 => k_is)
    (case dl_21 => k_is)
    (case dc_21 => k_is)
    (case dk_21 => k_is)
    (case da_22 => k_is)
    (case dl_22 => k_is)
    (case dc_22 => k_is)
    (case dk_22 => k_is)
    (case da_23 => k_is)
    (case dl_23 => k_is)
    (case dc_23 => k_is)
    (case dk_23 => k_is)
    (case da_24 => k_is)
    (case dl_24 => k_is)
    (case dc_24 => k_is)
    (case dk_24 => k_is)
    (case da_25 => k_is)
    (case dl_25 => k_is)
    (case dc_25 => k_is)
    (case dk_25 => k_is)
    (case da_26 => k_is)
    (case dl_26 => k_is)
    (case dc_26 => k_is)
    (case dk_26 => k_is)
    (case da_27 => k_is)
    (case dl_27 => k_is)
    (case dc_27 => k_is)
    (case dk_27 => k_is)
    (case da_28 => k_is)
    (case dl_28 => k_is)
    (case dc_28 => k_is)
    (case dk_28 => k_is)
    (case da_29 => k_is)
    (case dl_29 => k_is)
    (case dc_29 => k_is)
    (case dk_29 => k_is)
    (case da_30 => k_is)
    (case dl_30 => k_is)
    (case dc_30 => k_is)
    (case dk_30 => k_is)
    (case da_31 => k_is)
    (case dl_31 => k_is)
    (case dc_31 => k_is)
    (case dk_31 => k_is)
    (case da_32 => k_is)
    (case dl_32 => k_is)
    (case dc_32 => k_is)
    (case dk_32 => k_is)
    (case da_33 => k_is)
    (case dl_33 => k_is)
    (case dc_33 => k_is)
    (case dk_33 => k_is)
    (case da_34 => k_is)
    (case dl_34 => k_is)
    (case dc_34 => k_is)
    (case dk_34 => k_is)
    (case da_35 => k_is)
    (case dl_35 => k_is)
    (case dc_35 => k_is)
    (case dk_35 => k_is)
    (case da_36 => k_is)
    (case dl_36 => k_is)
    (case dc_36 => k_is)
    (case dk_36 => k_is)
    (case da_37 => k_is)
    (case dl_37 => k_is)
    (case dc_37 => k_is)
    (case dk_37 => k_is)
    (case da_38 => k_is)
    (case dl_38 => k_is)
    (case dc_38 => k_is)
    (case dk_38 => k_is)
    (case da_39 => k_is)
    (case dl_39 => k_is)
    (case dc_39 => k_is)
    (case dk_39 => k_is)
    (case da_40 => k_is)
    (case dl_40 => k_is)
    (case dc_40 => k_is)
    (case dk_40 => k_is)
    (case da_41 => k_is)
    (case dl_41 => k_is)
    (case dc_41 => k_is)
    (case dk_41 => k_is)
    (case da_42 => k_is)
    (case dl_42 => k_is)
    (case dc_42 => k_is)
    (case dk_42 => k_is)
    (case da_43 => k_is)
    (case dl_43 => k_is)
    (case dc_43 => k_is)
    (case dk_43 => k_is)
    (case da_44 => k_is)
    (case dl_44 => k_is)
    (case dc_44 => k_is)
    (case dk_44 => k_is)
    (case e0_NoCell => k_is)
    (case e1_NoCell => k_is)
    (case e2_NoCell => k_is)
    (case e3_NoCell => k_is)
    (case e4_NoCell => k_is)
    (case e5_NoCell => k_is)
    (case e6_NoCell => k_is)
    (case e7_NoCell => k_is)
    (case s_NoCell_BookError => first | rfl | k_is)
    (case k_NoCell_BookError => first | k_is | rfl)
    (case s_NoCell_NoCell => first | rfl | k_is)
    (case k_NoCell_NoCell => first | k_is | rfl)
    (case s_NoCell_ZeroBottom => first | rfl | k_is)
    (case k_NoCell_ZeroBottom => first | k_is | rfl)
    (case s_NoCell_BadName => first | rfl | k_is)
    (case k_NoCell_BadName => first | k_is | rfl)
    (case s_NoCell_BadSize => first | rfl | k_is)
    (case k_NoCell_BadSize => first | k_is | rfl)
    (case s_NoCell_Book => first | rfl | k_is)
    (case k_NoCell_Book => first | k_is | rfl)
    (case k_NoCell_VE => first | k_is | rfl)
